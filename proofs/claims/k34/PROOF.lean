import PyProof.Rows.All
import Wide.All
import OpenK.AllK
import Wide.FinOn
import Lean
import PyProof.EqAt
import PyProof.EqKinds
import PyProof.TupleCall
import PyProof.AutoSeq1
import PyProof.NeKinds
import PySem.SetOps
import PyProof.SetKind
import PyProof.DictKinds
import PyProof.DictStraight
import PyProof.FactsAll.set_1
import PyProof.FactsAll.set_2
import PyProof.FactsAll.set_0
import PyProof.FactsAll.set_3
import PyProof.Slots
import PyProof.Rows.SetFrom
import PyProof.TupleIter
import PyProof.Walks
import PyProof.CollectWalk
import PyProof.Rows.SortShell
import PyProof.IsiH_list
import PyProof.AttrMiss
import KE.KDictOf
import PyProof.DictRoadsH
import KE.KDictList
import PyProof.CollectIter
import PyProof.TupleOfGen
import KE.KRevIter
import PyProof.ListNew
import PyProof.IsiH_tuple
import PyProof.StationsW
import PyProof.Rows.Catch
import PySem.Challenge.RW_oftentogether_k34_sayings_refused
set_option maxRecDepth 100000
set_option maxHeartbeats 4000000
set_option Elab.async false
set_option linter.all false
abbrev g0:=@PySem.wpAny_bind
abbrev g7:=@PySem.wpAny_pure
abbrev g8:=@Option.bind_eq_some_iff
abbrev g9:=@PySem.Heap.get?_push_of_some
abbrev gb:=@Option.bind_some
abbrev gc:=@List.getElem?_set_ne
abbrev gd:=@List.size_toArray
abbrev gf:=@Option.map_eq_some_iff
abbrev gh:=@List.map_cons
abbrev gi:=@PySem.Heap.lt_size
abbrev gj:=@Nat.lt_of_lt_of_le
abbrev gp:=@PySem.Heap.get?_push_size
abbrev gq:=@Nat.le_refl
abbrev gr:=@List.length_map
abbrev gs:=@Bool.false_ne_true
abbrev gu:=@Bool.false_eq_true
abbrev gv:=@List.mem_cons_self
abbrev gw:=@Nat.ne_of_lt
abbrev gx:=@if_pos
abbrev gy:=@List.mem_cons_of_mem
abbrev gz:=@List.getElem?_map
abbrev m4:=@List.mem_cons
abbrev m5:=@Ne.symm
abbrev m6:=@decide_eq_false
abbrev m8:=@if_neg
abbrev m9:=@List.getElem?_eq_getElem
abbrev ma:=@decide_eq_true
abbrev md:=@List.mem_map
abbrev mf:=@Bool.and_eq_true
abbrev mh:=@Nat.le_trans
abbrev mi:=@Option.some.inj
abbrev mj:=@List.getElem?_eq_some_iff
abbrev ml:=@List.mem_append_right
abbrev mm:=@PySem.Heap.get?_update_other
abbrev mn:=@List.length_append
abbrev mq:=@PySem.wpAny_holding
abbrev mv:=@List.mem_filter
abbrev mw:=@Option.map_some
abbrev mx:=@decide_eq_true_eq
abbrev my:=@List.lookup_cons
abbrev n4:=@List.length_filter_le
abbrev n5:=@PySem.wpAny_mono
abbrev n6:=@PySem.wpAny_call_entry
abbrev n8:=@PySem.wpAny_ite_split
abbrev n9:=@List.filter_cons
abbrev ng:=@PySem.Around.under_plainId
abbrev nh:=@List.mem_append
abbrev ni:=@List.length_take
abbrev nj:=@List.length_cons
abbrev nk:=@PySem.wpAny_askSetting
abbrev nr:=@List.map_map
abbrev nt:=@List.getElem?_append_left
abbrev nu:=@PySem.codeAny_builtin
abbrev nv:=@List.map_append
abbrev ny:=@PySem.Heap.get?_update_self
abbrev p5:=@PySem.wpAny_newObj_type
abbrev p6:=@PyProof.Rows.slot_tuple_getitem
abbrev p7:=@if_false
abbrev p8:=@List.getElem?_append_right
abbrev p9:=@PySem.Heap.SameBut.update
abbrev pd:=@Bool.not_true
abbrev pf:=@PySem.AutoSeq1.wpAny_loadPart'
abbrev ph:=@Bool.eq_iff_iff
abbrev pj:=@Nat.zero_le
abbrev pk:=@List.append_nil
abbrev pq:=@Int.emod_nonneg
abbrev pw:=@List.getElem?_replicate
abbrev pz:=@if_true
abbrev t4:=@congrArg
abbrev t5:=@Nat.ne_of_gt
abbrev t6:=@Array.getElem?_eq_some_iff
abbrev t7:=@Int.toNat_natCast
abbrev t8:=@PySem.wpAny_typeNameOfWhole_keyiter
abbrev t9:=@Option.isSome_iff_exists
abbrev td:=@PySem.wpAny_typeOf
abbrev tf:=@List.mem_singleton
abbrev ti:=@List.mem_range
abbrev tq:=@PySem.codeAny_call_builtin
abbrev tw:=@PySem.F.slot_dict_keyiterator_next
abbrev tx:=@PySem.wpAny_callSpecial?_slot
abbrev u5:=@Int.eq_ofNat_of_zero_le
abbrev u6:=@List.length_set
abbrev u7:=@List.map_nil
abbrev u9:=@List.take_of_length_le
abbrev ua:=@Nat.lt_irrefl
abbrev uc:=@beq_iff_eq
abbrev ud:=@PySem.plainId_quiet
abbrev ue:=@PySem.wpAny_Call_Name_kw
abbrev uf:=@PySem.builtinLookup_eq_fast
abbrev ug:=@List.mem_of_getElem?
abbrev uh:=@Nat.not_lt_zero
abbrev ui:=@List.Pairwise.filter
abbrev uj:=@PySem.wpAny_typeNameOf_keyiter
abbrev uk:=@PySem.PassesOwn.never
abbrev um:=@PySem.wpAny_truthy_bool
abbrev uo:=@of_decide_eq_true
abbrev uq:=@List.flatMap_cons
abbrev ur:=@beq_eq_false_iff_ne
abbrev uw:=@List.filterMap_cons
abbrev ux:=@Array.length_toList
abbrev uy:=@List.replicate_succ
abbrev uz:=@Int.toNat_of_nonneg
abbrev g00:=@List.mem_map_of_mem
abbrev g01:=@PySem.Heap.size_push
abbrev g02:=@Nat.lt_succ_self
abbrev g03:=@List.all_eq_true
abbrev g04:=@PySem.wpAny_isInstance
abbrev g05:=@PySem.sizeLine_eq
abbrev g06:=@PySem.wpAny_call
abbrev g07:=@PySem.wpAny_rule
abbrev g08:=@PySem.F.attrBase_ValueError
abbrev g09:=@PyProof.Rows.F.plain_set_update_loop
abbrev g0a:=@PySem.Obj.data_mapFields
abbrev g0b:=@Int.emod_lt_of_pos
abbrev g0c:=@PySem.wpAny_passesOwn
abbrev g0d:=@List.nodup_cons
abbrev g0e:=@List.nil_append
abbrev g0f:=@PySem.wpAny_isOneOf_keyiter
abbrev g0g:=@PySem.F.excBase_ValueError
abbrev g0h:=@List.append_assoc
abbrev g0i:=@List.pairwise_map
abbrev g0j:=@PySem.Heap.get?_none_of_le
abbrev g0k:=@List.mem_append_left
abbrev g0l:=@Classical.byContradiction
abbrev g0m:=@PySem.wpAny_setField
abbrev g0n:=@PySem.codeAny_mono
abbrev g0o:=@List.getElem?_take_of_lt
abbrev g0p:=@List.getElem_mem
abbrev g0q:=@PySem.F.called_set
abbrev g0r:=@PySem.mem_of_lookup
abbrev g0s:=@List.getElem?_cons_zero
abbrev g0t:=@PySem.wpAny_attempt
abbrev g0u:=@PySem.W.callWith_K
abbrev g0v:=@List.pairwise_cons
abbrev g0w:=@PySem.typeLookup_type
abbrev g0x:=@PySem.W.Looks.here
abbrev g0y:=@List.filter_map
abbrev g0z:=@Nat.lt_of_le_of_lt
abbrev g10:=@List.range_succ_eq_map
abbrev g11:=@Option.some.injEq
abbrev g12:=@PySem.Heap.SameBut.refl
abbrev g13:=@PySem.wpAny_pyIter_list
abbrev g14:=@List.flatten_cons
abbrev g15:=@PySem.wpAny_storeSet_of
abbrev g16:=@PySem.wpAny_loadPart_at
abbrev g17:=@Nat.le_of_lt
abbrev g18:=@List.cons.sizeOf_spec
abbrev g19:=@PySem.isSubtype_type
abbrev g1a:=@PySem.Obj.isFreed_of_fields
abbrev g1b:=@Array.getElem?_toList
abbrev g1c:=@PySem.wpAny_notOrdered_dict
abbrev g1d:=@Option.some_or
abbrev g1e:=@Option.none_or
abbrev g1f:=@PyProof.Rows.callWith_type1
abbrev g1g:=@List.idxOf_lt_length_of_mem
abbrev g1h:=@PySem.wpAny_execs_cons
abbrev g1i:=@List.length_drop
abbrev g1j:=@PySem.F.slot_tuple_mul
abbrev g1k:=@List.not_mem_nil
abbrev g1l:=@List.pairwise_append
abbrev g1m:=@Int.fdiv_eq_ediv_of_nonneg
abbrev g1n:=@PySem.wpAny_field
abbrev g1o:=@PySem.wpAny_execs_nil
abbrev g1p:=@Bool.or_eq_true
abbrev g1q:=@List.drop_eq_getElem_cons
abbrev g1r:=@PySem.wpAny_specialOf
abbrev g1s:=@PySem.F.slot_tuple_getattribute
abbrev g1t:=@PySem.Calls.Constant_str
abbrev g1u:=@List.mem_filterMap
abbrev g1v:=@PySem.F.args_tuple_add_2
abbrev g1w:=@List.filterMap_map
abbrev g1x:=@PySem.Code.quiet_builtin
abbrev g1y:=@PySem.AutoSeq1.sub_tuple_tuple
abbrev g1z:=@List.Pairwise.imp_of_mem
abbrev g20:=@Array.forIn_toList
abbrev g21:=@PyProof.Rows.F.entry_set_update_loop
abbrev g22:=@PySem.F.slot_list_getattribute
abbrev g23:=@PySem.tupleKind_room_in1
abbrev g24:=@Nat.pos_of_ne_zero
abbrev g25:=@List.take_succ
abbrev g26:=@PySem.wpAny_seqItems
abbrev g27:=@PySem.F.entry_tuple_add
abbrev g28:=@List.getElem?_set
abbrev g29:=@PySem.wpAny_setState_of
abbrev g2a:=@Nat.lt_succ_of_lt
abbrev g2b:=@PySem.atKey_none_of_get
abbrev g2c:=@PySem.F.slot_tuple_hash
abbrev g2d:=@PySem.wpAny_pyNext_list_item
abbrev g2e:=@PySem.F.slot_tuple_add
abbrev g2f:=@List.all_cons
abbrev g2g:=@beq_self_eq_true
abbrev g2h:=@Option.join_some
abbrev g2i:=@or_false
abbrev g2j:=@PySem.wpAny_forIn_list
abbrev g2k:=@PySem.wpAny_pyNext_list_end
abbrev g2l:=@List.length_replicate
abbrev g2m:=@List.length_singleton
abbrev g2n:=@List.take_append_drop
abbrev g2o:=@PySem.F.slot_dict_get
abbrev g2p:=@PySem.isSubtype_tuple_tuple
abbrev g2q:=@PyProof.Rows.callWith_builtin1
abbrev g2r:=@PySem.Calls.evalArgs_plain
abbrev g2s:=@PySem.call_meets
abbrev g2t:=@List.forIn_cons
abbrev g2u:=@PySem.W.kia_one
abbrev g2v:=@PySem.wpAny_ite_false
abbrev g2w:=@PySem.intKind_is
abbrev g2x:=@List.mem_of_mem_take
abbrev g2y:=@PySem.F.kt_typeCall_dict_1
abbrev g2z:=@PySem.F.args_dict_keyiterator_next_1
abbrev g30:=@PySem.F.slot_tuple_eq
abbrev g31:=@Nat.pow_le_pow_right
abbrev g32:=@List.eq_nil_of_length_eq_zero
abbrev g33:=@PySem.F.entry_dict_keyiterator_next
abbrev g34:=@List.map_congr_left
abbrev g35:=@Bool.false_and
abbrev g36:=@Bool.not_false
abbrev g37:=@PySem.wpAny_fieldsOf
abbrev g38:=@Nat.le_succ
abbrev g39:=@Array.append_assoc
abbrev g3a:=@PySem.wpAny_pyIter_tuple
abbrev g3b:=@PySem.IsiPair.dict_tuple
abbrev g3c:=@PySem.F.args_tuple_mul_2
abbrev g3d:=@decide_eq_true_iff
abbrev g3e:=@PySem.wpAny_dictSet_heap
abbrev g3f:=@PySem.F.args_dict_init_2
abbrev g3g:=@List.getElem_idxOf
abbrev g3h:=@PySem.wpAny_tupleItemsOf
abbrev g3i:=@Nat.gcd_zero_right
abbrev g3j:=@PySem.wpAny_standAt
abbrev g3k:=@List.perm_ext_iff_of_nodup
abbrev g3l:=@Nat.add_assoc
abbrev g3m:=@List.sum_cons
abbrev g3n:=@PySem.IsiPair.dict_bool
abbrev g3o:=@PySem.IsiPair.dict_list
abbrev g3p:=@PySem.IsiPair.dict_dict
abbrev g3q:=@PySem.F.entry_tuple_mul
abbrev g3r:=@PySem.wpAny_pyIter_slot
abbrev g3s:=@PySem.F.entry_dict_init
abbrev g3t:=@Nat.le_of_succ_le
abbrev g3u:=@PySem.wpAny_dictEntries
abbrev g3v:=@List.filter_congr
abbrev g3w:=@Nat.mod_lt
abbrev g3x:=@Array.getElem?_eq_getElem
abbrev g3y:=@List.findIdx?_eq_none_iff
abbrev g3z:=@List.mem_of_find?_eq_some
abbrev g40:=@List.getElem_inj
abbrev g41:=@PySem.concat_meets
abbrev g42:=@PySem.noFill_tuple_add
abbrev g43:=@List.drop_length
abbrev g44:=@PySem.IsiPair.dict_int
abbrev g45:=@PySem.IsiPair.dict_str
abbrev g46:=@Nat.lt_trans
abbrev g47:=@PySem.AutoSeq1.idx_int
abbrev g48:=@List.nodup_range
abbrev g49:=@List.cons_append
abbrev g4a:=@Nat.le_add_right
abbrev g4b:=@PySem.F.kt_called_dict
abbrev g4c:=@PySem.kt_code_dict_new
abbrev g4d:=@PySem.Heap.DictOfH.new
abbrev g4e:=@PySem.atKey_of_get
abbrev g4f:=@List.mem_nil_iff
abbrev g4g:=@decide_false
abbrev g4h:=@Nat.gcd_comm
abbrev g4i:=@PySem.F.plainAttrs_list
abbrev g4j:=@List.getElem?_cons_succ
abbrev g4k:=@List.of_mem_zip
abbrev g4l:=@PySem.wpAny_loadPart'
abbrev g4m:=@PySem.SeqAt.EqAt.same
abbrev g4n:=@PySem.wpAny_updateSeq
abbrev g4o:=@PySem.codeAny_of_tree
abbrev g4p:=@PySem.wpAny_dictEpoch
abbrev g4q:=@List.cons.injEq
abbrev g4r:=@Nat.div_le_self
abbrev g4s:=@List.getElem?_set_self
abbrev g4t:=@PySem.W.cellsFrom_some
abbrev g4u:=@List.sum_replicate_nat
abbrev g4v:=@List.pairwise_lt_range
abbrev g4w:=@PySem.F.entry_dict_get
abbrev g4x:=@decide_true
abbrev g4y:=@List.map_id
abbrev g4z:=@PySem.W.methodCall_KW
abbrev g50:=@List.drop_zero
abbrev g51:=@List.Perm.refl
abbrev g52:=@List.getElem?_eq_none
abbrev g53:=@List.mem_iff_getElem?
abbrev g54:=@List.map_take
abbrev g55:=@List.map_drop
abbrev g56:=@List.all_map
abbrev g57:=@Nat.min_self
abbrev g58:=@Bool.or_true
namespace L2
open PySem PySem.Spec PyProof.Rows
abbrev Key:=Sum Int Str
def qmx:Key->Value->Bool
 | .inl k,v=>Value.isInt k v
 | .inr x,v=>Value.isStrOf x v
def qt8(w:World): Key->Int
 | .inl k=>hashInt k
 | .inr x=>hashStr w x
theorem xu:∀ {k:Key} {v:Value},qmx k v=true->(∃i t,k=Sum.inl i/\v=Value.int i t)\/(∃x t,k=Sum.inr x/\v=Value.str x t)
 | .inl i,v,h=>by
  obtain⟨t,e⟩:=Value.isInt_shape (k:=i) (v:=v) h;exact .inl ⟨i,t,rfl,e⟩
 | .inr x,v,h=>by
  obtain⟨t,e⟩:=Value.isStrOf_shape (x:=x) (v:=v) h;exact .inr ⟨x,t,rfl,e⟩
theorem qp6(a b:Int): decide ((Sum.inl a:Key)=Sum.inl b)=(a==b):=by
 by_cases e:a=b
 ·subst e;simp
 ·have h:¬(Sum.inl a:Key)=Sum.inl b:=fun q=>e (Sum.inl.inj q)
  rw [m6 h];exact(ur.mpr e).symm
theorem qp7(a b:Str): decide ((Sum.inr a:Key)=Sum.inr b)=decide (a=b):=by
 by_cases e:a=b
 ·subst e;simp
 ·have h:¬(Sum.inr a:Key)=Sum.inr b:=fun q=>e (Sum.inr.inj q)
  rw [m6 h,m6 e]
theorem qp8(a:Int)(b:Str): decide ((Sum.inl a:Key)=Sum.inr b)=false:=m6 (fun q=>nomatch q)
theorem qp9(a:Str)(b:Int): decide ((Sum.inr a:Key)=Sum.inl b)=false:=m6 (fun q=>nomatch q)
def mixKind(prog:Program)(w:World): PySem.KeyKind prog w Key where
 is:=qmx
 hash:=qt8 w
 inj:=fun v a b ha hb=>by
  rcases xu ha with⟨i,t,rfl,rfl⟩|⟨x,t,rfl,rfl⟩
  ·rcases xu hb with⟨j,u,rfl,e⟩|⟨y,u,rfl,e⟩
   ·injection e with e1 _;rw [e1]
   ·exact nomatch e
  ·rcases xu hb with⟨j,u,rfl,e⟩|⟨y,u,rfl,e⟩
   ·exact nomatch e
   ·injection e with e1 _;rw [e1]
 byValue:=fun k v h=>by
  rcases xu h with⟨i,t,rfl,rfl⟩|⟨x,t,rfl,rfl⟩ <;> rfl
 pyHash:=fun hv h=>by
  rcases xu hv with⟨i,t,rfl,rfl⟩|⟨x,t,rfl,rfl⟩
  ·exact wpAny_pyHash_int h
  ·exact wpAny_pyHash_str h
 eqBool:=fun hu hv h=>by
  rcases xu hu with⟨i,t,rfl,rfl⟩|⟨x,t,rfl,rfl⟩
  ·rcases xu hv with⟨j,u,rfl,rfl⟩|⟨y,u,rfl,rfl⟩
   ·rw [qp6] at h;exact wpAny_eqBool_int h
   ·rw [qp8] at h;exact SeqAt.EqAt.int_str i t y u _ _ _ _ h
  ·rcases xu hv with⟨j,u,rfl,rfl⟩|⟨y,u,rfl,rfl⟩
   ·rw [qp9] at h;exact SeqAt.EqAt.str_int x t j u _ _ _ _ h
   ·rw [qp7] at h;exact wpAny_eqBool_str h
 «strs» :=fun k x t v h=>by
  rcases xu h with⟨i,u,rfl,e⟩|⟨y,u,rfl,e⟩
  ·exact nomatch e
  ·injection e with e1 _
   subst e1;cases v <;> rfl
inductive V where
 | non|bl (b:Bool)|int (i:Int)|str (x:Str)|byt (b:Array UInt8)|flt (b:UInt64)|ref (a:Addr)|ty (n:String)
 deriving DecidableEq
def RelV:V->Value->Prop
 | .non,u=>u=Value.none
 | .bl b,u=>u=Value.bool b
 | .int i,u=>∃t,u=Value.int i t
 | .str x,u=>∃t,u=Value.str x t
 | .byt b,u=>∃t,u=Value.bytes b t
 | .flt b,u=>∃t,u=Value.float b t
 | .ref a,u=>u=Value.ref a
 | .ty n,u=>u=Value.type n
abbrev Vals:List V->List Value->Prop:=Paired RelV
theorem Vals.length{xs:List V}{us:List Value}(r:Vals xs us): xs.length=us.length:=Paired.length r
theorem Vals.get:∀ {xs:List V} {us:List Value} {i:Nat} {x:V},Vals xs us->xs[i]? = some x->∃u,us[i]? = some u/\RelV x u
 | _,_,_,_,.nil,e=>by simp at e
 | _,_,0,_,.cons r _,e=>by simp at e;subst e;exact⟨_,rfl,r⟩
 | _,_,i+1,x,.cons _ t,e=>by
  obtain⟨u,h1,h2⟩:=Vals.get (i:=i) (x:=x) t (by simpa using e);exact⟨u,by simpa using h1,h2⟩
theorem Vals.append:∀ {xs ys:List V} {us ws:List Value},Vals xs us->Vals ys ws->Vals (xs++ys) (us++ws)
 | _,_,_,_,.nil,s=>s
 | _,_,_,_,.cons r t,s=>.cons r (Vals.append t s)
theorem Vals.take:∀ {xs:List V} {us:List Value} (n:Nat),Vals xs us->Vals (xs.take n) (us.take n)
 | _,_,0,_=>.nil
 | _,_,_+1,.nil=>.nil
 | _,_,n+1,.cons r t=>.cons r (Vals.take n t)
theorem Vals.drop:∀ {xs:List V} {us:List Value} (n:Nat),Vals xs us->Vals (xs.drop n) (us.drop n)
 | _,_,0,r=>r
 | _,_,_+1,.nil=>.nil
 | _,_,n+1,.cons _ t=>Vals.drop n t
def RelO:Option V->Option Value->Prop
 | some v,some u=>RelV v u
 | none,none=>True
 | _,_=>False
def KV{κ : Type}: List (κ × V)->List (κ × Value)->Prop:=Paired fun(p : κ × V) (q : κ × Value)=>p.1=q.1/\RelV p.2 q.2
def kV:Key->V
 | .inl i=>.int i
 | .inr x=>.str x
inductive HO where
 /-- a list -/
 | lst (xs:List V)
 /-- a tuple (never changes) -/
 | tup (xs:List V)
 /-- a dict whose keys are ints and texts; one whose keys are tuples of ints and texts (the empty one is both) -/
 | dK (kvs:List (Key×V))|dT (kvs:List (List Key×V))
 /-- a set of ints: its members, its size -/
 | set (S:Int->Bool) (n:Nat)
 /-- an instance of the class at C, its dict at dx, its attributes -/
 | ins (C dx:Addr) (fs:List (Str×V))
 /-- the dict of the instance at x -/
 | own (x:Addr)
 /-- the dict of an exception -/
 | xd (fs:List (Str×V))
 /-- a bound method, f of x -/
 | met (f x:Addr)
 /-- a range object lo, lo + 1, .. below hi -/
 | rng (lo hi:Int)
 /-- a thing that is known to the object (the script; a dict while a loop walks it): read, never written while it is so -/
 | frz (o:Obj) (u:HO)
 /-- a code object's table -/
 | tbl (ps:Array Value)
 /-- any other thing, by what is true of its one object (a def of one's own: SetO a S n := HO.ext fun h => ..) -/
 | ext (φ : Heap->Prop)
abbrev Hp:=Addr->Option HO
def upd(H:Hp)(a:Addr)(o:HO): Hp:=fun b=>if b=a then some o else H b
theorem z9{H:Hp}{a:Addr}{o:HO}: upd H a o a=some o:=by unfold upd;rw [gx rfl]
theorem qy{H:Hp}{a b:Addr}{o:HO}(h:b≠a): upd H a o b=H b:=by unfold upd;rw [m8 h]
theorem xb{H:Hp}{a b:Addr}{o:HO}(h:H a=some o)(h':H b=none): a≠b:=by
 intro e;subst e;rw [h] at h';cases h'
def TupX(h:Heap)(a:Addr)(items:Array Value): Prop:=∃o,h.get? a=some o/\o.cls=.type "tuple" /\ o.dict=none/\∃n,o.data=.seq items n
theorem TupX.up{h:Heap}{a:Addr}{items:Array Value}(p:TupX h a items): IsTup h a items:=let⟨o,x,y,_,z⟩:=p; ⟨o,x,y,z⟩
theorem TupX.new(h:Heap)(items:Array Value): TupX (h.push {cls:=.type "tuple",data:=.seq items}) h.objs.size items:=⟨_,gp _ rfl,rfl,rfl,_,rfl⟩
section
variable(P:Program)(w:World)
def ObjOk(H:Hp)(h:Heap)(a:Addr): HO->Prop
 | .lst xs=>xs.length<=sizeLine/\∃(its:List Value) (n:Nat),Vals xs its/\h.get? a=some {cls:=.type "list",data:=.seq its.toArray n}
 | .tup xs=>xs.length<=sizeLine/\∃its:List Value,Vals xs its/\TupX h a its.toArray
 | .dK kvs=>kvs.length<=sizeLine/\(a==sysModules)=false/\∃vs,KV kvs vs/\h.DictOf (mixKind P w) a vs
 | .dT kvs=>kvs.length<=sizeLine/\(a==sysModules)=false/\∃xs:List (List Key×Addr×Value),
   Paired (fun(p:List Key×V) (q:List Key×Addr×Value)=>p.1=q.1/\H q.2.1=some (.tup (p.1.map kV))/\RelV p.2 q.2.2) kvs xs /\
   ∃o es ep,h.get? a=some o/\o.ExactDict/\o.data=.dict es ep/\es.toList=xs.map (entryOfKey (tupleKind (mixKind P w)))/\(xs.map (·.1)).Nodup
 | .set S n=>h.SetOf (intKind P w) a S n
 | .ins C dx fs=>H dx=some (.own a)/\fs.length<=1000/\dx≠a/\h.get? a=some (PySem.W.instObj C dx) /\
   ∃mA,h.Ns1 dx mA/\(∀f,RelO (fs.lookup f) (mA f))/\PySem.Within mA (fs.map (·.1))
 | .own _=>∃o,h.get? a=some o
 | .xd fs=>∃mA,h.Ns1 a mA/\∀f,RelO (fs.lookup f) (mA f)
 | .rng lo hi=>∃t u v,h.get? a=some {cls:=.type "range",data:=.fields #[.int lo t,.int hi u,.int 1 v]}
 | .frz o u=>h.get? a=some o/\ObjOk H h a u
 | .tbl ps=>h.get? a=some {cls:=.none,data:=.fields ps}
 | .met f x=>h.get? a=some (PySem.W.methodObj (.ref f) (.ref x))
 | .ext φ => φ h/\(∃o,h.get? a=some o)/\∀h1 h2:Heap, φ h1->(∀o,h1.get? a=some o->h2.get? a=some o) -> φ h2
def HOk(H:Hp)(h:Heap): Prop:=∀a o,H a=some o->ObjOk P w H h a o
end
section
variable{P:Program}{w:World}{H H':Hp}{h h':Heap}{a:Addr}{o:HO}
theorem ObjOk.lt(x:ObjOk P w H h a o): a<h.objs.size:=by
 cases o with
 | lst xs=>obtain⟨_,_,_,_,e⟩:=x;exact gi e
 | tup xs=>obtain⟨_,_,_,p⟩:=x;exact p.up.lt
 | dK kvs=>obtain⟨_,_,_,_,o,_,_,e,_⟩:=x;exact gi e
 | dT kvs=>obtain⟨_,_,_,_,o,_,_,e,_⟩:=x;exact gi e
 | set S n=>obtain⟨o,_,_,_,e,_⟩:=x;exact gi e
 | ins C dx fs=>obtain⟨_,_,_,e,_⟩:=x;exact gi e
 | own y=>obtain⟨_,e⟩:=x;exact gi e
 | xd fs=>obtain⟨_,⟨_,_,_,e,_⟩,_⟩:=x;exact gi e
 | rng lo hi=>obtain⟨_,_,_,e⟩:=x;exact gi e
 | frz ob u=>obtain⟨e,_⟩:=x;exact gi e
 | tbl ps=>exact gi (show h.get? a=some _ from x)
 | met f y=>exact gi (show h.get? a=some _ from x)
 | ext φ =>obtain⟨_,⟨_,e⟩,_⟩:=x;exact gi e
theorem Paired.mapP{α β : Type}{F G : α -> β -> Prop}: ∀ {l₁:List α} {l₂:List β},Paired F l₁ l₂->(∀a b,F a b->G a b)->Paired G l₁ l₂
 | _,_,.nil,_=>.nil
 | _,_,.cons r t,f=>.cons (f _ _ r) (Paired.mapP t f)
theorem ObjOk.stay(x:ObjOk P w H h a o)(k:∀b u,(b=a\/H b=some (.own a))->h.get? b=some u->h'.get? b=some u)
  (ho:∀b,H b=some (.own a)->H' b=some (.own a)) (ht:∀b xs,H b=some (.tup xs)->H' b=some (.tup xs)):ObjOk P w H' h' a o:=by
 induction o with
 | lst xs=>obtain⟨z,its,n,r,e⟩:=x;exact⟨z,its,n,r,k _ _ (.inl rfl) e⟩
 | tup xs=>obtain⟨z,its,r,ob,e,c⟩:=x;exact⟨z,its,r,ob,k _ _ (.inl rfl) e,c⟩
 | dK kvs=>obtain⟨z,y,vs,r,ob,es,ep,e,c⟩:=x;exact⟨z,y,vs,r,ob,es,ep,k _ _ (.inl rfl) e,c⟩
 | dT kvs=>
  obtain⟨z,y,xs,r,ob,es,ep,e,c⟩:=x;exact⟨z,y,xs,Paired.mapP r fun p q z=>⟨z.1,ht _ _ z.2.1,z.2.2⟩,ob,es,ep,k _ _ (.inl rfl) e,c⟩
 | set S n=>obtain⟨ob,es,ep,t,e,c⟩:=x;exact⟨ob,es,ep,t,k _ _ (.inl rfl) e,c⟩
 | ins C dx fs=>
  obtain⟨d,z,ne,e,mA,⟨od,es,ep,e2,c⟩,r⟩:=x;exact⟨ho _ d,z,ne,k _ _ (.inl rfl) e,mA,⟨od,es,ep,k _ _ (.inr d) e2,c⟩,r⟩
 | own y=>obtain⟨ob,e⟩:=x;exact⟨ob,k _ _ (.inl rfl) e⟩
 | xd fs=>obtain⟨mA,⟨od,es,ep,e,c⟩,r⟩:=x;exact⟨mA,⟨od,es,ep,k _ _ (.inl rfl) e,c⟩,r⟩
 | rng lo hi=>obtain⟨t,u,v,e⟩:=x;exact⟨t,u,v,k _ _ (.inl rfl) e⟩
 | frz ob u ih=>obtain⟨e,q⟩:=x;exact⟨k _ _ (.inl rfl) e,ih q⟩
 | tbl ps=>
  have e:h.get? a=some {cls:=.none,data:=.fields ps}:=x;show h'.get? a=some {cls:=.none,data:=.fields ps};exact k a _ (.inl rfl) e
 | met f y=>
  have e:h.get? a=some (PySem.W.methodObj (.ref f) (.ref y)):=x;show h'.get? a=some (PySem.W.methodObj (.ref f) (.ref y));exact k a _ (.inl rfl) e
 | ext φ =>obtain⟨p,⟨o,e⟩,st⟩:=x;exact⟨st _ _ p fun o q=>k _ _ (.inl rfl) q,⟨o,k _ _ (.inl rfl) e⟩,st⟩
theorem HOk.lt(x:HOk P w H h)(e:H a=some o): a<h.objs.size:=(x a o e).lt
theorem HOk.fresh(x:HOk P w H h)(e:h.objs.size<=a): H a=none:=by
 cases q:H a with
 | none=>rfl
 | some u=>exact absurd (gj (x.lt q) e) (ua _)
theorem HOk.kept(x:HOk P w H h)(k:∀b u,h.get? b=some u->h'.get? b=some u): HOk P w H h':=fun a o e=>
 (x a o e).stay (fun b u _ q=>k b u q) (fun _ q=>q) fun _ _ q=>q
theorem HOk.laid(x:HOk P w H h)(k:∀b u,h.get? b=some u->h'.get? b=some u)(hp:h.objs.size<=a)(new:ObjOk P w (upd H a o) h' a o): HOk P w (upd H a o) h':=fun b u e=>by
 have hn:=x.fresh hp
 by_cases hb:b=a
 ·subst hb;rw [z9] at e;cases e;exact new
 ·rw [qy hb] at e
  exact(x b u e).stay (fun c v _ q=>k c v q) (fun c q=>by rw [qy (xb q hn)];exact q) fun c xs q=>by rw [qy (xb q hn)];exact q
end
def Rd(H:Hp)(a:Addr)(u:HO): Prop:=H a=some u\/∃o,H a=some (.frz o u)
theorem Rd.ok{P:Program}{w:World}{H:Hp}{h:Heap}{a:Addr}{u:HO}(r:Rd H a u)(x:HOk P w H h): ObjOk P w H h a u:=by
 rcases r with r|⟨o,r⟩
 ·exact x a u r
 ·obtain⟨_,q⟩:=x a _ r
  exact q
def Mut:Option HO->Prop
 | some (.lst _)=>True
 | some (.dK _)=>True
 | some (.dT _)=>True
 | some (.set _ _)=>True
 | some (.ins _ _ _)=>True
 | some (.ext _)=>True
 | _=>False
section
variable{P:Program}{w:World}{H:Hp}{h h':Heap}{x e:Addr}{o':HO}
theorem HOk.write(ok:HOk P w H h)(mu:Mut (H x))(he:e=x\/H e=some (.own x))(k:∀b u,b≠e->h.get? b=some u->h'.get? b=some u)(heo:∃u,h'.get? e=some u)
  (new:ObjOk P w (upd H x o') h' x o'):HOk P w (upd H x o') h':=fun b u q=>by
 have nown:∀c y,H c=some (.own y)->c≠x:=fun c y r z=>by subst z;rw [r] at mu;exact mu
 have ntup:∀c xs,H c=some (.tup xs)->c≠x:=fun c xs r z=>by subst z;rw [r] at mu;exact mu
 by_cases hb:b=x
 ·subst hb;rw [z9] at q;cases q;exact new
 ·rw [qy hb] at q
  by_cases hbe:b=e
  ·have q':H b=some (.own x):=by
    rcases he with z|z
    ·exact absurd (hbe.trans z) hb
    ·rw [hbe];exact z
   rw [q] at q';cases q';obtain⟨v,hv⟩:=heo;exact⟨v,by rw [hbe];exact hv⟩
  ·refine(ok b u q).stay (fun c v hc r=>k c v ?_ r) (fun c r=>by rw [qy (nown c b r)];exact r) fun c xs r=>by rw [qy (ntup c xs r)];exact r
   rcases hc with rfl|hc
   ·exact hbe
   ·rintro rfl
    rcases he with z|z
    ·exact nown c b hc z
    ·rw [hc] at z;cases z;exact hb rfl
end
structure Un(fs ex:List Addr)(H H':Hp)(h h':Heap): Prop where
 keep:∀b o,h.get? b=some o->H b=none->b∉fs->b∉ex->h'.get? b=some o
 slot:∀b o,h.get? b=some o->H b=none->b∈fs->b∉ex->∃sl,h'.get? b=some {o with slots:=sl}
 free:∀b o,h.get? b=some o->H b=none->b∉ex->H' b=none
 there:∀b o,h.get? b=some o->b∉ex->∃o',h'.get? b=some o'
 tups:∀b xs,H b=some (.tup xs)->H' b=some (.tup xs)
 frzs:∀b o u,H b=some (.frz o u)->H' b=some (.frz o u)
 tbls:∀b ps,H b=some (.tbl ps)->∃more,H' b=some (.tbl (ps++more))
section
variable{fs fs' ex ex':List Addr}{H H1 H2:Hp}{h h1 h2 h':Heap}{a x e:Addr}{o:HO}
theorem Un.any(u:Un fs ex H H1 h h1){b:Addr}{ob:Obj}(q:h.get? b=some ob)(n:H b=none)(hx:b∉ex): ∃sl,h1.get? b=some {ob with slots:=sl}:=by
 by_cases hb:b∈fs
 ·exact u.slot b ob q n hb hx
 ·exact⟨ob.slots,u.keep b ob q n hb hx⟩
theorem Un.trans(a:Un fs ex H H1 h h1)(b:Un fs ex H1 H2 h1 h2): Un fs ex H H2 h h2 where
 keep:=fun c ob q n hc hx=>b.keep c ob (a.keep c ob q n hc hx) (a.free c ob q n hx) hc hx
 slot:=fun c ob q n hc hx=>by
  obtain⟨sl,e1⟩:=a.slot c ob q n hc hx;obtain⟨sl',e2⟩:=b.slot c _ e1 (a.free c ob q n hx) hc hx;exact⟨sl',e2⟩
 free:=fun c ob q n hx=>by
  obtain⟨o',e1⟩:=a.there c ob q hx;exact b.free c o' e1 (a.free c ob q n hx) hx
 there:=fun c ob q hx=>by
  obtain⟨o',e1⟩:=a.there c ob q hx;exact b.there c o' e1 hx
 tups:=fun c xs q=>b.tups c xs (a.tups c xs q)
 frzs:=fun c ob xs q=>b.frzs c ob xs (a.frzs c ob xs q)
 tbls:=fun c ps q=>by
  obtain⟨m1,e1⟩:=a.tbls c ps q;obtain⟨m2,e2⟩:=b.tbls c _ e1;exact⟨m1++m2,by rw [e2,g39]⟩
theorem Un.kept(k:∀b u,h.get? b=some u->h'.get? b=some u): Un fs ex H H h h':=
 ⟨fun b ob q _ _ _=>k b ob q,fun b ob q _ _ _=>⟨ob.slots,k b ob q⟩,fun _ _ _ n _=>n,fun b ob q _=>⟨ob,k b ob q⟩,fun _ _ q=>q,fun _ _ _ q=>q,fun _ ps q=>⟨#[],by rw [q];simp⟩⟩
theorem Un.refl:Un fs ex H H h h:=Un.kept fun _ _ q=>q
theorem Un.laid(k:∀b u,h.get? b=some u->h'.get? b=some u)(hp:h.objs.size<=a)(hn:H a=none): Un fs ex H (upd H a o) h h' where
 keep:=fun b u q _ _ _=>k b u q
 slot:=fun b u q _ _ _=>⟨u.slots,k b u q⟩
 free:=fun b u q n _=>by rw [qy (gw (gj (gi q) hp))];exact n
 there:=fun b u q _=>⟨u,k b u q⟩
 tups:=fun b xs q=>by rw [qy (xb q hn)];exact q
 frzs:=fun b u xs q=>by rw [qy (xb q hn)];exact q
 tbls:=fun b ps q=>⟨#[],by rw [qy (xb q hn),q];simp⟩
theorem Un.write(mu:Mut (H x))(he:e=x\/H e=some (.own x))(k:∀b u,b≠e->h.get? b=some u->h'.get? b=some u)(heo:∃u,h'.get? e=some u): Un fs ex H (upd H x o) h h':=by
 have hx:∀b,H b=none->b≠x:=fun b n z=>by subst z;rw [n] at mu;exact mu
 have hb:∀b,H b=none->b≠e:=fun b n z=>by
  subst z;rcases he with r|r
  ·exact hx b n r
  ·rw [n] at r;cases r
 have hm:∀b u,H b=some u->¬Mut (some u)->b≠x:=fun b u q nm z=>by subst z;rw [q] at mu;exact nm mu
 refine⟨fun b u q n _ _=>k b u (hb b n) q,fun b u q n _ _=>⟨u.slots,k b u (hb b n) q⟩,fun b u q n _=>by rw [qy (hx b n)];exact n,fun b u q _=>?_,
  fun b xs q=>by rw [qy (hm b _ q fun z=>z)];exact q,fun b u xs q=>by rw [qy (hm b _ q fun z=>z)];exact q,fun b ps q=>⟨#[],by rw [qy (hm b _ q fun z=>z),q];simp⟩⟩
 by_cases hbe:b=e
 ·subst hbe;exact heo
 ·exact⟨u,k b u hbe q⟩
end
def trk(h:Heap)(H:Hp): List Addr:=(List.range h.objs.size).filter fun a=>(H a).isSome
def q48(h:Heap)(H:Hp): Heap:=PySem.W.hideAll h (trk h H)
theorem qia(h:Heap)(H:Hp): (q48 h H).objs.size=h.objs.size:=PySem.W.hideAll_size _ _
theorem qkc{h:Heap}{H:Hp}{b:Addr}{o:Obj}(e:h.get? b=some o)(n:H b=none): (q48 h H).get? b=some o:=
 PySem.W.hideAll_get _ e fun hm=>by
  have q:(H b).isSome=true:=(mv.mp hm).2;rw [n] at q;simp at q
theorem qnd{h:Heap}{H:Hp}{b:Addr}{o:Obj}(e:(q48 h H).get? b=some o): h.get? b=some o/\H b=none:=by
 have e':h.get? b=some o:=PySem.W.of_hideAll (trk h H) e;refine⟨e',?_⟩;cases q:H b with
 | none=>rfl
 | some x=>
  have hm:b∈trk h H:=mv.mpr ⟨ti.mpr (gi e'),by simp [q]⟩;have z:(q48 h H).get? b=none:=PySem.W.hideAll_none (trk h H) hm;rw [z] at e;cases e
def qne(g h:Heap)(L:Addr): List (Addr×Obj):=(List.range h.objs.size).filterMap fun a=>if a=L\/(g.get? a).isSome=true then none else(h.get? a).map fun o=>(a,o)
def rest(g h:Heap)(L d:Addr): List (Addr×Obj):=(qne g h L).filter fun p=>decide (p.1≠d)
structure Mod(K:PySem.W.Frag)(mg:Str->Option Value)(base:Heap): Prop where
 kin:K.In base
 glob:base.Ns mainGlobals mg
 blt:∃mb,base.Ns builtinsNs mb/\∀x:Str,x≠"__name__" -> mb x=bootBuiltins x
 nolimit:base.NoLimit
structure Cx where
 prog:Program
 w:World
 K:PySem.W.Frag
 mg:Str->Option Value
 base:Heap
 A:Around
 N:List Str
 s₀:Shared
 H₀:Hp
 env:Env
 outer:List Env
 stack:List Env
 ex:List Addr
 fn:Str->Bool
 calm:Bool
 pn:List (Addr×Obj)
 xe:Value->Shared->Prop
def frs(l:List Env): List Addr:=l.filterMap (·.frame)
abbrev Cx.fs(X:Cx): List Addr:=frs X.outer
def Vis(sc:Scope)(x:Str): Prop:=sc.names.lookup x=some .local\/sc.names.lookup x=some .cell\/sc.names.lookup x=some .free
def Loc(sc:Scope)(x:Str): Prop:=sc.names.lookup x=some .local\/sc.names.lookup x=some .cell
def Look(env:Env)(h:Heap)(m:Str->Option Value)(x:Str)(u:Value): Prop:=
 (env.kindOf x=some .local/\m x=some u)\/((env.kindOf x=some .cell\/env.kindOf x=some .free)/\∃c,env.cells.lookup x=some c/\h.IsCell c (some u))
structure Cx.Ok(X:Cx): Prop where
 mod:Mod X.K X.mg X.base
 kind:X.env.scope.kind=.function
 glob:X.env.globals=mainGlobals
 blt:X.env.builtins=builtinsNs
 above:X.s₀.heap.objs.size<=X.env.locals
 inj:∀x y c,X.env.cells.lookup x=some c->X.env.cells.lookup y=some c->x=y
 has:∀x,(X.env.kindOf x=some .cell\/X.env.kindOf x=some .free)->∃c,X.env.cells.lookup x=some c
 cab:∀x c,X.fn x=true->X.env.cells.lookup x=some c->X.s₀.heap.objs.size<=c
 hd:X.calm=true->X.A.handled=none
 frames:X.A.frames=some X.stack
 stk:X.stack=X.outer\/(X.stack=X.env :: X.outer/\X.env.frame=some X.env.locals)
 exf:∀b∈X.ex,b≠X.env.locals/\∀x c,X.env.cells.lookup x=some c->c≠b
 bs:∀b o,X.base.get? b=some o->X.s₀.heap.get? b=some o/\X.H₀ b=none
 bsz:X.base.objs.size<=X.s₀.heap.objs.size
 noex:∀b o,X.base.get? b=some o->b∉X.ex
 exfs:∀b∈X.ex,b∉X.fs
 funs:X.s₀.heap.FunFrames X.base X.outer
 frf:∀b∈X.fs,X.H₀ b=none
structure Inv(X:Cx)(pins:List (Addr×Obj))(σ : List (Option V))(H:Hp)(s:Shared): Prop where
 ok:X.Ok
 os:s.os=X.s₀.os
 bare:AllBare s.gens
 base:Un X.fs X.ex X.H₀ H X.s₀.heap s.heap
 loc:∃m,s.heap.Ns X.env.locals m/\∀(i:Nat) (x:Str) (v:V),X.N[i]? = some x -> σ[i]? = some (some v)->Vis X.env.scope x->∃u,RelV v u/\Look X.env s.heap m x u
 cell:∀x c,X.env.cells.lookup x=some c->∃v,s.heap.IsCell c v
 free:H X.env.locals=none
 freeC:∀x c,X.env.cells.lookup x=some c->H c=none
 pin:∀p∈X.pn++pins,s.heap.get? p.1=some p.2/\H p.1=none/\p.1≠X.env.locals/\p.1∉X.fs/\∀v,p.2.data ≠ .cell v
 hok:HOk X.prog X.w H s.heap
 len : σ.length=X.N.length
section
variable{X:Cx}{pins:List (Addr×Obj)}{σ : List (Option V)}{H H':Hp}{s:Shared}{h':Heap}
theorem Cx.Ok.nofr(ok:X.Ok){b:Addr}{o:Obj}(e:X.base.get? b=some o): b∉X.fs:=fun hb=>by
 have:=(ok.funs.mem hb).1;rw [e] at this;cases this
theorem Inv.bs(I:Inv X pins σ H s): ∀b o,X.base.get? b=some o->s.heap.get? b=some o/\H b=none:=fun b o e=>
 ⟨I.base.keep b o (I.ok.bs b o e).1 (I.ok.bs b o e).2 (I.ok.nofr e) (I.ok.noex b o e),I.base.free b o (I.ok.bs b o e).1 (I.ok.bs b o e).2 (I.ok.noex b o e)⟩
theorem Inv.bk(I:Inv X pins σ H s): ∀b o,X.base.get? b=some o->s.heap.get? b=some o:=fun b o e=>(I.bs b o e).1
theorem Inv.mod(I:Inv X pins σ H s): Mod X.K X.mg X.base:=I.ok.mod
theorem Inv.kIn(I:Inv X pins σ H s): X.K.In s.heap:=I.ok.mod.kin.keeps I.bk
theorem Inv.lt(I:Inv X pins σ H s): X.env.locals<s.heap.objs.size:=let⟨_,hn,_⟩:=I.loc;hn.lt
theorem Inv.sz(I:Inv X pins σ H s): X.s₀.heap.objs.size<=s.heap.objs.size:=mh I.ok.above (g17 I.lt)
theorem Inv.nofs(I:Inv X pins σ H s){a:Addr}(h:s.heap.objs.size<=a): a∉X.fs:=fun hb=>by
 obtain⟨_,o,ho,_⟩:=I.ok.funs.mem hb;exact absurd (gj (gi ho) (mh I.sz h)) (ua _)
theorem Inv.cne(I:Inv X pins σ H s): ∀x c,X.env.cells.lookup x=some c->c≠X.env.locals:=fun x c e z=>by
 obtain⟨v,o,ho,hd⟩:=I.cell x c e;obtain⟨m,⟨o',es,ep,ho',hd',_⟩,_⟩:=I.loc;rw [z,ho'] at ho;cases ho;rw [hd'] at hd;cases hd
theorem Inv.funs(I:Inv X pins σ H s): s.heap.FunFrames X.base X.outer:=by
 have all:∀(l:List Env),(∀b∈frs l,b∈X.fs)->X.s₀.heap.FunFrames X.base l->s.heap.FunFrames X.base l:=by
  intro l
  induction l with
  | nil=>intro _ _;trivial
  | cons env r ih=>
   intro hs hl;obtain⟨hk,⟨L,o,hf,hn,ho,hd⟩,hr⟩:=hl;have hL:L∈X.fs:=hs L (by unfold frs;rw [uw,hf];exact gv);obtain⟨sl,e⟩:=I.base.slot L o ho (I.ok.frf L hL) hL fun z=>I.ok.exfs L z hL;exact⟨hk,⟨L,_,hf,hn,e,hd⟩,ih (fun b hb=>hs b (by unfold frs;rw [uw,hf];exact gy _ hb)) hr⟩
 exact all X.outer (fun _ hb=>hb) I.ok.funs
theorem Inv.stack(I:Inv X pins σ H s): s.heap.FunFrames X.base X.stack:=by
 rcases I.ok.stk with e|⟨e,hf⟩
 ·rw [e];exact I.funs
 ·rw [e]
  obtain⟨m,hn,_⟩:=I.loc;refine .cons (by rw [I.ok.kind];decide) hf hn ?_ I.funs;exact g0j (mh I.ok.bsz I.ok.above)
theorem Inv.stkSub(I:Inv X pins σ H s): ∀b∈frs X.stack,b∈X.env.locals :: X.fs:=fun b hb=>by
 rcases I.ok.stk with e|⟨e,hf⟩
 ·rw [e] at hb;exact gy _ hb
 ·rw [e] at hb
  unfold frs at hb;rw [uw,hf] at hb;exact hb
theorem Inv.stkFree(I:Inv X pins σ H s): ∀b∈frs X.stack,H b=none:=fun b hb=>by
 rcases m4.mp (I.stkSub b hb) with e|hb
 ·rw [e];exact I.free
 ·obtain⟨_,o,ho,_⟩:=I.ok.funs.mem hb
  exact I.base.free b o ho (I.ok.frf b hb) fun z=>I.ok.exfs b z hb
theorem Inv.step{g':Array GenState}{t':Nat}{d':Drawn}{ch:List Addr}(I:Inv X pins σ H s)
  (hch:∀b∈ch,(b∈X.ex\/X.s₀.heap.objs.size<=b)/\b≠X.env.locals/\(∀x c,X.env.cells.lookup x=some c->c≠b)/\∀p∈X.pn++pins,p.1≠b)
  (keep:∀b o,b≠X.env.locals->b∉X.fs->b∉ch->s.heap.get? b=some o->H b=none->h'.get? b=some o)
  (slot:∀b o,b≠X.env.locals->b∈X.fs->b∉ch->s.heap.get? b=some o->H b=none->∃sl,h'.get? b=some {o with slots:=sl}) (free:∀b o,b∉ch->s.heap.get? b=some o->H b=none->H' b=none)
  (there:∀b o,b∉ch->s.heap.get? b=some o->∃o',h'.get? b=some o')
  (tups:∀b xs,H b=some (.tup xs)->H' b=some (.tup xs)) (frzs:∀b o u,H b=some (.frz o u)->H' b=some (.frz o u)) (tbls:∀b ps,H b=some (.tbl ps)->∃more,H' b=some (.tbl (ps++more)))
  (ns:∀m,s.heap.Ns X.env.locals m->h'.Ns X.env.locals m) (hok:HOk X.prog X.w H' h') (hg:AllBare g') :
  Inv X pins σ H' {s with heap:=h',gens:=g',drawn:=d',toks:=t'}:=by
 have neL:∀b o,X.s₀.heap.get? b=some o->b≠X.env.locals:=fun b o e=>gw (gj (gi e) I.ok.above);have neC:∀b o,X.s₀.heap.get? b=some o->b∉X.ex->b∉ch:=fun b o e hx hb=>by
  rcases(hch b hb).1 with z|z
  ·exact hx z
  ·exact absurd (gj (gi e) z) (ua _)
 have cellK:∀x c,X.env.cells.lookup x=some c->∀v,s.heap.IsCell c v->h'.IsCell c v:=fun x c e v ⟨o,ho,hd⟩=>by
  have nch:c∉ch:=fun z=>(hch c z).2.2.1 x c e rfl
  by_cases hc:c∈X.fs
  ·obtain⟨sl,q⟩:=slot c o (I.cne x c e) hc nch ho (I.freeC x c e)
   exact⟨_,q,hd⟩
  ·exact⟨o,keep c o (I.cne x c e) hc nch ho (I.freeC x c e),hd⟩
 refine⟨I.ok,I.os,hg,⟨fun b o e n hb hx=>?_,fun b o e n hb hx=>?_,fun b o e n hx=>?_,fun b o e hx=>?_,fun b xs e=>tups b xs (I.base.tups b xs e),fun b o xs e=>frzs b o xs (I.base.frzs b o xs e),fun b ps e=>?_⟩,?_,fun x c e=>?_,?_,fun x c e=>?_,fun p hp=>?_,hok,I.len⟩
 ·exact keep b o (neL b o e) hb (neC b o e hx) (I.base.keep b o e n hb hx) (I.base.free b o e n hx)
 ·obtain⟨sl,e1⟩:=I.base.slot b o e n hb hx
  obtain⟨sl',e2⟩:=slot b _ (neL b o e) hb (neC b o e hx) e1 (I.base.free b o e n hx);exact⟨sl',e2⟩
 ·obtain⟨o',e1⟩:=I.base.there b o e hx
  exact free b o' (neC b o e hx) e1 (I.base.free b o e n hx)
 ·obtain⟨o',e1⟩:=I.base.there b o e hx
  exact there b o' (neC b o e hx) e1
 ·obtain⟨m1,e1⟩:=I.base.tbls b ps e
  obtain⟨m2,e2⟩:=tbls b _ e1;exact⟨m1++m2,by rw [e2,g39]⟩
 ·obtain⟨m,hn,hl⟩:=I.loc
  refine⟨m,ns m hn,fun i x v e1 e2 e3=>?_⟩;obtain⟨u,r,l⟩:=hl i x v e1 e2 e3;refine⟨u,r,?_⟩;rcases l with l|⟨k,c,e,z⟩
  ·exact .inl l
  ·exact .inr ⟨k,c,e,cellK x c e _ z⟩
 ·obtain⟨v,z⟩:=I.cell x c e
  exact⟨v,cellK x c e v z⟩
 ·obtain⟨m,⟨o,_,_,ho,_⟩,_⟩:=I.loc
  exact free _ o (fun z=>(hch _ z).2.1 rfl) ho I.free
 ·obtain⟨v,o,ho,hd⟩:=I.cell x c e
  exact free c o (fun z=>(hch c z).2.2.1 x c e rfl) ho (I.freeC x c e)
 ·obtain⟨e,n,ne,nf,d⟩:=I.pin p hp
  have nch:p.1∉ch:=fun z=>(hch p.1 z).2.2.2 p hp rfl;exact⟨keep p.1 p.2 ne nf nch e n,free p.1 p.2 nch e n,ne,nf,d⟩
theorem Inv.un{t':Nat}(I:Inv X pins σ H s)(u:Un X.fs [] H H' s.heap h')(hok:HOk X.prog X.w H' h'): Inv X pins σ H' {s with heap:=h',toks:=t'}:=by
 obtain⟨m,⟨o,es,ep,ho,r⟩,_⟩:=id I.loc;obtain⟨sl,hL⟩:=u.any ho I.free (by simp);exact I.step (g':=s.gens) (d':=s.drawn) (ch:=[]) (fun _ z=>nomatch z) (fun b o _ hb _ e n=>u.keep b o e n hb (by simp)) (fun b o _ hb _ e n=>u.slot b o e n hb (by simp)) (fun b o _ e n=>u.free b o e n (by simp)) (fun b o _ e=>u.there b o e (by simp)) u.tups u.frzs u.tbls (fun m' hm=>by
  obtain⟨o',es',ep',ho',r'⟩:=hm;rw [ho] at ho';cases ho';exact⟨_,es',ep',hL,r'⟩) hok I.bare
theorem Inv.call{g':Array GenState}{t':Nat}{d':Drawn}{ch:List Addr}(I:Inv X pins σ H s)(u:Un (frs X.stack) ch H H' s.heap h')(hok:HOk X.prog X.w H' h')(hg:AllBare g')
  (hch:∀b∈ch,(b∈X.ex\/X.s₀.heap.objs.size<=b)/\b≠X.env.locals/\(∀x c,X.env.cells.lookup x=some c->c≠b)/\∀p∈X.pn++pins,p.1≠b) :
  Inv X pins σ H' {s with heap:=h',gens:=g',drawn:=d',toks:=t'}:=by
 obtain⟨m,⟨o,es,ep,ho,r⟩,_⟩:=id I.loc;obtain⟨sl,hL⟩:=u.any ho I.free fun z=>(hch _ z).2.1 rfl;exact I.step (ch:=ch) hch (fun b o hL hb hc e n=>u.keep b o e n (fun z=>(m4.mp (I.stkSub b z)).elim hL hb) hc) (fun b o _ _ hc e n=>u.any e n hc) (fun b o hc e n=>u.free b o e n hc) (fun b o hc e=>u.there b o e hc) u.tups u.frzs u.tbls (fun m' hm=>by
  obtain⟨o',es',ep',ho',r'⟩:=hm;rw [ho] at ho';cases ho';exact⟨_,es',ep',hL,r'⟩) hok hg
theorem Inv.turned{t':Nat}{it:Addr}(I:Inv X pins σ H s)(k:∀b o,b≠it->s.heap.get? b=some o->h'.get? b=some o)(hn:H it=none)(hL:it≠X.env.locals)
  (h1:it∈X.ex\/X.s₀.heap.objs.size<=it) (h2:∀x c,X.env.cells.lookup x=some c->c≠it) (h3:∀p∈X.pn++pins,p.1≠it):Inv X pins σ H {s with heap:=h',toks:=t'}:=by
 have nit:∀b u,H b=some u->b≠it:=fun b u e z=>by rw [z,hn] at e;cases e
 refine I.step (g':=s.gens) (d':=s.drawn) (ch:=[it]) (fun b hb=>?_) (fun b o _ _ hc e _=>k b o (fun z=>hc (by simp [z])) e) (fun b o _ _ hc e _=>⟨o.slots,k b o (fun z=>hc (by simp [z])) e⟩) (fun _ _ _ _ n=>n)
  (fun b o hc e=>⟨o,k b o (fun z=>hc (by simp [z])) e⟩) (fun _ _ e=>e) (fun _ _ _ e=>e) (fun b ps e=>⟨#[],by rw [e];simp⟩) (fun m hm=>?_) (fun b u e=>?_) I.bare
 ·have e:b=it:=by simpa using hb
  subst e;exact⟨h1,hL,h2,h3⟩
 ·obtain⟨o,es,ep,ho,r⟩:=hm
  exact⟨o,es,ep,k _ o (m5 hL) ho,r⟩
 ·refine(I.hok b u e).stay (fun c v hc q=>k c v ?_ q) (fun _ q=>q) fun _ _ q=>q
  rcases hc with z|z
  ·rw [z];exact nit b u e
  ·exact nit c _ z
theorem Inv.tok(I:Inv X pins σ H s)(t:Nat): Inv X pins σ H {s with toks:=t}:=I.un (h':=s.heap) (t':=t) Un.refl I.hok
theorem Inv.kept{t':Nat}(I:Inv X pins σ H s)(k:∀b u,s.heap.get? b=some u->h'.get? b=some u): Inv X pins σ H {s with heap:=h',toks:=t'}:=I.un (Un.kept k) (I.hok.kept k)
theorem Inv.laid{a:Addr}{o:HO}{t':Nat}(I:Inv X pins σ H s)(k:∀b u,s.heap.get? b=some u->h'.get? b=some u)(hp:s.heap.objs.size<=a)(new:ObjOk X.prog X.w (upd H a o) h' a o):
  Inv X pins σ (upd H a o) {s with heap:=h',toks:=t'}:=I.un (Un.laid k hp (I.hok.fresh hp)) (I.hok.laid k hp new)
theorem Inv.write{x e:Addr}{o:HO}{t':Nat}(I:Inv X pins σ H s)(mu:Mut (H x))(he:e=x\/H e=some (.own x))(k:∀b u,b≠e->s.heap.get? b=some u->h'.get? b=some u)(heo:∃u,h'.get? e=some u)
  (new:ObjOk X.prog X.w (upd H x o) h' x o):Inv X pins σ (upd H x o) {s with heap:=h',toks:=t'}:=I.un (Un.write mu he k heo) (I.hok.write mu he k heo new)
theorem Inv.pins_of{pins':List (Addr×Obj)}(I:Inv X pins σ H s)(h:∀p∈pins',s.heap.get? p.1=some p.2/\H p.1=none/\p.1≠X.env.locals/\p.1∉X.fs/\∀v,p.2.data ≠ .cell v): Inv X pins' σ H s:=
 ⟨I.ok,I.os,I.bare,I.base,I.loc,I.cell,I.free,I.freeC,fun p hp=>(nh.mp hp).elim (fun z=>I.pin p (g0k _ z)) (h p),I.hok,I.len⟩
theorem qbo{N:List Str}(hN:N.Nodup){i j:Nat}{x:Str}(a:N[i]? = some x)(b:N[j]? = some x): i=j:=by
 obtain⟨h1,e1⟩:=mj.mp a;obtain⟨h2,e2⟩:=mj.mp b;exact(g40 hN).mp (e1.trans e2.symm)
theorem qib{M:Model}{A:Around}{E:Value->Shared->Prop}{i:Nat}{x:Str}{v:V}{u:Value}{Q:Unit->Shared->Prop}(I:Inv X pins σ H s)(hN:X.N.Nodup)(hi:X.N[i]? = some x)(hx:Loc X.env.scope x)(r:RelV v u)
  (h:∀s',Inv X pins (σ.set i (some v)) H s'->(∃a,Heap.SameBut a s.heap s'.heap/\(a=X.env.locals\/X.env.cells.lookup x=some a))->Q () s') (hf:X.fn x=true\/X.env.scope.names.lookup x=some .local:=by first|exact .inl rfl|exact .inr rfl|assumption):wpAny M A (storeName X.env x u) Q E s:=by
 obtain⟨m,hn,hl⟩:=id I.loc;have hcls:(X.env.scope.kind == .class || (X.env.scope.kind == .module&&X.env.locals != X.env.globals))=false:=by rw [I.ok.kind];rfl
 have hiσ : i < σ.length:=by rw [I.len];exact(mj.mp hi).1
 have cne:=I.cne;have tracked:∀ {a:Addr} {h':Heap},(∃o,s.heap.get? a=some o/\H a=none)->Heap.SameBut a s.heap h'->HOk X.prog X.w H h':=fun {a h'} ha hs b ob e=>by
  obtain⟨_,_,hfree⟩:=ha;refine(I.hok b ob e).stay (fun c w' hc q=>(hs.2 c ?_).trans q) (fun _ q=>q) fun _ _ q=>q
  rintro rfl
  rcases hc with rfl|hc
  ·rw [hfree] at e;cases e
  ·rw [hfree] at hc;cases hc
 rcases hx with hk|hk
 ·refine wpAny_storeName_local hk hn (fun h' hn' hs=>?_) hcls
  obtain⟨oL,_,_,hoL,_⟩:=id hn;refine h _ ⟨I.ok,I.os,I.bare,⟨fun b o e n hb hx=>?_,fun b o e n hb hx=>?_,I.base.free,fun b o e hx=>?_,I.base.tups,I.base.frzs,I.base.tbls⟩,⟨_,hn',fun j y v' e1 e2 e3=>?_⟩,fun y c e=>?_,I.free,I.freeC,fun p hp=>?_,tracked ⟨oL,hoL,I.free⟩ hs,by simpa using I.len⟩ ⟨_,hs,.inl rfl⟩
  ·exact(hs.2 b (gw (gj (gi e) I.ok.above))).trans (I.base.keep b o e n hb hx)
  ·obtain⟨sl,e1⟩:=I.base.slot b o e n hb hx
   exact⟨sl,(hs.2 b (gw (gj (gi e) I.ok.above))).trans e1⟩
  ·obtain⟨o',e1⟩:=I.base.there b o e hx
   exact⟨o',(hs.2 b (gw (gj (gi e) I.ok.above))).trans e1⟩
  ·by_cases hj:j=i
   ·subst hj
    rw [hi] at e1;cases e1;rw [g4s hiσ] at e2;cases e2;exact⟨u,r,.inl ⟨hk,by simp⟩⟩
   ·rw [gc (m5 hj)] at e2
    obtain⟨u',r',q⟩:=hl j y v' e1 e2 e3;refine⟨u',r',?_⟩;rcases q with⟨k,e⟩|⟨k,c,e,z⟩
    ·refine .inl ⟨k,?_⟩
     have:y≠x:=fun e=>hj (qbo hN e1 (e ▸ hi));simp [this,e]
    ·exact .inr ⟨k,c,e,z.sameBut hs (cne y c e)⟩
  ·obtain⟨w',z⟩:=I.cell y c e
   exact⟨w',z.sameBut hs (cne y c e)⟩
  ·obtain⟨e,n,ne,nf,d⟩:=I.pin p hp
   exact⟨(hs.2 p.1 ne).trans e,n,ne,nf,d⟩
 ·have hfn:X.fn x=true:=by
   rcases hf with z|z
   ·exact z
   ·rw [z] at hk;cases hk
  obtain⟨c,hc⟩:=I.ok.has x (.inl hk);obtain⟨w',z⟩:=I.cell x c hc;refine wpAny_storeName_cell I.ok.kind hk hc z (fun h' hc' hs=>?_);obtain⟨oc,hoc,hocd⟩:=id z;refine h {s with heap:=h'} ⟨I.ok,I.os,I.bare,⟨fun b o e n hb hx=>?_,fun b o e n hb hx=>?_,I.base.free,fun b o e hx=>?_,I.base.tups,I.base.frzs,I.base.tbls⟩,⟨m,hn.sameBut hs (m5 (cne x c hc)),fun j y v' e1 e2 e3=>?_⟩,fun y c' e=>?_,I.free,I.freeC,fun p hp=>?_,tracked ⟨oc,hoc,I.freeC x c hc⟩ hs,by simpa using I.len⟩ ⟨c,hs,.inr hc⟩
  ·exact(hs.2 b (gw (gj (gi e) (I.ok.cab x c hfn hc)))).trans (I.base.keep b o e n hb hx)
  ·obtain⟨sl,e1⟩:=I.base.slot b o e n hb hx
   exact⟨sl,(hs.2 b (gw (gj (gi e) (I.ok.cab x c hfn hc)))).trans e1⟩
  ·obtain⟨o',e1⟩:=I.base.there b o e hx
   exact⟨o',(hs.2 b (gw (gj (gi e) (I.ok.cab x c hfn hc)))).trans e1⟩
  ·by_cases hj:j=i
   ·subst hj
    rw [hi] at e1;cases e1;rw [g4s hiσ] at e2;cases e2;exact⟨u,r,.inr ⟨.inl hk,c,hc,hc'⟩⟩
   ·rw [gc (m5 hj)] at e2
    obtain⟨u',r',q⟩:=hl j y v' e1 e2 e3;refine⟨u',r',?_⟩;rcases q with q|⟨k,c',e,z'⟩
    ·exact .inl q
    ·refine .inr ⟨k,c',e,z'.sameBut hs ?_⟩
     rintro rfl
     exact hj (qbo hN e1 (I.ok.inj _ _ _ e hc ▸ hi))
  ·by_cases hcc:c'=c
   ·subst hcc;exact⟨_,hc'⟩
   ·obtain⟨w2,z2⟩:=I.cell y c' e
    exact⟨w2,z2.sameBut hs hcc⟩
  ·obtain⟨e,n,ne,nf,d⟩:=I.pin p hp
   refine⟨(hs.2 p.1 ?_).trans e,n,ne,nf,d⟩;intro q;rw [q,hoc] at e;have q':oc=p.2:=mi e;exact d w' (by rw [<- q'];exact hocd)
theorem q49{M:Model}{A:Around}{E:Value->Shared->Prop}{i:Nat}{x:Str}{v:V}{u:Value}{Q:Unit->Shared->Prop}(I:Inv X pins σ H s)(hN:X.N.Nodup)(hi:X.N[i]? = some x)(hx:Loc X.env.scope x)(r:RelV v u)
  (h:∀s',Inv X pins (σ.set i (some v)) H s'->Q () s') (hf:X.fn x=true\/X.env.scope.names.lookup x=some .local:=by first|exact .inl rfl|exact .inr rfl|assumption):wpAny M A (storeName X.env x u) Q E s:=
 qib I hN hi hx r (fun s' I' _=>h s' I') hf
theorem Inv.call'{s':Shared}{ch:List Addr}(I:Inv X pins σ H s)(ho:s'.os=s.os)(u:Un (frs X.stack) ch H H' s.heap s'.heap)(hok:HOk X.prog X.w H' s'.heap)(hg:AllBare s'.gens)
  (hch:∀b∈ch,(b∈X.ex\/X.s₀.heap.objs.size<=b)/\b≠X.env.locals/\(∀x c,X.env.cells.lookup x=some c->c≠b)/\∀p∈X.pn++pins,p.1≠b):Inv X pins σ H' s':=by
 obtain⟨h',g',d',t',o'⟩:=s';have e:o'=s.os:=ho;subst e;exact I.call (g':=g') (t':=t') (d':=d') u hok hg hch
end
abbrev XK:=Value->Option Addr->Hp->Prop
abbrev St:=List (Option V)
abbrev VK:=V->Hp->Prop
abbrev TE:=St->Hp->VK->Prop
abbrev TT:=St->Hp->(Bool->Hp->Prop)->Prop
abbrev TA:=St->Hp->(List V->Hp->Prop)->Prop
structure Ends where
 nx:St->Hp->Prop
 rt:VK
 bk:St->Hp->Prop:=fun _ _=>False
 ct:St->Hp->Prop:=fun _ _=>False
abbrev TS:=Ends->St->Hp->Prop
def EP(X:Cx)(pins:List (Addr×Obj))(σ : St)(Q:VK)(u:Value)(s':Shared): Prop:=∃v H',Inv X pins σ H' s'/\RelV v u/\Q v H'
def TP(X:Cx)(pins:List (Addr×Obj))(σ : St)(Q:Bool->Hp->Prop)(b:Bool)(s':Shared): Prop:=∃H',Inv X pins σ H' s'/\Q b H'
def AP(X:Cx)(pins:List (Addr×Obj))(σ : St)(Q:List V->Hp->Prop)(us:List Value)(s':Shared): Prop:=∃vs H',Inv X pins σ H' s'/\Vals vs us/\Q vs H'
def SP(X:Cx)(pins:List (Addr×Obj))(D:Ends)(f:Flow)(s':Shared): Prop:=
 match f with
 | .next=>∃ σ' H',Inv X pins σ' H' s'/\D.nx σ' H'
 | .brk=>∃ σ' H',Inv X pins σ' H' s'/\D.bk σ' H'
 | .cont=>∃ σ' H',Inv X pins σ' H' s'/\D.ct σ' H'
 | .ret u=>∃v σ' H',Inv X pins σ' H' s'/\RelV v u/\D.rt v H'
def PE(X:Cx)(e:Expr)(t:TE): Prop:=
 ∀(pins:List (Addr×Obj)) (s:Shared) (σ : St) (H:Hp) (Q:VK),Inv X pins σ H s->t σ H Q->wpAny (model X.prog X.w) X.A (eval e X.env) (EP X pins σ Q) X.xe s
def PT(X:Cx)(e:Expr)(t:TT): Prop:=
 ∀(pins:List (Addr×Obj)) (s:Shared) (σ : St) (H:Hp) (Q:Bool->Hp->Prop),Inv X pins σ H s->t σ H Q->wpAny (model X.prog X.w) X.A (isTrue e X.env (eval e X.env)) (TP X pins σ Q) X.xe s
def PW(X:Cx)(e:Expr)(t:TT): Prop:=
 ∀(whole:Sem Value) (pins:List (Addr×Obj)) (s:Shared) (σ : St) (H:Hp) (Q:Bool->Hp->Prop),Inv X pins σ H s->t σ H Q->wpAny (model X.prog X.w) X.A (isTrue e X.env whole) (TP X pins σ Q) X.xe s
theorem PW.pt{X:Cx}{e:Expr}{t:TT}(h:PW X e t): PT X e t:=h _
def PA(X:Cx)(es:List Expr)(t:TA): Prop:=
 ∀(pos:Pos) (pins:List (Addr×Obj)) (s:Shared) (σ : St) (H:Hp) (Q:List V->Hp->Prop),Inv X pins σ H s->t σ H Q->wpAny (model X.prog X.w) X.A (spliced (backTo pos (starEach es X.env))) (AP X pins σ Q) X.xe s
def PS(X:Cx)(st:Stmt)(t:TS): Prop:=
 ∀(pins:List (Addr×Obj)) (s:Shared) (σ : St) (H:Hp) (D:Ends),Inv X pins σ H s->t D σ H->wpAny (model X.prog X.w) X.A (exec st X.env) (SP X pins D) X.xe s
def PSs(X:Cx)(st:List Stmt)(t:TS): Prop:=
 ∀(pins:List (Addr×Obj)) (s:Shared) (σ : St) (H:Hp) (D:Ends),Inv X pins σ H s->t D σ H->wpAny (model X.prog X.w) X.A (execs st X.env) (SP X pins D) X.xe s
theorem thn{α : Type}{t:Sem α}{Q Q' : α -> Shared->Prop}{M:Model}{A:Around}{E:Value->Shared->Prop}{s:Shared}(h:wpAny M A t Q E s)(hQ:∀a s,Q a s->Q' a s): wpAny M A t Q' E s:=n5 h hQ fun _ _ x=>x
section
variable{X:Cx}
def q4a(i:Nat): TE:=fun σ H Q=>∃v, σ[i]? = some (some v)/\Q v H
def tC(v:V): TE:=fun _ H Q=>Q v H
theorem qpa{i:Nat}{x:Str}{pos:Pos}(hN:X.N[i]? = some x)(hv:Vis X.env.scope x)(hd:(x==("__debug__" : Str))=false:=by decide)(hcd:(x==("__classdict__" : Str))=false:=by decide): PE X (.Name x pos) (q4a i):=by
 intro pins s σ H Q I h;obtain⟨v,e,h⟩:=h;obtain⟨m,hn,hl⟩:=I.loc;obtain⟨u,r,l⟩:=hl i x v hN e hv;have fin:EP X pins σ Q u s:=⟨v,H,I,r,h⟩
 rcases l with⟨hk,hm⟩|⟨hk,c,hc,hcell⟩
 ·exact wpAny_Name (wpAny_loadName_local I.ok.kind hk hn hm fin) hd
 ·rcases hk with hk|hk
  ·exact wpAny_Name (wpAny_loadName_cell I.ok.kind hk hc hcell fin) hd
  ·exact wpAny_Name (wpAny_loadName_free I.ok.kind hk hc hcell fin hcd) hd
theorem qpb{i j pos}: PE X (.Constant (.int i) j pos) (tC (.int i)):=fun _ _ _ H _ I h=>wpAny_Constant_int ⟨.int i,H,I.tok _,⟨_,rfl⟩,h⟩
theorem qrw{b j pos}: PE X (.Constant (.bool b) j pos) (tC (.bl b)):=fun _ _ _ H _ I h=>Constant_bool ⟨.bl b,H,I,rfl,h⟩
theorem qpc{j pos}: PE X (.Constant .none j pos) (tC .non):=fun _ _ _ H _ I h=>Constant_none ⟨.non,H,I,rfl,h⟩
theorem qpd{x j pos}: PE X (.Constant (.str x) j pos) (tC (.str x)):=fun _ _ _ H _ I h=>g1t ⟨.str x,H,I.tok _,⟨_,rfl⟩,h⟩
def Gl(X:Cx)(x:Str): Prop:=X.env.kindOf x=some .globalImplicit
theorem kb{E:Value->Shared->Prop}{pins:List (Addr×Obj)}{s:Shared}{σ : St}{H:Hp}{x:Str}{u:Value}{pos:Pos}{Q:Value->Shared->Prop}(I:Inv X pins σ H s)(hg:Gl X x)(hm:X.mg x=some u)(h:Q u s)
  (hd:(x==("__debug__" : Str))=false:=by decide):wpAny (model X.prog X.w) X.A (eval (.Name x pos) X.env) Q E s:=
 Calls.Name_function_global I.ok.kind hg (Calls.loadGlobal_global (by rw [I.ok.glob];exact I.mod.glob.keeps I.bk) hm h) hd
theorem q5b{E:Value->Shared->Prop}{pins:List (Addr×Obj)}{s:Shared}{σ : St}{H:Hp}{x:Str}{u:Value}{pos:Pos}{Q:Value->Shared->Prop}(I:Inv X pins σ H s)(hg:Gl X x)(hm:X.mg x=none)(hv:bootBuiltins x=some u)(h:Q u s)
  (hn:x≠"__name__" :=by decide) (hd:(x==("__debug__" : Str))=false:=by decide):wpAny (model X.prog X.w) X.A (eval (.Name x pos) X.env) Q E s:=by
 obtain⟨mb,h1,h2⟩:=I.mod.blt;exact Calls.Name_function_global I.ok.kind hg (Calls.loadGlobal_builtin (by rw [I.ok.glob];exact I.mod.glob.keeps I.bk) hm (by rw [I.ok.blt];exact h1.keeps I.bk) ((h2 x hn).trans hv) h) hd
theorem vv{x:Str}{v:V}{u:Value}{pos:Pos}(hg:Gl X x)(hm:X.mg x=some u)(r:RelV v u)(hd:(x==("__debug__" : Str))=false:=by decide): PE X (.Name x pos) (tC v):=
 fun _ _ _ H _ I h=>kb I hg hm ⟨v,H,I,r,h⟩ hd
theorem qf0{x:Str}{v:V}{u:Value}{pos:Pos}(hg:Gl X x)(hm:X.mg x=none)(hv:bootBuiltins x=some u)(r:RelV v u)(hn:x≠"__name__" :=by decide)(hd:(x==("__debug__" : Str))=false:=by decide): PE X (.Name x pos) (tC v):=
 fun _ _ _ H _ I h=>q5b I hg hm hv ⟨v,H,I,r,h⟩ hn hd
variable{a b:Expr}{ta tb:TE}{pos:Pos}
theorem qbp(b:Expr){op:CmpOp}(h:op ≠ .In)(h2:op ≠ .NotIn): behindInMarks op b=false:=by
 have e1:(op==CmpOp.In)=false:=by cases op <;> first|rfl|exact absurd rfl h
 have e2:(op==CmpOp.NotIn)=false:=by cases op <;> first|rfl|exact absurd rfl h2
 cases b <;> simp [behindInMarks,e1,e2]
variable{tA tB':TT}{rest:List Expr}
def qt9(t u:TT): TT:=fun σ H Q=>t σ H fun c H1=>if c=true then u σ H1 Q else Q false H1
def tOr(t u:TT): TT:=fun σ H Q=>t σ H fun c H1=>if c=true then Q true H1 else u σ H1 Q
def qta(t:TT): TT:=fun σ H Q=>t σ H fun c H1=>Q (!c) H1
theorem qnf(ha:PT X a tA): PW X (.BoolOp .And [a] pos) tA:=by
 intro wh pins s σ H Q I h;refine isTrue_and (thn (ha pins s σ H Q I h) fun c s1 e=>?_);cases c with
 | true=>exact isTrue_and_nil e
 | false=>exact e
theorem qpe(ha:PT X a tA): PW X (.BoolOp .Or [a] pos) tA:=by
 intro wh pins s σ H Q I h;refine isTrue_or (thn (ha pins s σ H Q I h) fun c s1 e=>?_);cases c with
 | false=>exact isTrue_or_nil e
 | true=>exact e
theorem qpf(ha:PT X a tA)(hb:PW X (.BoolOp .And (b :: rest) pos) tB'): PW X (.BoolOp .And (a :: b :: rest) pos) (qt9 tA tB'):=by
 intro wh pins s σ H Q I h;refine isTrue_and (thn (ha pins s σ H _ I h) fun c s1 ⟨H1,I1,q1⟩=>?_);cases c with
 | true=>exact hb wh pins s1 σ H1 Q I1 q1
 | false=>exact⟨H1,I1,q1⟩
theorem qrx(ha:PT X a tA)(hb:PW X (.BoolOp .Or (b :: rest) pos) tB'): PW X (.BoolOp .Or (a :: b :: rest) pos) (tOr tA tB'):=by
 intro wh pins s σ H Q I h;refine isTrue_or (thn (ha pins s σ H _ I h) fun c s1 ⟨H1,I1,q1⟩=>?_);cases c with
 | true=>exact⟨H1,I1,q1⟩
 | false=>exact hb wh pins s1 σ H1 Q I1 q1
theorem qpg(ha:PT X a tA): PT X (.UnaryOp .Not a pos) (qta tA):=by
 intro pins s σ H Q I h;exact isTrue_not (ha pins s σ H (fun c H1=>Q (!c) H1) I h)
def qry(ta tb:TE): TE:=fun σ H Q=>ta σ H fun x H1=>∃c,x=.bl c/\if c=true then tb σ H1 Q else Q (.bl false) H1
def qrz(ta:TE): TE:=fun σ H Q=>ta σ H fun x H1=>∃c,x=.bl c/\Q (.bl (!c)) H1
theorem qph{op}{t:TE}(h:PE X a t): PE X (.BoolOp op [a] pos) t:=fun pins s σ H Q I hw=>BoolOp_one (h pins s σ H Q I hw)
theorem qpi(ha:PE X a ta)(hb:PE X (.BoolOp .And (b :: rest) pos) tb): PE X (.BoolOp .And (a :: b :: rest) pos) (qry ta tb):=by
 intro pins s σ H Q I h;refine BoolOp_and (thn (ha pins s σ H _ I h) fun v s1 ⟨x,H1,I1,r1,q1⟩=>?_);obtain⟨c,rfl,q1⟩:=q1;cases r1;refine um ?_;cases c with
 | true=>exact hb pins s1 σ H1 Q I1 q1
 | false=>exact⟨.bl false,H1,I1,rfl,q1⟩
theorem qpj(ha:PE X a ta): PE X (.UnaryOp .Not a pos) (qrz ta):=by
 intro pins s σ H Q I h;refine UnaryOp_ (thn (ha pins s σ H _ I h) fun v s1 ⟨x,H1,I1,r1,q1⟩=>?_);obtain⟨c,rfl,q1⟩:=q1;cases r1;exact not_of (um ⟨.bl (!c),H1,I1,rfl,q1⟩)
def tIf(t:TT)(ta tb:TE): TE:=fun σ H Q=>t σ H fun c H1=>if c=true then ta σ H1 Q else tb σ H1 Q
theorem qkd{c:Expr}(hc:PT X c tA)(ha:PE X a ta)(hb:PE X b tb): PE X (.IfExp c a b pos) (tIf tA ta tb):=by
 intro pins s σ H Q I h;refine wpAny_IfExp (thn (hc pins s σ H _ I h) fun d s1 ⟨H1,I1,q1⟩=>?_);cases d with
 | true=>exact ha pins s1 σ H1 Q I1 q1
 | false=>exact hb pins s1 σ H1 Q I1 q1
end
def SqL(K:PySem.W.Frag)(H:Hp)(a:Addr)(xs:List V): Prop:=
 Rd H a (.lst xs) \/
  ∃(o:Obj) (its:Array Value) (n:Nat),K.lookup a=some o/\o.cls=.type "list" /\ o.dict=none/\o.data=.seq its n/\its.size<=sizeLine/\Vals xs its.toList
def SqT(K:PySem.W.Frag)(H:Hp)(a:Addr)(xs:List V): Prop:=
 Rd H a (.tup xs) \/
  ∃(o:Obj) (its:Array Value) (n:Nat),K.lookup a=some o/\o.cls=.type "tuple" /\ o.dict=none/\o.data=.seq its n/\its.size<=sizeLine/\Vals xs its.toList
def qtb:Value->Option V
 | .none=>some .non
 | .bool b=>some (.bl b)
 | .int i _=>some (.int i)
 | .str x _=>some (.str x)
 | .bytes b _=>some (.byt b)
 | .float b _=>some (.flt b)
 | .ref a=>some (.ref a)
 | .type n=>some (.ty n)
 | _=>none
theorem RelV.abs{x:V}{u:Value}(r:RelV x u): qtb u=some x:=by
 cases x with
 | non=>cases r;rfl
 | bl _=>cases r;rfl
 | int _=>obtain⟨t,rfl⟩:=r;rfl
 | str _=>obtain⟨t,rfl⟩:=r;rfl
 | byt _=>obtain⟨t,rfl⟩:=r;rfl
 | flt _=>obtain⟨t,rfl⟩:=r;rfl
 | ref _=>cases r;rfl
 | ty _=>cases r;rfl
theorem RelV.inj{x y:V}{u:Value}(r:RelV x u)(q:RelV y u): x=y:=mi (r.abs.symm.trans q.abs)
theorem Vals.inj:∀ {xs ys:List V} {us:List Value},Vals xs us->Vals ys us->xs=ys
 | _,_,_,.nil,.nil=>rfl
 | _,_,_,.cons r t,.cons r' t'=>by rw [r.inj r',Vals.inj t t']
section
variable{X:Cx}{pins:List (Addr×Obj)}{σ : St}{H:Hp}{s:Shared}{a:Addr}{xs ys:List V}
theorem SqL.of{K:PySem.W.Frag}(h:H a=some (.lst xs)): SqL K H a xs:=.inl (.inl h)
theorem SqT.of{K:PySem.W.Frag}(h:H a=some (.tup xs)): SqT K H a xs:=.inl (.inl h)
theorem Inv.list(I:Inv X pins σ H s)(h:SqL X.K H a xs): ∃its:List Value,Vals xs its/\PlainL s.heap a its.toArray/\xs.length<=sizeLine:=by
 rcases h with h|⟨o,its,n,hk,hc,hd,hs,hz,r⟩
 ·obtain⟨z,its,n,r,e⟩:=h.ok I.hok
  exact⟨its,r,⟨_,n,e,rfl,rfl,rfl⟩,z⟩
 ·refine⟨its.toList,r,⟨o,n,I.kIn a o hk,hc,hd,by simpa using hs⟩,?_⟩
  have e:=r.length;simp only [ux] at e;omega
theorem Inv.tupleX(I:Inv X pins σ H s)(h:SqT X.K H a xs): ∃its:List Value,Vals xs its/\TupX s.heap a its.toArray/\xs.length<=sizeLine:=by
 rcases h with h|⟨o,its,n,hk,hc,hd,hs,hz,r⟩
 ·obtain⟨z,its,r,p⟩:=h.ok I.hok
  exact⟨its,r,p,z⟩
 ·refine⟨its.toList,r,⟨o,I.kIn a o hk,hc,hd,n,by simpa using hs⟩,?_⟩
  have e:=r.length;simp only [ux] at e;omega
theorem Inv.tuple(I:Inv X pins σ H s)(h:SqT X.K H a xs): ∃its:List Value,Vals xs its/\IsTup s.heap a its.toArray/\xs.length<=sizeLine:=let⟨its,r,p,z⟩:=I.tupleX h; ⟨its,r,p.up,z⟩
theorem Inv.list_inj(I:Inv X pins σ H s)(h:SqL X.K H a xs)(h':SqL X.K H a ys): xs=ys:=by
 obtain⟨its,r,⟨o,n,e,_,_,d⟩,_⟩:=I.list h;obtain⟨its',r',⟨o',n',e',_,_,d'⟩,_⟩:=I.list h';rw [e] at e';cases e';rw [d] at d';injection d' with d1 _
 have:its=its':=by simpa using t4 Array.toList d1
 subst this;exact r.inj r'
theorem Inv.tuple_inj(I:Inv X pins σ H s)(h:SqT X.K H a xs)(h':SqT X.K H a ys): xs=ys:=by
 obtain⟨its,r,⟨o,e,_,n,d⟩,_⟩:=I.tuple h;obtain⟨its',r',⟨o',e',_,n',d'⟩,_⟩:=I.tuple h';rw [e] at e';cases e';rw [d] at d';injection d' with d1 _
 have:its=its':=by simpa using t4 Array.toList d1
 subst this;exact r.inj r'
end
abbrev Cx.wish(X:Cx)(E:Value->Shared->Prop): Cx:={X with xe:=E}
abbrev Cx.nox(X:Cx): Cx:=X.wish fun _ _=>False
theorem Cx.Ok.wish{X:Cx}(ok:X.Ok)(E:Value->Shared->Prop): (X.wish E).Ok:=
 ⟨ok.mod,ok.kind,ok.glob,ok.blt,ok.above,ok.inj,ok.has,ok.cab,ok.hd,ok.frames,ok.stk,ok.exf,ok.bs,ok.bsz,ok.noex,ok.exfs,ok.funs,ok.frf⟩
theorem Cx.Ok.unwish{X:Cx}{E:Value->Shared->Prop}(ok:(X.wish E).Ok): X.Ok:=
 ⟨ok.mod,ok.kind,ok.glob,ok.blt,ok.above,ok.inj,ok.has,ok.cab,ok.hd,ok.frames,ok.stk,ok.exf,ok.bs,ok.bsz,ok.noex,ok.exfs,ok.funs,ok.frf⟩
section
variable{X:Cx}{pins:List (Addr×Obj)}{σ : St}{H:Hp}{s:Shared}{E:Value->Shared->Prop}
theorem Inv.wish(I:Inv X pins σ H s)(E:Value->Shared->Prop): Inv (X.wish E) pins σ H s:=⟨I.ok.wish E,I.os,I.bare,I.base,I.loc,I.cell,I.free,I.freeC,I.pin,I.hok,I.len⟩
theorem Inv.unwish(I:Inv (X.wish E) pins σ H s): Inv X pins σ H s:=⟨I.ok.unwish,I.os,I.bare,I.base,I.loc,I.cell,I.free,I.freeC,I.pin,I.hok,I.len⟩
theorem SP.unwish{D:Ends}{f:Flow}{s':Shared}(h:SP (X.wish E) pins D f s'): SP X pins D f s':=by
 cases f with
 | next=>obtain⟨σ',H',I,q⟩:=h;exact⟨σ',H',I.unwish,q⟩
 | brk=>obtain⟨σ',H',I,q⟩:=h;exact⟨σ',H',I.unwish,q⟩
 | cont=>obtain⟨σ',H',I,q⟩:=h;exact⟨σ',H',I.unwish,q⟩
 | ret u=>obtain⟨v, σ',H',I,r,q⟩:=h;exact⟨v, σ',H',I.unwish,r,q⟩
theorem PT.nox{e:Expr}{t:TT}(h:PT X.nox e t): PT X e t:=fun pins s σ H Q I hw=>
 n5 (h pins s σ H Q (I.wish _) hw) (fun _ _ ⟨H',I',q⟩=>⟨H',I'.unwish,q⟩) fun _ _ z=>False.elim z
theorem PSs.nox{st:List Stmt}{t:TS}(h:PSs X.nox st t): PSs X st t:=fun pins s σ H D I hw=>
 n5 (h pins s σ H D (I.wish _) hw) (fun _ _ q=>q.unwish) fun _ _ z=>False.elim z
end
section
variable{X:Cx}{st:Stmt}{rest:List Stmt}{t u:TS}{e:Expr}{te:TE}{pos:Pos}
def tNext:TS:=fun D σ H=>D.nx σ H
def qtc(t u:TS): TS:=fun D σ H=>t {D with nx:=u D} σ H
theorem qng:PSs X [] tNext:=fun _ _ σ H _ I h=>g1o ⟨σ,H,I,h⟩
theorem qbq(h1:PS X st t)(h2:PSs X rest u): PSs X (st :: rest) (qtc t u):=by
 intro pins s σ H D I h;refine g1h (thn (h1 pins s σ H {D with nx:=u D} I h) fun f s1 q=>?_);cases f with
 | next=>
  obtain⟨σ',H',I',q⟩:=q;exact h2 pins s1 σ' H' D I' q
 | ret v=>exact q
 | brk=>exact q
 | cont=>exact q
theorem q9a(h1:PS X st t): PSs X [st] t:=by
 intro pins s σ H D I h;refine g1h (thn (h1 pins s σ H D I h) fun f s1 q=>?_);cases f with
 | next=>exact g1o q
 | ret v=>exact q
 | brk=>exact q
 | cont=>exact q
theorem Inv.quiet{pins:List (Addr×Obj)}{σ : St}{H:Hp}{s:Shared}(I:Inv X pins σ H s): interactive X.env=false:=by simp [interactive,I.ok.kind]
def qs0(te:TE): TS:=fun D σ H=>te σ H fun _ H1=>D.nx σ H1
theorem q6g(he:PE X e te)(hs:swapsWith e none pos.line X.env=pure false:=by rfl): PS X (.Expr e pos) (qs0 te):=by
 intro pins s σ H D I h;exact wpAny_Expr_any (thn (he pins s σ H _ I h) fun v s1 ⟨x,H1,I1,r1,q1⟩=>⟨σ,H1,I1,q1⟩) I.quiet hs
def qtd(te:TE): TS:=fun D σ H=>te σ H D.rt
theorem qic(he:PE X e te): PS X (.Return (some e) pos) (qtd te):=by
 intro pins s σ H D I h;exact wpAny_Return_some (thn (he pins s σ H _ I h) fun v s1 ⟨x,H1,I1,r1,q1⟩=>⟨x, σ,H1,I1,r1,q1⟩)
def qte(c:TT)(t u:TS): TS:=fun D σ H=>c σ H fun b H1=>if b=true then t D σ H1 else u D σ H1
theorem qg1{c:Expr}{a b:List Stmt}{tc:TT}(hc:PT X c tc)(ha:PSs X a t)(hb:PSs X b u): PS X (.If c a b pos) (qte tc t u):=by
 intro pins s σ H D I h;refine wpAny_If (thn (hc pins s σ H _ I h) fun d s1 ⟨H1,I1,q1⟩=>?_);cases d with
 | true=>exact ha pins s1 σ H1 D I1 q1
 | false=>exact hb pins s1 σ H1 D I1 q1
end
abbrev TG:=V->St->Hp->(St->Hp->Prop)->Prop
abbrev TGs:=List V->St->Hp->(St->Hp->Prop)->Prop
def PG(X:Cx)(target:Expr)(t:TG): Prop:=
 ∀(pins:List (Addr×Obj)) (s:Shared) (σ : St) (H:Hp) (v:V) (u:Value) (Q:St->Hp->Prop),Inv X pins σ H s->RelV v u->t v σ H Q ->
  wpAny (model X.prog X.w) X.A (assign target X.env u) (fun _ s'=>∃ σ' H',Inv X pins σ' H' s'/\Q σ' H') X.xe s
def PGs(X:Cx)(ts:List Expr)(t:TGs): Prop:=
 ∀(pins:List (Addr×Obj)) (s:Shared) (σ : St) (H:Hp) (vs:List V) (us:List Value) (Q:St->Hp->Prop),Inv X pins σ H s->Vals vs us->t vs σ H Q ->
  wpAny (model X.prog X.w) X.A (assignInOrder ((assignEach ts X.env).map (·.2)) us) (fun _ s'=>∃ σ' H',Inv X pins σ' H' s'/\Q σ' H') X.xe s
section
variable{X:Cx}{pos:Pos}
def q6h(i:Nat): TG:=fun v σ H Q=>Q (σ.set i (some v)) H
theorem qnh{i:Nat}{x:Str}(hN:X.N.Nodup)(hi:X.N[i]? = some x)(hx:Loc X.env.scope x)(hf:X.fn x=true\/X.env.scope.names.lookup x=some .local:=by first|exact .inl rfl|exact .inr rfl|assumption): PG X (.Name x pos) (q6h i):=by
 intro pins s σ H v u Q I r h;exact wpAny_assign_Name (q49 I hN hi hx r (fun s' I'=>⟨_,H,I',h⟩) hf)
def gNil:TGs:=fun vs σ H Q=>vs=[]/\Q σ H
def qs1(t:TG)(u:TGs): TGs:=fun vs σ H Q=>∃v r,vs=v :: r/\t v σ H fun σ' H'=>u r σ' H' Q
theorem qni:PGs X [] gNil:=by
 intro pins s σ H vs us Q I r h;obtain⟨e,h⟩:=h;subst e;cases r;exact assignInOrder_nil ⟨σ,H,I,h⟩
theorem qke{e:Expr}{es:List Expr}{t:TG}{u:TGs}(h1:PG X e t)(h2:PGs X es u)
  (hs:(assignEach (e :: es) X.env).map (·.2)=assign e X.env :: (assignEach es X.env).map (·.2):=by rfl):PGs X (e :: es) (qs1 t u):=by
 intro pins s σ H vs us Q I r h;obtain⟨v,vr,e1,h⟩:=h;subst e1;cases r with
 | cons r rr=>
  rw [hs];refine assignInOrder_cons (thn (h1 pins s σ H _ _ _ I r h) fun _ s1 ⟨σ1,H1,I1,q1⟩=>?_);exact h2 pins s1 σ1 H1 _ _ Q I1 rr q1
def qtf(K:PySem.W.Frag)(n:Nat)(t:TGs): TG:=fun v σ H Q=>∃a xs,v=.ref a/\SqT K H a xs/\xs.length=n/\t xs σ H Q
theorem qpk{es:List Expr}{k:Nat}{t:TGs}{n:Nat}(hc:X.calm=true)(h:PGs X es t)
  (hn:(assignEach es X.env).length=n:=by rfl) (hst:(assignEach es X.env).findIdx? (·.1)=none:=by rfl):PG X (.Tuple es k pos) (qtf X.K n t):=by
 intro pins s σ H v u Q I r hw;obtain⟨a,xs,e1,hq,hl,hw⟩:=hw;subst e1;cases r;obtain⟨its,rv,ht,hz⟩:=I.tuple hq;refine assign_Tuple_tuple (I.ok.hd hc) ht (by simp [hn, <- hl,rv.length]) hst fun h' hx=>?_;have I1:Inv X pins σ H {s with heap:=h'}:=I.kept (t':=s.toks) fun b o e=>hx b o (gw (gi e)) e;exact h pins _ σ H xs _ Q I1 (by simpa using rv) hw
def qpl(te:TE)(g:TG): TS:=fun D σ H=>te σ H fun x H1=>g x σ H1 D.nx
theorem qbr{i:Nat}{x:Str}{e:Expr}{te:TE}{pos':Pos}(hN:X.N.Nodup)(hi:X.N[i]? = some x)(hx:Loc X.env.scope x)(he:PE X e te)(hs:swapsWith e (some (.Name x pos')) pos.line X.env=pure false:=by rfl)(hf:X.fn x=true\/X.env.scope.names.lookup x=some .local:=by first|exact .inl rfl|exact .inr rfl|assumption):
  PS X (.Assign [.Name x pos'] e pos) (qpl te (q6h i)):=by
 intro pins s σ H D I h;refine wpAny_Assign_Name (thn (he pins s σ H _ I h) fun v s1 ⟨y,H1,I1,r1,q1⟩=>?_) hs;exact q49 I1 hN hi hx r1 (fun s2 I2=>⟨_,H1,I2,q1⟩) hf
end
section
variable{X:Cx}{pos:Pos}
def qpm(c:TT)(tb:TS): TS:=fun D σ H=>∃W:Nat->St->Hp->Prop,(∃m,W m σ H)/\∀m σ H,W m σ H ->
 c σ H fun b H1=>if b=true then ∃N:St->Hp->Prop,(∀ σ' H',N σ' H'->∃m',m'<m/\W m' σ' H')/\tb {D with nx:=N,ct:=N,bk:=D.nx} σ H1 else D.nx σ H1
theorem qkf{c:Expr}{body:List Stmt}{tc:TT}{tb:TS}(hp:PassesOwn (model X.prog X.w) X.A X.env X.xe)(hc:PT X c tc)(hb:PSs X body tb): PS X (.While c body [] pos) (qpm tc tb):=by
 intro pins s σ H D I h;obtain⟨W,⟨m0,w0⟩,turn⟩:=h;refine wpAny_While (codeAny_whileLoop (fun n s'=>∃ σ' H',Inv X pins σ' H' s'/\W n σ' H') ?_ m0 ⟨σ,H,I,w0⟩)
 rintro n s1 ⟨σ1,H1,I1,w1⟩
 refine g0c hp (thn (hc pins s1 σ1 H1 _ I1 (turn n σ1 H1 w1)) fun b s2 ⟨H2,I2,q2⟩=>?_);cases b with
 | true=>
  obtain⟨N,hN,q2⟩:=q2;rw [gx rfl];refine g0c hp (thn (hb pins s2 σ1 H2 _ I2 q2) fun f s3 q3=>?_);cases f with
  | next=>
   obtain⟨σ3,H3,I3,n3⟩:=q3;obtain⟨m',hm,w3⟩:=hN σ3 H3 n3;exact⟨m',hm, σ3,H3,I3,w3⟩
  | cont=>
   obtain⟨σ3,H3,I3,n3⟩:=q3;obtain⟨m',hm,w3⟩:=hN σ3 H3 n3;exact⟨m',hm, σ3,H3,I3,w3⟩
  | brk=>exact q3
  | ret v=>exact q3
 | false=>
  rw [m8 gs];exact g1o ⟨σ1,H2,I2,q2⟩
end
structure It where
 go:Nat->Hp->Prop
 yld:Nat->Hp->V->Hp->Prop
 stop:Nat->Hp->Prop
def q2e(X:Cx)(pins:List (Addr×Obj))(H:Hp)(b:Addr): Prop:=
 H b=none/\b≠X.env.locals/\b∉X.fs/\(b∈X.ex\/X.s₀.heap.objs.size<=b)/\(∀x c,X.env.cells.lookup x=some c->c≠b)/\∀p∈X.pn++pins,p.1≠b
theorem Inv.fpOk{X:Cx}{pins:List (Addr×Obj)}{σ : St}{H H':Hp}{s:Shared}{b:Addr}(I:Inv X pins σ H s)(hb:s.heap.objs.size<=b)(hn:H' b=none): q2e X pins H' b:=by
 refine⟨hn,t5 (gj I.lt hb),I.nofs hb,.inr (mh I.sz hb),fun x c e z=>?_,fun p hp z=>?_⟩
 ·obtain⟨v,q⟩:=I.cell x c e
  exact absurd (gj q.lt (by rw [z];exact hb)) (ua _)
 ·exact absurd (gj (gi (I.pin p hp).1) (by rw [z];exact hb)) (ua _)
structure Turn(P:Program)(w:World)(K:PySem.W.Frag)(tg:Expr)(J:It)(fp:List Addr)(it:Addr)(tn:Nat->Heap->Prop): Prop where
 mem:it∈fp
 obj:∀i h,tn i h->∀b∈fp,∃o,h.get? b=some o/\∀v,o.data ≠ .cell v
 keep:∀i h h',tn i h->(∀b∈fp,∀o,h.get? b=some o->h'.get? b=some o)->tn i h'
 item:∀(X:Cx),X.prog=P->X.w=w->X.K=K->X.calm=true->∀(i:Nat) (pins:List (Addr×Obj)) (s:Shared) (σ : St) (H:Hp) (E:Value->Shared->Prop),Inv X pins σ H s->(∀b∈fp,q2e X pins H b)->tn i s.heap->J.go i H ->
  wpAny (model P w) X.A (pyNext (.ref it)) (fun r s1=>∃u,r=some u /\
   wpAny (model P w) X.A (letOwnedTupleGo tg (.ref it) u) (fun _ s2=>∃x H',Inv X pins σ H' s2/\RelV x u/\J.yld i H x H'/\tn (i+1) s2.heap/\∀b∈fp,H' b=none) E s1) E s
 done:∀(X:Cx),X.prog=P->X.w=w->X.K=K->X.calm=true->∀(i:Nat) (pins:List (Addr×Obj)) (s:Shared) (σ : St) (H:Hp) (E:Value->Shared->Prop),Inv X pins σ H s->(∀b∈fp,q2e X pins H b)->tn i s.heap->J.stop i H ->
  wpAny (model P w) X.A (pyNext (.ref it)) (fun r s1=>r=none/\Inv X pins σ H s1) E s
 self:∀(A:Around) (i:Nat) (s:Shared) (Q:Value->Shared->Prop) (E:Value->Shared->Prop),tn i s.heap->Q (.ref it) s->wpAny (model P w) A (pyIter (.ref it)) Q E s
abbrev TI:=St->Hp->(It->Hp->Prop)->Prop
def PIE(X:Cx)(pins:List (Addr×Obj))(σ : St)(tg:Expr)(R:It->Hp->Prop)(itv:Value)(s2:Shared): Prop:=
 ∃(it:Addr) (fp:List Addr) (tn:Nat->Heap->Prop) (J:It) (H':Hp),itv=.ref it/\Inv X pins σ H' s2/\Turn X.prog X.w X.K tg J fp it tn/\tn 0 s2.heap/\(∀b∈fp,q2e X pins H' b)/\R J H'
def PI(X:Cx)(tg iter:Expr)(wi:TI): Prop:=
 ∀(pins:List (Addr×Obj)) (s:Shared) (σ : St) (H:Hp) (R:It->Hp->Prop),Inv X pins σ H s->wi σ H R ->
  wpAny (model X.prog X.w) X.A (eval iter X.env) (fun v s1=>wpAny (model X.prog X.w) X.A (pyIter v) (PIE X pins σ tg R) X.xe s1) X.xe s
theorem qbb{M:Model}{A:Around}{E:Value->Shared->Prop}{s:Shared}{tg:Expr}{it:Addr}{u:Value}{o:Obj}{n:String}{vs:Array Value}{Q:Unit->Shared->Prop}(ho:s.heap.get? it=some o)(hc:o.cls=.type n)(hd:o.data=.fields vs)
  (hn:["enumerate","zip","dict_itemiterator","dict_reverseitemiterator","odict_iterator","itertools.zip_longest","itertools.pairwise"].contains n=false) (hQ:Q () s):wpAny M A (letOwnedTupleGo tg (.ref it) u) Q E s:=by
 unfold letOwnedTupleGo;cases tg <;> first
  | exact g7 hQ
  | (cases u <;> first
    | exact g7 hQ
    | (refine g0 (wpAny_load ho ?_);rw [hc,hd];show wpAny M A (if(["enumerate","zip","dict_itemiterator","dict_reverseitemiterator","odict_iterator","itertools.zip_longest","itertools.pairwise"].contains n&&vs[0]? == some (rawInt _))=true then _ else _) Q E s;rw [m8 (by intro h;rw [hn,g35] at h;cases h)];exact g7 hQ))
def Itl(K:PySem.W.Frag)(a:Addr): It:=
 ⟨fun i H=>∃xs x,SqL K H a xs/\xs[i]? = some x,fun i H x H'=>H'=H/\∀xs,SqL K H a xs->xs[i]? = some x,fun i H=>∃xs,SqL K H a xs/\xs.length<=i⟩
def Itt(K:PySem.W.Frag)(a:Addr): It:=
 ⟨fun i H=>∃xs x,SqT K H a xs/\xs[i]? = some x,fun i H x H'=>H'=H/\∀xs,SqT K H a xs->xs[i]? = some x,fun i H=>∃xs,SqT K H a xs/\xs.length<=i⟩
def Itr(lo:Int)(n:Nat): It:=⟨fun i _=>i<n,fun i H x H'=>H'=H/\x=.int (lo+i),fun i _=>n<=i⟩
theorem qid{P:Program}{w:World}{K:PySem.W.Frag}{tg:Expr}(a it:Addr): Turn P w K tg (Itl K a) [it] it (fun i h=>h.IsListIter it a i) where
 mem:=by simp
 obj:=fun i h st b hb=>by
  have e:b=it:=by simpa using hb
  subst e;obtain⟨o,e,c,d⟩:=st;exact⟨o,e,fun v z=>by rw [d] at z;cases z⟩
 keep:=fun i h h' st k=>st.at fun o e=>k it (by simp) o e
 item:=by
  intro X hP hw hK hc i pins s σ H E I hf st hg;subst hP hw hK;obtain⟨xs,x,hq,hx⟩:=hg;obtain⟨its,rv,p,hz⟩:=I.list hq;obtain⟨u,hu,ru⟩:=rv.get hx;obtain⟨f0,f1,f2,f3,f4,f5⟩:=hf it (by simp);refine g2d st p.isList (x:=u) (by simpa using hu) fun h' st' sb=>?_;have I1:Inv X pins σ H {s with heap:=h'}:=I.turned (t':=s.toks) (fun b o hb e=>(sb.2 b hb).trans e) f0 f1 f3 f4 f5;obtain⟨o,e,c,d⟩:=id st';exact⟨u,rfl,qbb (s:={s with heap:=h'}) e c d (by decide) ⟨x,H,I1,ru,⟨rfl,fun ys hy=>by rw [I.list_inj hy hq];exact hx⟩,st',fun b hb=>(hf b hb).1⟩⟩
 done:=by
  intro X hP hw hK hc i pins s σ H E I hf st hg;subst hP hw hK;obtain⟨xs,hq,hx⟩:=hg;obtain⟨its,rv,p,hz⟩:=I.list hq;obtain⟨f0,f1,f2,f3,f4,f5⟩:=hf it (by simp);have hl:=rv.length;exact g2k (I.ok.hd hc) st p.isList (by simp;omega) fun h' eb=>⟨rfl,I.turned (t':=s.toks) (fun b o hb e=>eb b o hb e) f0 f1 f3 f4 f5⟩
 self:=fun _ _ _ _ _ st h=>wpAny_pyIter_listiter st h
theorem qg2{P:Program}{w:World}{K:PySem.W.Frag}{tg:Expr}(a it:Addr): Turn P w K tg (Itt K a) [it] it (fun i h=>h.IsTupleIter it a i) where
 mem:=by simp
 obj:=fun i h st b hb=>by
  have e:b=it:=by simpa using hb
  subst e;obtain⟨o,e,c,d⟩:=st;exact⟨o,e,fun v z=>by rw [d] at z;cases z⟩
 keep:=fun i h h' st k=>st.at fun o e=>k it (by simp) o e
 item:=by
  intro X hP hw hK hc i pins s σ H E I hf st hg;subst hP hw hK;obtain⟨xs,x,hq,hx⟩:=hg;obtain⟨its,rv,p,hz⟩:=I.tuple hq;obtain⟨u,hu,ru⟩:=rv.get hx;obtain⟨f0,f1,f2,f3,f4,f5⟩:=hf it (by simp);refine wpAny_pyNext_tuple_item st (show s.heap.IsTuple a its.toArray from p) (x:=u) (by simpa using hu) fun h' st' sb=>?_;have I1:Inv X pins σ H {s with heap:=h'}:=I.turned (t':=s.toks) (fun b o hb e=>(sb.2 b hb).trans e) f0 f1 f3 f4 f5;obtain⟨o,e,c,d⟩:=id st';exact⟨u,rfl,qbb (s:={s with heap:=h'}) e c d (by decide) ⟨x,H,I1,ru,⟨rfl,fun ys hy=>by rw [I.tuple_inj hy hq];exact hx⟩,st',fun b hb=>(hf b hb).1⟩⟩
 done:=by
  intro X hP hw hK hc i pins s σ H E I hf st hg;subst hP hw hK;obtain⟨xs,hq,hx⟩:=hg;obtain⟨its,rv,p,hz⟩:=I.tuple hq;obtain⟨f0,f1,f2,f3,f4,f5⟩:=hf it (by simp);have hl:=rv.length;exact wpAny_pyNext_tuple_end (I.ok.hd hc) st (show s.heap.IsTuple a its.toArray from p) (by simp;omega) fun h' eb=>⟨rfl,I.turned (t':=s.toks) (fun b o hb e=>eb b o hb e) f0 f1 f3 f4 f5⟩
 self:=fun _ _ _ _ _ st h=>wpAny_pyIter_tupleiter st h
theorem qg3{P:Program}{w:World}{K:PySem.W.Frag}{tg:Expr}(it:Addr)(lo:Int)(n:Nat): Turn P w K tg (Itr lo n) [it] it (fun i h=>IsRangeIter h it (lo+(i:Nat)*1) ((n:Int)-(i:Nat)) 1) where
 mem:=by simp
 obj:=fun i h st b hb=>by
  have e:b=it:=by simpa using hb
  subst e;exact⟨_,st,fun v z=>by
   have z':Data.fields _=Data.cell v:=z;cases z'⟩
 keep:=fun i h h' st k=>k it (by simp) _ st
 item:=by
  intro X hP hw hK hc i pins s σ H E I hf st hg;subst hP hw hK;obtain⟨f0,f1,f2,f3,f4,f5⟩:=hf it (by simp);have W:=Walks.range (prog:=X.prog) (w:=X.w) (I.ok.hd hc) it lo 1 n;refine W.item i s _ _ hg st fun v h' tk hv st' kk=>?_;obtain⟨t,rfl⟩:=hv;have I1:Inv X pins σ H {s with heap:=h',toks:=tk}:=I.turned (fun b o hb e=>kk b o (by simpa using hb) e) f0 f1 f3 f4 f5;refine⟨_,rfl,qbb (s:={s with heap:=h',toks:=tk}) (n:="range_iterator") st' rfl rfl (by decide) ⟨.int (lo+i),H,I1,⟨t,?_⟩,⟨rfl,rfl⟩,st',fun b hb=>(hf b hb).1⟩⟩;rw [Int.mul_one]
 done:=by
  intro X hP hw hK hc i pins s σ H E I hf st hg;subst hP hw hK;obtain⟨f0,f1,f2,f3,f4,f5⟩:=hf it (by simp);exact wpAny_pyNext_range_end (I.ok.hd hc) st (by have:n<=i:=hg;omega) fun h' eb=>⟨rfl,I.turned (t':=s.toks) (fun b o hb e=>eb b o hb e) f0 f1 f3 f4 f5⟩
 self:=fun _ _ _ _ _ st h=>wpAny_pyIter_rangeiter st h
section
variable{X:Cx}{tg:Expr}
theorem qbs{pins:List (Addr×Obj)}{σ : St}{H:Hp}{s:Shared}{R:It->Hp->Prop}{E:Value->Shared->Prop}{lo hi:Int}{t u v:Tok}{tk:Nat}(I:Inv X pins σ H s)(h1 : -(2 ^ 62)<=lo)(h2:lo<2 ^ 62)(h3 : -(2 ^ 62)<=hi)(h4:hi<2 ^ 62)
  (q:R (Itr lo (hi-lo).toNat) H):wpAny (model X.prog X.w) X.A (pyIter (.ref s.heap.objs.size)) (PIE X pins σ tg R) E {s with heap:=s.heap.push {cls:=.type "range",data:=.fields #[.int lo t,.int hi u,.int 1 v]},toks:=tk}:=by
 refine wpAny_pyIter_range (IsRange.new ..) (small_one h1 h2 h3 h4) ?_;have I1:Inv X pins σ H {s with heap:=s.heap.push {cls:=.type "range",data:=.fields #[.int lo t,.int hi u,.int 1 v]},toks:=tk}:=I.kept fun b o e=>g9 _ e;refine⟨(s.heap.push {cls:=.type "range",data:=.fields #[.int lo t,.int hi u,.int 1 v]}).objs.size,[(s.heap.push {cls:=.type "range",data:=.fields #[.int lo t,.int hi u,.int 1 v]}).objs.size],_,_,H,rfl,
  I1.kept (t':=tk) fun b o e=>g9 _ e,qg3 _ lo (hi-lo).toNat,?_,fun b hb=>?_,q⟩
 ·have e1:lo+((0:Nat):Int)*1=lo:=by simp
  have e2:(((hi-lo).toNat:Nat):Int)-((0:Nat):Int)=Builtin.Range.rangeSize lo hi 1:=by rw [rangeSize_one];split <;> omega
  show IsRangeIter _ _ (lo+((0:Nat):Int)*1) ((((hi-lo).toNat:Nat):Int)-((0:Nat):Int)) 1;rw [e1,e2];exact gp _ rfl
 ·have e:b=(s.heap.push {cls:=.type "range",data:=.fields #[.int lo t,.int hi u,.int 1 v]}).objs.size:=by simpa using hb
  subst e;exact I1.fpOk (gq _) (I1.hok.fresh (gq _))
def qs2(ta:TA): TI:=fun σ H R=>ta σ H fun vs H1=>∃j:Int,vs=[.int j] /\ -(2 ^ 62)<=j/\j<2 ^ 62/\R (Itr 0 j.toNat) H1
def qs3(ta:TA): TI:=fun σ H R=>ta σ H fun vs H1=>∃i j:Int,vs=[.int i,.int j]/\(-(2 ^ 62)<=i/\i<2 ^ 62 /\ -(2 ^ 62)<=j/\j<2 ^ 62)/\R (Itr i (j-i).toNat) H1
theorem qie{a:Expr}{ta:TA}{p pos:Pos}(hg:Gl X "range")(hm:X.mg "range" = none)(ha:PA X [a] ta)(hs:starEach [a] X.env=[(false,eval a X.env)]:=by rfl): PI X tg (.Call (.Name "range" p) [a] [] pos) (qs2 ta):=by
 intro pins s σ H R I h;refine Call_ (q5b I hg hm boot_range (g1f (thn (ha pos pins s σ H _ I h) fun us s1 ⟨vs,H1,I1,r1,q1⟩=>?_) hs rfl));obtain⟨j,e,q1,q2,q⟩:=q1;subst e;cases r1 with
 | cons r rr=>
  cases rr;obtain⟨t,rfl⟩:=r;exact call_range_1 (qbs I1 (by omega) (by omega) q1 q2 (by simpa using q))
theorem qif{a b:Expr}{ta:TA}{p pos:Pos}(hg:Gl X "range")(hm:X.mg "range" = none)(ha:PA X [a,b] ta)(hs:starEach [a,b] X.env=[(false,eval a X.env),(false,eval b X.env)]:=by rfl)(hs2:starEach [b] X.env=[(false,eval b X.env)]:=by rfl):
  PI X tg (.Call (.Name "range" p) [a,b] [] pos) (qs3 ta):=by
 intro pins s σ H R I h;refine Call_ (q5b I hg hm boot_range (g1f (thn (ha pos pins s σ H _ I h) fun us s1 ⟨vs,H1,I1,r1,q1⟩=>?_) (by rw [hs,hs2]) (by rw [hs2];rfl)));obtain⟨i,j,e,⟨q1,q2,q3,q4⟩,q⟩:=q1;subst e;cases r1 with
 | cons r rr=>
  cases rr with
  | cons r' rr=>
   cases rr;obtain⟨t,rfl⟩:=r;obtain⟨t',rfl⟩:=r';exact call_range_2 (qbs I1 q1 q2 q3 q4 q)
def qtg(wi:TI)(g:TG)(tb:TS): TS:=fun D σ H=>wi σ H fun J H1=>∃W:Nat->Nat->St->Hp->Prop,(∃m,W 0 m σ H1)/\∀i m σ H,W i m σ H ->
 (J.stop i H/\D.nx σ H)\/(J.go i H/\∃N:St->Hp->Prop,(∀ σ' H',N σ' H'->∃m',m'<m/\W (i+1) m' σ' H')/\∀x H',J.yld i H x H'->g x σ H' fun σ2 H2=>tb {D with nx:=N,ct:=N,bk:=D.nx} σ2 H2)
def q3s(fp:List Addr)(h:Heap): List (Addr×Obj):=fp.filterMap fun b=>(h.get? b).map fun o=>(b,o)
theorem q22{fp:List Addr}{h:Heap}{b:Addr}{o:Obj}(hb:b∈fp)(e:h.get? b=some o): (b,o)∈q3s fp h:=g1u.mpr ⟨b,hb,by rw [e];rfl⟩
theorem qig{fp:List Addr}{h:Heap}{p:Addr×Obj}(hp:p∈q3s fp h): p.1∈fp/\h.get? p.1=some p.2:=by
 obtain⟨b,hb,e⟩:=g1u.mp hp;cases q:h.get? b with
 | none=>rw [q] at e;cases e
 | some o=>
  rw [q] at e;have e':(b,o)=p:=mi e;subst e';exact⟨hb,q⟩
theorem Inv.pinned{pins:List (Addr×Obj)}{σ : St}{H:Hp}{s:Shared}{fp:List Addr}(I:Inv X pins σ H s)(hf:∀b∈fp,q2e X pins H b)(ho:∀b∈fp,∃o,s.heap.get? b=some o/\∀v,o.data ≠ .cell v): Inv X (pins++q3s fp s.heap) σ H s:=
 I.pins_of fun p hp=>(nh.mp hp).elim (fun z=>I.pin p (ml _ z)) fun z=>by
  obtain⟨hb,e⟩:=qig z;obtain⟨f0,f1,f2,_⟩:=hf p.1 hb;obtain⟨o,e',d⟩:=ho p.1 hb;rw [e] at e';cases e';exact⟨e,f0,f1,f2,d⟩
theorem Inv.unpinned{pins pl:List (Addr×Obj)}{σ : St}{H:Hp}{s:Shared}(I:Inv X (pins++pl) σ H s): Inv X pins σ H s:=I.pins_of fun p hp=>I.pin p (ml _ (g0k _ hp))
theorem qpn{iter:Expr}{body:List Stmt}{wi:TI}{g:TG}{tb:TS}{pos:Pos}(hp:PassesOwn (model X.prog X.w) X.A X.env X.xe)(hc:X.calm=true)(hi:PI X tg iter wi)(hg:PG X tg g)(hb:PSs X body tb)
  (hs:∀x,foldedSetIterable iter X.env x=pure x:=by intro _;rfl):PS X (.For tg iter body [] pos) (qtg wi g tb):=by
 intro pins s σ H D I h;refine wpAny_For (thn (hi pins s σ H _ I h) fun v s1 h1=>thn h1 fun itv s2 h2=>?_) hs;obtain⟨it,fp,tn,J,H2,e,I2,T,st2,f2,W,⟨m0,w0⟩,turn⟩:=h2;subst e
 -- what stays true of the iterator's objects through the loop
 have stat:∀ {H':Hp},(∀b∈fp,H' b=none)->∀b∈fp,q2e X pins H' b:=fun hn b hb=>⟨hn b hb,(f2 b hb).2⟩
 refine codeAny_forLoop_any (fun n s'=>∃i σ' H',Inv X pins σ' H' s'/\tn i s'.heap/\(∀b∈fp,H' b=none)/\W i n σ' H') ?_ m0 ⟨0, σ,H2,I2,st2,fun b hb=>(f2 b hb).1,w0⟩
 rintro n s3 ⟨i, σ3,H3,I3,st3,fr3,w3⟩
 rcases turn i n σ3 H3 w3 with⟨stop,qn⟩|⟨go,N,hN,step⟩
 ·refine g0c hp (thn (T.done X rfl rfl rfl hc i pins s3 σ3 H3 X.xe I3 (stat fr3) st3 stop) fun r s4 ⟨hr,I4⟩=>?_)
  subst hr;exact g1o ⟨σ3,H3,I4,qn⟩
 ·refine g0c hp (thn (T.item X rfl rfl rfl hc i pins s3 σ3 H3 X.xe I3 (stat fr3) st3 go) fun r s4 ⟨u,hr,h4⟩=>?_)
  subst hr;refine g0c hp (thn h4 fun _ s5 ⟨x,H5,I5,r5,y5,st5,fr5⟩=>?_);have I5':=I5.pinned (stat fr5) (T.obj _ _ st5);refine g0c hp (thn (hg _ s5 σ3 H5 x u _ I5' r5 (step x H5 y5)) fun _ s6 ⟨σ6,H6,I6,q6⟩=>?_);refine g0c hp (thn (hb _ s6 σ6 H6 _ I6 q6) fun f s7 q7=>?_);have again:∀ {σ7:St} {H7:Hp},Inv X (pins++q3s fp s5.heap) σ7 H7 s7->N σ7 H7->∃m,m<n/\∃i σ' H',Inv X pins σ' H' s7/\tn i s7.heap/\(∀b∈fp,H' b=none)/\W i m σ' H':=fun {σ7 H7} I7 n7=>by
   obtain⟨m',hm,w7⟩:=hN σ7 H7 n7;refine⟨m',hm,i+1, σ7,H7,I7.unpinned,T.keep _ _ _ st5 fun b hb o e=>(I7.pin (b,o) (ml _ (ml _ (q22 hb e)))).1,fun b hb=>?_,w7⟩;obtain⟨o,e,d⟩:=T.obj _ _ st5 b hb;exact(I7.pin (b,o) (ml _ (ml _ (q22 hb e)))).2.1
  cases f with
  | next=>obtain⟨σ7,H7,I7,n7⟩:=q7;exact again I7 n7
  | cont=>obtain⟨σ7,H7,I7,n7⟩:=q7;exact again I7 n7
  | brk=>obtain⟨σ7,H7,I7,q7⟩:=q7;exact⟨σ7,H7,I7.unpinned,q7⟩
  | ret v=>obtain⟨x7, σ7,H7,I7,r7,q7⟩:=q7;exact⟨x7, σ7,H7,I7.unpinned,r7,q7⟩
end
abbrev R2:=V->V->Hp->VK->Prop
def OpR(X:Cx)(f:Value->Value->Sem Value)(r:R2): Prop:=
 ∀(pins:List (Addr×Obj)) (s:Shared) (σ : St) (H:Hp) (x y:V) (v u:Value) (Q:VK),Inv X pins σ H s->RelV x v->RelV y u->r x y H Q ->
  wpAny (model X.prog X.w) X.A (f v u) (EP X pins σ Q) X.xe s
def xv(X:Cx)(f:Value)(r:List V->Hp->VK->Prop): Prop:=
 ∀(pins:List (Addr×Obj)) (s:Shared) (σ : St) (H:Hp) (xs:List V) (us:List Value) (Q:VK),Inv X pins σ H s->Vals xs us->r xs H Q ->
  wpAny (model X.prog X.w) X.A (call f us) (EP X pins σ Q) X.xe s
def qth(X:Cx)(r:V->Hp->(Bool->Hp->Prop)->Prop): Prop:=
 ∀(pins:List (Addr×Obj)) (s:Shared) (σ : St) (H:Hp) (x:V) (v:Value) (Q:Bool->Hp->Prop),Inv X pins σ H s->RelV x v->r x H Q ->
  wpAny (model X.prog X.w) X.A (truthy v) (TP X pins σ Q) X.xe s
def tOp(r:R2)(ta tb:TE): TE:=fun σ H Q=>ta σ H fun x H1=>tb σ H1 fun y H2=>r x y H2 Q
def rI(C:Int->Int->Prop)(g:Int->Int->V): R2:=fun x y H Q=>∃i j,x=.int i/\y=.int j/\C i j/\Q (g i j) H
def rI0(g:Int->Int->V): R2:=fun x y H Q=>∃i j,x=.int i/\y=.int j/\Q (g i j) H
section
variable{X:Cx}{a b c:Expr}{ta tb tc:TE}{pos:Pos}
theorem qkg(ha:PE X a ta)(hb:PE X b tb){pins:List (Addr×Obj)}{s:Shared}{σ : St}{H:Hp}{R:V->V->Hp->Prop}(I:Inv X pins σ H s)
  (h:ta σ H fun x H1=>tb σ H1 fun y H2=>R x y H2) {Q:Value->Shared->Prop} {f:Value->Value->Sem Value}
  (hf:∀v u s2 x y H2,Inv X pins σ H2 s2->RelV x v->RelV y u->R x y H2->wpAny (model X.prog X.w) X.A (f v u) Q X.xe s2) :
  wpAny (model X.prog X.w) X.A (eval a X.env) (fun v s₁=>wpAny (model X.prog X.w) X.A (eval b X.env) (fun u s₂=>wpAny (model X.prog X.w) X.A (f v u) Q X.xe s₂) X.xe s₁) X.xe s:=by
 refine thn (ha pins s σ H _ I h) fun v s1 ⟨x,H1,I1,r1,q1⟩=>?_;refine thn (hb pins s1 σ H1 _ I1 q1) fun u s2 ⟨y,H2,I2,r2,q2⟩=>?_;exact hf v u s2 x y H2 I2 r1 r2 q2
theorem qmy{op:Operator}{r:R2}(ho:OpR X (binaryOp op) r)(ha:PE X a ta)(hb:PE X b tb): PE X (.BinOp a op b pos) (tOp r ta tb):=by
 intro pins s σ H Q I h;exact wpAny_BinOp (qkg ha hb I h fun v u s2 x y H2 I2 rx ry q=>ho pins s2 σ H2 x y v u Q I2 rx ry q)
theorem opI{f:Value->Value->Sem Value}{C:Int->Int->Prop}{g:Int->Int->Int}
  (rule:∀(i j:Int) (t u:Tok) (s:Shared) (Q:Value->Shared->Prop) (E:Value->Shared->Prop),C i j->Q (.int (g i j) s.toks) {s with toks:=s.toks+1}->wpAny (model X.prog X.w) X.A (f (.int i t) (.int j u)) Q E s) :
  OpR X f (rI C fun i j=>.int (g i j)):=by
 intro pins s σ H x y v u Q I rx ry h;obtain⟨i,j,rfl,rfl,hc,q⟩:=h;obtain⟨t,rfl⟩:=rx;obtain⟨t',rfl⟩:=ry;exact rule i j t t' s _ _ hc ⟨.int (g i j),H,I.tok _,⟨_,rfl⟩,q⟩
theorem qg4{f:Value->Value->Sem Value}{g:Int->Int->Int}
  (rule:∀(i j:Int) (t u:Tok) (s:Shared) (Q:Value->Shared->Prop) (E:Value->Shared->Prop),Q (.int (g i j) s.toks) {s with toks:=s.toks+1}->wpAny (model X.prog X.w) X.A (f (.int i t) (.int j u)) Q E s) :
  OpR X f (rI0 fun i j=>.int (g i j)):=by
 intro pins s σ H x y v u Q I rx ry h;obtain⟨i,j,rfl,rfl,q⟩:=h;obtain⟨t,rfl⟩:=rx;obtain⟨t',rfl⟩:=ry;exact rule i j t t' s _ _ ⟨.int (g i j),H,I.tok _,⟨_,rfl⟩,q⟩
theorem qkh{f:Value->Value->Sem Value}{g:Int->Int->Bool}
  (rule:∀(i j:Int) (t u:Tok) (s:Shared) (Q:Value->Shared->Prop) (E:Value->Shared->Prop),Q (.bool (g i j)) s->wpAny (model X.prog X.w) X.A (f (.int i t) (.int j u)) Q E s) :
  OpR X f (rI0 fun i j=>.bl (g i j)):=by
 intro pins s σ H x y v u Q I rx ry h;obtain⟨i,j,rfl,rfl,q⟩:=h;obtain⟨t,rfl⟩:=rx;obtain⟨t',rfl⟩:=ry;exact rule i j t t' s _ _ ⟨.bl (g i j),H,I,rfl,q⟩
def qti(i j:Int): Prop:=0<j/\j<1073741824
def qpo(i j:Int): Prop:=0<=j/\j<=1000000/\i.natAbs<2 ^ 64
def CMul(i j:Int): Prop:=(-(2 ^ 64)<i/\i<2 ^ 64)\/(-(2 ^ 64)<j/\j<2 ^ 64)
theorem CMul.ok{i j:Int}(h:CMul i j): IntMulOk i j:=by
 rcases h with⟨h1,h2⟩|⟨h1,h2⟩
 ·exact .of_left (intBits_le_64 h1 h2)
 ·exact .of_right (intBits_le_64 h1 h2)
theorem qg5(k:Nat): (0:Int)<=2 ^ k:=by
 rw [two_pow_cast];exact Int.natCast_nonneg _
theorem qpp:OpR X (binaryOp .Add) (rI0 fun i j=>.int (i+j)):=qg4 fun _ _ _ _ _ _ _ q=>add_int q
theorem qpq:OpR X (binaryOp .Sub) (rI0 fun i j=>.int (i-j)):=qg4 fun _ _ _ _ _ _ _ q=>sub_int q
theorem qpr:OpR X (binaryOp .Mult) (rI CMul fun i j=>.int (i*j)):=opI fun _ _ _ _ _ _ _ hc q=>mul_int q hc.ok
theorem qnj:OpR X (binaryOp .FloorDiv) (rI qti fun i j=>.int (i / j)):=opI fun i j _ _ _ _ _ hc q=>by
 have h1:(0:Int)<j:=hc.1;have h2:j<1073741824:=hc.2;exact floordiv_int (by omega) (by rw [g1m i (by omega)];exact q) (.inl (PyProof.noPylong_small (by omega)))
theorem qps:OpR X (binaryOp .Mod) (rI (fun _ j=>0<j) fun i j=>.int (i%j)):=opI fun i j _ _ _ _ _ hc q=>by
 have h1:(0:Int)<j:=hc;exact mod_int' (by omega) (by rw [Int.fmod_eq_emod_of_nonneg i (by omega)];exact q)
theorem qpt:OpR X (binaryOp .Pow) (rI qpo fun i j=>.int (i ^ j.toNat)):=opI fun _ _ _ _ _ _ _ hc q=>pow_int_small hc.1 hc.2.1 hc.2.2 q
theorem qpu:OpR X (binaryOp .LShift) (rI qpo fun i j=>.int (i*2 ^ j.toNat)):=opI fun _ _ _ _ _ _ _ hc q=>lshift_int_small hc.1 hc.2.1 hc.2.2 q
theorem qpv:OpR X (binaryOp .RShift) (rI (fun _ j=>0<=j) fun i j=>.int (i / 2 ^ j.toNat)):=opI fun i j _ _ _ _ _ hc q=>
 rshift_int hc (by rw [g1m i (qg5 _)];exact q)
theorem qpw:OpR X (binaryOp .BitAnd) (rI0 fun i j=>.int (Builtin.bitAnd i j)):=qg4 fun _ _ _ _ _ _ _ q=>and_int q
theorem qs4:OpR X (binaryOp .BitOr) (rI0 fun i j=>.int (Builtin.bitOr i j)):=qg4 fun _ _ _ _ _ _ _ q=>or_int q
end
def q9b:V->V->Bool
 | .non,.non=>true | .non,.int _=>true | .int _,.non=>true | .non,.bl _=>true | .bl _,.non=>true | .non,.str _=>true | .str _,.non=>true
 | .int _,.int _=>true | .bl _,.bl _=>true | .str _,.str _=>true | .byt _,.byt _=>true
 | .int _,.str _=>true | .str _,.int _=>true | .bl _,.str _=>true | .str _,.bl _=>true
 | _,_=>false
def rEq:R2:=fun x y H Q=>q9b x y=true/\Q (.bl (decide (x=y))) H
def rNe:R2:=fun x y H Q=>q9b x y=true/\Q (.bl (!decide (x=y))) H
theorem qf1{i j:Int}: decide (V.int i=V.int j)=(i==j):=by
 rw [ph];simp
theorem qih{i j:Bool}: decide (V.bl i=V.bl j)=(i==j):=by
 rw [ph];simp
theorem qf2{i j:Str}: decide (V.str i=V.str j)=(i==j):=by
 rw [ph];simp
theorem qf3{i j:Array UInt8}: decide (V.byt i=V.byt j)=(i.toList==j.toList):=by
 rw [ph];cases i;cases j;simp
section
variable{X:Cx}{a b c:Expr}{ta tb tc:TE}{pos:Pos}
theorem zw{pins:List (Addr×Obj)}{σ : St}{H:Hp}{s:Shared}{Q:VK}{k k':Bool}(I:Inv X pins σ H s)(q:Q (.bl k) H)(e:k=k'): EP X pins σ Q (.bool k') s:=by
 subst e;exact⟨.bl k,H,I,rfl,q⟩
theorem qs5:OpR X (compareOp .Eq) rEq:=by
 intro pins s σ H x y v u Q I rx ry h;obtain⟨hs,q⟩:=h;cases x with
 | non=>
  cases rx;cases y with
  | non=>cases ry;exact PySem.EqNone.eq_none_none (zw I q (by simp))
  | bl j=>cases ry;exact PySem.EqNone.eq_none_bool (zw I q (by simp))
  | int j=>obtain⟨t',rfl⟩:=ry;exact PySem.EqNone.eq_none_int (zw I q (by simp))
  | str j=>obtain⟨t',rfl⟩:=ry;exact PySem.EqNone.eq_none_str (zw I q (by simp))
  | _=>exact absurd (show false=true from hs) gs
 | bl i=>
  cases rx;cases y with
  | non=>cases ry;exact PySem.EqNone.eq_bool_none (zw I q (by simp))
  | bl j=>cases ry;exact eq_bool (zw I q qih)
  | str j=>obtain⟨t',rfl⟩:=ry;exact PySem.EqMixed.eq_bool_str (zw I q (by simp))
  | _=>exact absurd (show false=true from hs) gs
 | int i=>
  obtain⟨t,rfl⟩:=rx;cases y with
  | non=>cases ry;exact PySem.EqNone.eq_int_none (zw I q (by simp))
  | int j=>obtain⟨t',rfl⟩:=ry;exact eq_int (zw I q qf1)
  | str j=>obtain⟨t',rfl⟩:=ry;exact PySem.EqMixed.eq_int_str (zw I q (by simp))
  | _=>exact absurd (show false=true from hs) gs
 | str i=>
  obtain⟨t,rfl⟩:=rx;cases y with
  | non=>cases ry;exact PySem.EqNone.eq_str_none (zw I q (by simp))
  | bl j=>cases ry;exact PySem.EqMixed.eq_str_bool (zw I q (by simp))
  | int j=>obtain⟨t',rfl⟩:=ry;exact PySem.EqMixed.eq_str_int (zw I q (by simp))
  | str j=>obtain⟨t',rfl⟩:=ry;exact eq_str (zw I q qf2)
  | _=>exact absurd (show false=true from hs) gs
 | byt i=>
  obtain⟨t,rfl⟩:=rx;cases y with
  | byt j=>obtain⟨t',rfl⟩:=ry;exact PySem.W.eq_bytes (zw I q qf3)
  | _=>exact absurd (show false=true from hs) gs
 | _=>cases y <;> exact absurd (show false=true from hs) gs
theorem qs6:OpR X (compareOp .NotEq) rNe:=by
 intro pins s σ H x y v u Q I rx ry h;obtain⟨hs,q⟩:=h;cases x with
 | non=>
  cases rx;cases y with
  | non=>cases ry;exact PySem.EqNone.ne_none_none (zw I q (by simp))
  | bl j=>cases ry;exact PySem.EqNone.ne_none_bool (zw I q (by simp))
  | int j=>obtain⟨t',rfl⟩:=ry;exact PySem.EqNone.ne_none_int (zw I q (by simp))
  | str j=>obtain⟨t',rfl⟩:=ry;exact PySem.EqNone.ne_none_str (zw I q (by simp))
  | _=>exact absurd (show false=true from hs) gs
 | bl i=>
  cases rx;cases y with
  | non=>cases ry;exact PySem.EqNone.ne_bool_none (zw I q (by simp))
  | bl j=>cases ry;exact ne_bool (zw I q (t4 not qih))
  | str j=>obtain⟨t',rfl⟩:=ry;exact PySem.EqMixed.ne_bool_str (zw I q (by simp))
  | _=>exact absurd (show false=true from hs) gs
 | int i=>
  obtain⟨t,rfl⟩:=rx;cases y with
  | non=>cases ry;exact PySem.EqNone.ne_int_none (zw I q (by simp))
  | int j=>obtain⟨t',rfl⟩:=ry;exact ne_int (zw I q (t4 not qf1))
  | str j=>obtain⟨t',rfl⟩:=ry;exact PySem.EqMixed.ne_int_str (zw I q (by simp))
  | _=>exact absurd (show false=true from hs) gs
 | str i=>
  obtain⟨t,rfl⟩:=rx;cases y with
  | non=>cases ry;exact PySem.EqNone.ne_str_none (zw I q (by simp))
  | bl j=>cases ry;exact PySem.EqMixed.ne_str_bool (zw I q (by simp))
  | int j=>obtain⟨t',rfl⟩:=ry;exact PySem.EqMixed.ne_str_int (zw I q (by simp))
  | str j=>obtain⟨t',rfl⟩:=ry;exact ne_str (zw I q (t4 not qf2))
  | _=>exact absurd (show false=true from hs) gs
 | byt i=>
  obtain⟨t,rfl⟩:=rx;cases y with
  | byt j=>obtain⟨t',rfl⟩:=ry;exact PySem.W.ne_bytes (zw I q (t4 not qf3))
  | _=>exact absurd (show false=true from hs) gs
 | _=>cases y <;> exact absurd (show false=true from hs) gs
theorem qs7:OpR X (compareOp .Lt) (rI0 fun i j=>.bl (decide (i<j))):=qkh fun _ _ _ _ _ _ _ q=>lt_int q
theorem qs8:OpR X (compareOp .Gt) (rI0 fun i j=>.bl (decide (j<i))):=qkh fun _ _ _ _ _ _ _ q=>gt_int q
theorem qs9:OpR X (compareOp .GtE) (rI0 fun i j=>.bl (decide (j<=i))):=qkh fun _ _ _ _ _ _ _ q=>ge_int q
theorem qnk{op:CmpOp}{r:R2}(ho:OpR X (compareOp op) r)(ha:PE X a ta)(hb:PE X b tb)(hm:behindInMarks op b=false): PE X (.Compare a [op] [b] pos) (tOp r ta tb):=by
 intro pins s σ H Q I h;exact wpAny_Compare1 (qkg ha hb I h fun v u s2 x y H2 I2 rx ry q=>ho pins s2 σ H2 x y v u Q I2 rx ry q) hm
def qsa(t:TE): TT:=fun σ H Q=>t σ H fun x H'=>∃k,x=.bl k/\Q k H'
theorem qnl{op:CmpOp}{r:R2}(ho:OpR X (compareOp op) r)(ha:PE X a ta)(hb:PE X b tb)(hm:behindInMarks op b=false): PT X (.Compare a [op] [b] pos) (qsa (tOp r ta tb)):=by
 intro pins s σ H Q I h;refine wpAny_isTrue_Compare1 (thn (ha pins s σ H _ I h) fun v s1 ⟨x,H1,I1,r1,q1⟩=>thn (hb pins s1 σ H1 _ I1 q1) fun u s2 ⟨y,H2,I2,r2,q2⟩=>
  thn (ho pins s2 σ H2 x y v u _ I2 r1 r2 q2) fun c s3 ⟨z,H3,I3,r3,k,e,q3⟩=>?_) hm
 subst e;cases r3;exact um ⟨H3,I3,q3⟩
def qki(K:PySem.W.Frag)(x:V)(H:Hp)(k:Bool): Prop:=
 match x with
 | .non=>k=false
 | .bl b=>k=b
 | .int i=>k=(i != 0)
 | .str y=>y.length<=sizeLine/\k=((y.length:Int) != 0)
 | .byt y=>y.size<=sizeLine/\k=((y.size:Int) != 0)
 | .ref p=>(∃xs,SqL K H p xs/\k = !xs.isEmpty)\/(∃xs,SqT K H p xs/\k = !xs.isEmpty)\/∃kvs,H p=some (.dK kvs)/\k = !kvs.isEmpty
 | _=>False
theorem qg6{κ : Type}{kvs:List (κ × V)}{vs:List (κ × Value)}(r:KV kvs vs): (!vs.isEmpty) = !kvs.isEmpty:=by
 cases r <;> rfl
theorem q85{xs:List V}{its:List Value}(r:Vals xs its): (!its.toArray.isEmpty) = !xs.isEmpty:=by
 cases r <;> simp
theorem q5c:(sizeLine:Nat)<2 ^ 63:=by rw [g05];decide
theorem qpx:qth X (fun x H Q=>∃k,qki X.K x H k/\Q k H):=by
 intro pins s σ H x v Q I rx h;obtain⟨k,e,q⟩:=h;have hl:=q5c;have hs:sizeLine=16777216:=g05;cases x with
 | non=>
  cases rx;have e':k=false:=e;subst e';exact truthy_none ⟨H,I,q⟩
 | bl b=>
  cases rx;have e':k=b:=e;subst e';exact um ⟨H,I,q⟩
 | int i=>
  obtain⟨t,rfl⟩:=rx;have e':k=(i != 0):=e;subst e';exact PySem.P.truthy_int ⟨H,I,q⟩
 | str y=>
  obtain⟨t,rfl⟩:=rx;obtain⟨hy,e'⟩:y.length<=sizeLine/\k=((y.length:Int) != 0):=e;subst e';exact PySem.P.truthy_str (by omega) ⟨H,I.tok _,q⟩
 | byt y=>
  obtain⟨t,rfl⟩:=rx;obtain⟨hy,e'⟩:y.size<=sizeLine/\k=((y.size:Int) != 0):=e;subst e';exact PySem.W.truthy_bytes (by omega) ⟨H,I.tok _,q⟩
 | ref p=>
  cases rx;have e':(∃xs,SqL X.K H p xs/\k = !xs.isEmpty)\/(∃xs,SqT X.K H p xs/\k = !xs.isEmpty)\/∃kvs,H p=some (.dK kvs)/\k = !kvs.isEmpty:=e;rcases e' with⟨xs,hx,e'⟩|⟨xs,hx,e'⟩|⟨kvs,hx,e'⟩
  ·subst e'
   obtain⟨its,r,pl,hz⟩:=I.list hx;have hlen:=r.length;exact wpAny_truthy_list pl.isList (by simp only [gd];omega) ⟨H,I.tok _,by rw [q85 r];exact q⟩
  ·subst e'
   obtain⟨its,r,pl,hz⟩:=I.tuple hx;have hlen:=r.length;exact truthy_tuple pl (by simp only [gd];omega) ⟨H,I.tok _,by rw [q85 r];exact q⟩
  ·subst e'
   obtain⟨hz,hS,vs,r,m⟩:kvs.length<=sizeLine/\(p==sysModules)=false/\∃vs,KV kvs vs/\s.heap.DictOf (mixKind X.prog X.w) p vs:=I.hok p _ hx;have hlen:kvs.length=vs.length:=Paired.length r;exact wpAny_truthy_dict hS m (by omega) ⟨H,I.tok _,by rw [qg6 r];exact q⟩
 | _=>exact(show False from e).elim
theorem qkj(ha:PE X a ta)(he:∀whole,isTrue a X.env whole=(do let v <- whole;standAt a.pos;holding [v] (truthy v))):
  PT X a (fun σ H Q=>ta σ H fun x H'=>∃k,qki X.K x H' k/\Q k H'):=by
 intro pins s σ H Q I h;exact isTrue_plain (thn (ha pins s σ H _ I h) fun v s1 ⟨x,H1,I1,r1,q1⟩=>qpx pins s1 σ H1 x v Q I1 r1 q1) (he _)
theorem vals1{x:V}{us:List Value}(r:Vals [x] us): ∃u,us=[u]/\RelV x u:=by
 cases r with
 | cons r1 r2=>cases r2;exact⟨_,rfl,r1⟩
def qtj(K:PySem.W.Frag)(x:V)(H:Hp)(n:Nat): Prop:=
 match x with
 | .str y=>y.length<=sizeLine/\n=y.length
 | .byt y=>y.size<=sizeLine/\n=y.size
 | .ref p=>(∃xs,SqL K H p xs/\n=xs.length)\/∃xs,SqT K H p xs/\n=xs.length
 | _=>False
theorem qkk:xv X (.builtin "len") (fun xs H Q=>∃x n,xs=[x]/\qtj X.K x H n/\Q (.int n) H):=by
 intro pins s σ H xs us Q I r h;obtain⟨x,n,rfl,e,q⟩:=h;obtain⟨u,rfl,rx⟩:=vals1 r;have hl:=q5c;have hs:sizeLine=16777216:=g05;cases x with
 | str y=>
  obtain⟨t,rfl⟩:=rx;obtain⟨hy,e'⟩:y.length<=sizeLine/\n=y.length:=e;subst e';exact len_str (by omega) ⟨.int _,H,I.tok _,⟨_,rfl⟩,q⟩
 | byt y=>
  obtain⟨t,rfl⟩:=rx;obtain⟨hy,e'⟩:y.size<=sizeLine/\n=y.size:=e;subst e';exact PySem.W.len_bytes (by omega) ⟨.int _,H,I.tok _,⟨_,rfl⟩,q⟩
 | ref p=>
  cases rx;have e':(∃xs,SqL X.K H p xs/\n=xs.length)\/∃xs,SqT X.K H p xs/\n=xs.length:=e;rcases e' with⟨xs,hx,e'⟩|⟨xs,hx,e'⟩
  ·subst e'
   obtain⟨its,r',pl,hz⟩:=I.list hx;have hlen:=r'.length;exact Calls.call_len_list pl.isList (by simp only [gd];omega) ⟨.int xs.length,H,I.tok _,⟨_,by simp only [gd];rw [hlen]⟩,q⟩
  ·subst e'
   obtain⟨its,r',pl,hz⟩:=I.tuple hx;have hlen:=r'.length;exact len_tuple pl (by simp only [gd];omega) ⟨.int xs.length,H,I.tok _,⟨_,by simp only [gd];rw [hlen]⟩,q⟩
 | _=>exact(show False from e).elim
end
structure ObjM(h:Heap)(x dx C:Addr)(mA:Str->Option Value): Prop where
 obj:h.get? x=some (PySem.W.instObj C dx)
 ns:h.Ns1 dx mA
 ne:dx≠x
theorem qa6{h:Heap}{dx:Addr}{mA:Str->Option Value}(n:h.Ns1 dx mA): ∃od,h.get? dx=some od/\∀name,PySem.W.lookIn name od=some (mA name):=by
 obtain⟨o,es,ep,ho,hd,hk,_,hm⟩:=n;refine⟨o,ho,fun name=>?_⟩;have e:=hm name;unfold nsFind findBy at e;rw [<- Array.find?_toList] at e;unfold PySem.W.lookIn;rw [hd];dsimp only
 split
 ·rename_i y q
  rw [q] at e;exact t4 some e
 ·rename_i q
  rw [q] at e;have a:es.toList.any (·.refKey)=false:=by
   rw [List.any_eq_false];intro y hy;obtain⟨z,t,hkey⟩:=hk y (Array.mem_toList_iff.mp hy);simp [DictEntry.refKey,hkey]
  have a':¬es.toList.any (·.refKey)=true:=by rw [a];exact gs
  rw [m8 a'];exact t4 some e
theorem ObjM.look{h:Heap}{x dx C:Addr}{mA:Str->Option Value}(I:ObjM h x dx C mA): ∃od,PySem.W.InstAt h x (PySem.W.instObj C dx) C (some od)/\∀name,PySem.W.lookIn name od=some (mA name):=
 let⟨od,ho,hl⟩:=qa6 I.ns
 ⟨od,⟨I.obj,rfl,rfl,ho⟩,hl⟩
section
variable{prog:Program}{w:World}{A:Around}{E:Value->Shared->Prop}{s:Shared}{K:PySem.W.Frag}{x dx C f:Addr}{mA:Str->Option Value}{name:Str}{v:Value}
theorem qkl{pl:Sem Bool}{Q:Value×List Value->Shared->Prop}(X:K.In s.heap)(I:ObjM s.heap x dx C mA)(hg:PySem.W.plainGet K C name=true)
  (hf:PySem.W.findIn K (.ref C) name=some (some (.ref f))) (ht:PySem.W.isFn K (.ref f)=true) (hv:mA name=none) (h:Q (.ref f,[.ref x]) s) :
  wpAny (model prog w) A (getMethod (.ref x) name pl) Q E s:=by
 obtain⟨od,J,hl⟩:=I.look;exact PySem.W.method_fn X J (PySem.W.plainGet_of hg).1 (PySem.W.plainGet_of hg).2 hf (uc.mp ht) (by show(PySem.W.lookIn name od).map (·.isSome)=some false;rw [hl,hv];rfl) h
end
theorem RelO.none_of{o:Option Value}(r:RelO none o): o=none:=by
 cases o with
 | none=>rfl
 | some u=>exact(show False from r).elim
section
variable{P:Program}{w:World}{H H':Hp}{h h':Heap}{a C dx:Addr}{fs fs':List (Str×V)}
theorem qf4(hok:HOk P w H h)(e:H a=some (.ins C dx fs)): ∃mA,ObjM h a dx C mA/\(∀f,RelO (fs.lookup f) (mA f))/\PySem.Within mA (fs.map (·.1))/\fs.length<=1000/\H dx=some (.own a):=by
 obtain⟨d,z,ne,ob,mA,n,r,q⟩:=(show ObjOk P w H h a (.ins C dx fs) from hok a _ e)
 exact⟨mA,⟨ob,n,ne⟩,r,q,z,d⟩
end
structure Cls(K:PySem.W.Frag)(C:Addr): Prop where
 pg:PySem.W.plainGet K C Str.empty=true
 hd:PySem.W.hasDictIn K C=true
 po:PySem.W.plainOver K C=true
 sa:PySem.W.findIn K (.ref C) "__setattr__" = some (some (.builtin "object.__setattr__"))
theorem Cls.get{K:PySem.W.Frag}{C:Addr}(c:Cls K C)(f:Str): PySem.W.plainGet K C f=true:=c.pg
structure Meth(K:PySem.W.Frag)(C:Addr)(m:Str)(f:Addr): Prop where
 at_:PySem.W.findIn K (.ref C) m=some (some (.ref f))
 fn:PySem.W.isFn K (.ref f)=true
 kp:PySem.W.keepIn K (.ref f)=true
section
variable{X:Cx}{pins:List (Addr×Obj)}{σ : St}{H:Hp}{s:Shared}{a C dx:Addr}{fs:List (Str×V)}{f:Str}{v:V}{A:Around}{E:Value->Shared->Prop}
theorem qg7{m:Str}{g:Addr}{pl:Sem Bool}{Q:Value×List Value->Shared->Prop}(I:Inv X pins σ H s)(e:H a=some (.ins C dx fs))(c:Cls X.K C)(k:Meth X.K C m g)(l:fs.lookup m=none)
  (h:Q (.ref g,[.ref a]) s):wpAny (model X.prog X.w) A (getMethod (.ref a) m pl) Q E s:=by
 obtain⟨mA,O,r,_,_,_⟩:=qf4 I.hok e;have hn:mA m=none:=RelO.none_of (by rw [<- l];exact r m);exact qkl I.kIn O (c.get m) k.at_ k.fn hn h
theorem Inv.made(I:Inv X pins σ H s): Inv X pins σ (upd (upd H s.heap.objs.size (.own (s.heap.objs.size+1))) (s.heap.objs.size+1) (.ins C s.heap.objs.size []))
  {s with heap:=(s.heap.push PySem.W.emptyDict).push (PySem.W.instObj C s.heap.objs.size)}:=by
 have e1:(s.heap.push PySem.W.emptyDict).get? s.heap.objs.size=some PySem.W.emptyDict:=gp s.heap rfl;have e2:((s.heap.push PySem.W.emptyDict).push (PySem.W.instObj C s.heap.objs.size)).get? (s.heap.objs.size+1)=some (PySem.W.instObj C s.heap.objs.size):=by
  have:=gp (s.heap.push PySem.W.emptyDict) (o:=PySem.W.instObj C s.heap.objs.size) rfl;rwa [g01] at this
 have e3:(s.heap.push PySem.W.emptyDict).Ns s.heap.objs.size (fun _=>none):=⟨PySem.W.emptyDict, #[],_,e1,rfl,(fun e he=>absurd he (by simp)),fun _=>rfl⟩
 have I1:=I.laid (a:=s.heap.objs.size) (o:=.own (s.heap.objs.size+1)) (h':=s.heap.push PySem.W.emptyDict) (t':=s.toks) (fun b u q=>g9 _ q) (gq _) ⟨_,e1⟩;refine I1.laid (a:=s.heap.objs.size+1) (o:=.ins C s.heap.objs.size []) (t':=s.toks) (fun b u q=>g9 _ q) (Nat.le_of_eq (g01 _ _)) ?_;have ne:s.heap.objs.size≠s.heap.objs.size+1:=gw (g02 _);refine⟨by rw [qy ne,z9],pj _,ne,e2,fun _=>none,(Heap.Ns1.of_empty e3).at fun o q=>g9 _ q,fun _=>True.intro,fun y hy=>absurd rfl hy⟩
theorem qnm{prog:Program}{w:World}{env:Env}{e:Expr}{f:Str}{pos:Pos}{s:Shared}{Q:Value->Shared->Prop}(hb:attributeBase e f env (eval e env)=eval e env)
  (h:wpAny (model prog w) A (eval e env) (fun o s₁=>wpAny (model prog w) A (getAttr o f true) Q E s₁) E s):wpAny (model prog w) A (eval (.Attribute e f pos) env) Q E s:=
 Attribute_any_ h (by rw [arm_eval_Attribute,hb])
end
section
variable{X:Cx}{o e value:Expr}{f:Str}{pos pos' tpos:Pos}{ta tv:TE}
end
section
variable{X:Cx}{pins:List (Addr×Obj)}{σ : St}{H:Hp}{s:Shared}{A:Around}{E:Value->Shared->Prop}{Q:Value->Shared->Prop}{c:Value}{b:Bool}
end
structure Room(k:Nat)(A:Around): Prop where
 hd:A.handled=none
 dp:A.depth+3*k+5<recursionLimit
 un:A.units+16*k+200<cLine
theorem Room.mono{j k:Nat}{A:Around}(r:Room k A)(h:j<=k): Room j A:=⟨r.hd,by have:=r.dp;omega,by have:=r.un;omega⟩
theorem Room.deeper{k:Nat}{A:Around}(r:Room (k+1) A)(env:Env): Room k (A.deeper env):=
 ⟨r.hd,by have:=r.dp;show A.depth+1+3*k+5<_;omega,by have:=r.un;show A.units+3+16*k+200<_;omega⟩
theorem qg8{A:Around}{C:Addr}{us:List Value}{kw:List (Str×Value)}: (A.under (.builtin "type.__call__" ⟨.ref C :: us,kw⟩)).depth=A.depth+1:=by
 first|rfl|simp [Around.under,Code.weight,Code.isCreation,Code.isGuard,Code.isCaller,Code.frames,Code.isFrame,guardIds]
theorem qg9{A:Around}{C:Addr}{us:List Value}{kw:List (Str×Value)}: (A.under (.builtin "type.__call__" ⟨.ref C :: us,kw⟩)).units=A.units+1:=by
 first|rfl|simp [Around.under,Code.cUnits,Code.frames,Code.isFrame]
theorem Room.make{k:Nat}{A:Around}(r:Room (k+1) A)(C:Addr)(us:List Value)(kw:List (Str×Value)): Room k (A.under (.builtin "type.__call__" ⟨.ref C :: us,kw⟩)):=
 ⟨r.hd,by have:=r.dp;rw [qg8];omega,by have:=r.un;rw [qg9];omega⟩
theorem Room.depth{k:Nat}{A:Around}(r:Room k A): A.depth<recursionLimit:=by have:=r.dp;omega
theorem Room.units{k:Nat}{A:Around}(r:Room k A): A.units+64<cLine:=by have:=r.un;omega
def tNil:TA:=fun _ H Q=>Q [] H
def qsb(ta:TE)(tr:TA): TA:=fun σ H Q=>ta σ H fun x H1=>tr σ H1 fun xs H2=>Q (x :: xs) H2
section
variable{X:Cx}{e:Expr}{es:List Expr}{te:TE}{t:TA}{pos:Pos}
theorem yj:PA X [] tNil:=fun _ _ _ _ H Q I h=>Calls.spliced_nil ⟨[],H,I,.nil,h⟩
theorem zr(ha:PE X e te)(hr:PA X es t)(hs:starEach (e :: es) X.env=(false,eval e X.env) :: starEach es X.env:=by rfl): PA X (e :: es) (qsb te t):=by
 intro pos pins s σ H Q I h;rw [hs];show wpAny _ _ (spliced ((false,eval e X.env) :: backTo pos (starEach es X.env))) _ _ s;refine Calls.spliced_cons (thn (ha pins s σ H _ I h) fun u s1 ⟨x,H1,I1,r1,q1⟩=>?_);exact thn (hr pos pins s1 σ H1 _ I1 q1) fun us s2 ⟨xs,H2,I2,r2,q2⟩=>⟨x :: xs,H2,I2,.cons r1 r2,q2⟩
def qtk(t:TA): TE:=fun σ H Q=>t σ H fun xs H1=>xs.length<=sizeLine/\∀p,H1 p=none->Q (.ref p) (upd H1 p (.tup xs))
def qtl(t:TA): TE:=fun σ H Q=>t σ H fun xs H1=>xs.length<=sizeLine/\∀p,H1 p=none->Q (.ref p) (upd H1 p (.lst xs))
theorem qii{x1}(h:PA X es t): PE X (.Tuple es x1 pos) (qtk t):=by
 intro pins s σ H Q I hq;refine wpAny_Tuple_spliced (thn (h pos pins s σ H _ I hq) fun us s1 ⟨xs,H1,I1,r,z,q⟩=>⟨by rw [<- r.length];exact z,?_⟩);have hf:H1 s1.heap.objs.size=none:=I1.hok.fresh (gq _);refine⟨.ref s1.heap.objs.size,upd H1 s1.heap.objs.size (.tup xs),I1.laid (t':=s1.toks) (fun b u e=>g9 _ e) (gq _) ?_,rfl,q _ hf⟩;exact⟨z,us,r,⟨_,gp _ rfl,rfl,rfl,_,rfl⟩⟩
theorem qpy(h:PA X es t): PE X (.List es pos) (qtl t):=by
 intro pins s σ H Q I hq;refine wpAny_List_spliced (thn (h pos pins s σ H _ I hq) fun us s1 ⟨xs,H1,I1,r,z,q⟩=>⟨by rw [<- r.length];exact z,?_⟩);have hf:H1 s1.heap.objs.size=none:=I1.hok.fresh (gq _);refine⟨.ref s1.heap.objs.size,upd H1 s1.heap.objs.size (.lst xs),I1.laid (t':=s1.toks) (fun b u e=>g9 _ e) (gq _) ?_,rfl,q _ hf⟩;exact⟨z,us,0,r,gp _ rfl⟩
end
abbrev Sp:=List V->Hp->VK->XK->Prop
abbrev CXT:=List Env->Hp->Shared->XK->Value->Shared->Prop
structure Env0(P:Program)(w:World)(K:PySem.W.Frag)(mg:Str->Option Value)(base:Heap)(A:Around)(outer:List Env)(s:Shared)(H:Hp): Prop where
 frames:A.frames=some outer
 mod:Mod K mg base
 bs:∀b o,base.get? b=some o->s.heap.get? b=some o/\H b=none
 bsz:base.objs.size<=s.heap.objs.size
 funs:s.heap.FunFrames base outer
 frf:∀b∈frs outer,H b=none
 hok:HOk P w H s.heap
 bare:AllBare s.gens
def CE(outer:List Env)(P:Program)(w:World)(H:Hp)(s:Shared)(Q:VK)(u:Value)(s':Shared): Prop:=
 ∃v H',s'.os=s.os/\AllBare s'.gens/\Un (frs outer) [] H H' s.heap s'.heap/\HOk P w H' s'.heap/\RelV v u/\Q v H'
def CR(CX:CXT)(outer:List Env)(P:Program)(w:World)(H:Hp)(s:Shared)(Q:VK)(E:XK)(r:Result)(s':Shared): Prop:=
 match r with
 | .ok (.ret u)=>CE outer P w H s Q u s'
 | .ok _=>False
 | .error e=>CX outer H s E e s'
structure FnOk(P:Program)(w:World)(K:PySem.W.Frag)(mg:Str->Option Value)(base:Heap)(CX:CXT)(k:Nat)(f:Addr)(fd:FuncData)(ps:List Str)(sp:Sp): Prop where
 len:∀vs H Q E,sp vs H Q E->vs.length=ps.length
 run:∀(A:Around) (outer:List Env) (s:Shared) (H:Hp) (args:Args) (us:List Value) (vs:List V) (Q:VK) (E:XK),Room k A->Env0 P w K mg base A outer s H->BindsTo s fd args (ps.zip us)->Vals vs us->sp vs H Q E ->
  codeAny (model P w) A (.call (.ref f) args) (CR CX outer P w H s Q E) s
theorem FnOk.imp{P:Program}{w:World}{K:PySem.W.Frag}{mg:Str->Option Value}{base:Heap}{CX:CXT}{k:Nat}{f:Addr}{fd:FuncData}{ps:List Str}{sp sp':Sp}(F:FnOk P w K mg base CX k f fd ps sp)
  (h:∀vs H Q E,sp' vs H Q E->sp vs H Q E):FnOk P w K mg base CX k f fd ps sp':=
 ⟨fun vs H Q E q=>F.len vs H Q E (h _ _ _ _ q),fun A outer s H args us vs Q E hr he hb hv hs=>F.run A outer s H args us vs Q E hr he hb hv (h _ _ _ _ hs)⟩
theorem Env0.make{P:Program}{w:World}{K:PySem.W.Frag}{mg:Str->Option Value}{base:Heap}{A:Around}{outer:List Env}{s:Shared}{H:Hp}(e:Env0 P w K mg base A outer s H)(C:Addr)(us:List Value)(kw:List (Str×Value)):
  Env0 P w K mg base (A.under (.builtin "type.__call__" ⟨.ref C :: us,kw⟩)) outer s H:=⟨by first|exact e.frames|(simpa [Around.under,Code.envs,Code.isFrame,pushEnvs] using e.frames),e.mod,e.bs,e.bsz,e.funs,e.frf,e.hok,e.bare⟩
section
variable{X:Cx}{pins:List (Addr×Obj)}{σ : St}{H:Hp}{s s':Shared}
theorem Inv.env0(I:Inv X pins σ H s): Env0 X.prog X.w X.K X.mg X.base X.A X.stack s H:=
 ⟨I.ok.frames,I.ok.mod,I.bs,mh I.ok.bsz I.sz,I.stack,I.stkFree,I.hok,I.bare⟩
theorem Inv.after{Q:VK}{u:Value}(I:Inv X pins σ H s)(h:CE X.stack X.prog X.w H s Q u s'): EP X pins σ Q u s':=by
 obtain⟨v,H',os,bare,un,hok,r,q⟩:=h;obtain⟨hh,g,d,t,os'⟩:=s';obtain rfl:os'=s.os:=os;exact⟨v,H',I.call (h':=hh) (g':=g) (d':=d) (t':=t) (ch:=[]) un hok bare (fun b z=>absurd z (by simp)),r,q⟩
end
def qsc(sp:Sp)(dvs:List V)(E:XK)(t:TA): TE:=fun σ H Q=>t σ H fun vs H1=>sp (vs++dvs) H1 Q E
def qsd(C:Addr)(m:Str)(sp:Sp)(dvs:List V)(E:XK)(ta:TE)(t:TA): TE:=fun σ H Q=>ta σ H fun x H1=>∃a dx fs,x=.ref a/\H1 a=some (.ins C dx fs)/\fs.lookup m=none /\
 t σ H1 fun vs H2=>sp (x :: (vs++dvs)) H2 Q E
def Binds(K:PySem.W.Frag)(fd:FuncData)(ps:List Str)(ds:List Value): Prop:=
 ∀(s:Shared) (us:List Value),K.In s.heap->(us++ds).length=ps.length->BindsTo s fd ⟨us,[]⟩ (ps.zip (us++ds))
def q5d(CX:CXT)(X:Cx)(E:XK): Prop:=∀(pins:List (Addr×Obj)) (σ : St) (H:Hp) (s:Shared) (e:Value) (s':Shared),Inv X pins σ H s->CX X.stack H s E e s'->X.xe e s'
section
variable{X:Cx}{CX:CXT}{k:Nat}{f C:Addr}{fd:FuncData}{ps:List Str}{sp:Sp}{dvs:List V}{ds:List Value}{E:XK}{x m:Str}{p pos apos:Pos}{e o:Expr}{es:List Expr}{ta:TE}{t:TA}
theorem qij{pins:List (Addr×Obj)}{σ : St}{H:Hp}{s:Shared}{Q:VK}{us:List Value}{vs:List V}(F:FnOk X.prog X.w X.K X.mg X.base CX k f fd ps sp)(hr:Room k X.A)(hb:Binds X.K fd ps ds)(hd:Vals dvs ds)(hx:q5d CX X E)
  (I:Inv X pins σ H s) (r:Vals vs us) (h:sp (vs++dvs) H Q E):wpAny (model X.prog X.w) X.A (call (.ref f) us) (EP X pins σ Q) X.xe s:=by
 have r2:Vals (vs++dvs) (us++ds):=r.append hd;have hl:(us++ds).length=ps.length:=by rw [<- r2.length];exact F.len _ _ _ _ h
 refine g06 (g0n (F.run X.A X.stack s H ⟨us,[]⟩ (us++ds) (vs++dvs) Q E hr I.env0 (hb s us I.kIn hl) r2 h) fun r s' hq=>?_);cases r with
 | error e=>exact hx pins σ H s e s' I hq
 | ok fl=>
  cases fl with
  | ret u=>exact I.after hq
  | next=>exact False.elim hq
  | brk=>exact False.elim hq
  | cont=>exact False.elim hq
theorem qf5(F:FnOk X.prog X.w X.K X.mg X.base CX k f fd ps sp)(hr:Room k X.A)(hg:Gl X x)(hm:X.mg x=some (.ref f))(hk:PySem.W.keepIn X.K (.ref f)=true)(hb:Binds X.K fd ps ds)(hd:Vals dvs ds)(hx:q5d CX X E)
  (ha:PA X (e :: es) t) (hdb:(x==("__debug__" : Str))=false:=by decide) (he:starEach (e :: es) X.env=(false,eval e X.env) :: starEach es X.env:=by rfl) (hpl:(backTo pos (starEach es X.env)).any (·.1)=false:=by rfl) :
  PE X (.Call (.Name x p) (e :: es) [] pos) (qsc sp dvs E t):=by
 intro pins s σ H Q I h;refine ue (kb I hg hm ?_ hdb);refine g0u (h₀:=X.base) I.ok.mod.kin hk (thn (ha pos pins s σ H _ I h) fun us s1 ⟨vs,H1,I1,r,q⟩=>⟨I1.kIn,?_⟩) he hpl;exact qij F hr hb hd hx I1 r q
theorem qnn{pl:Sem Bool}(he:PE X o ta)(c:Cls X.K C)(hm:Meth X.K C m f)(F:FnOk X.prog X.w X.K X.mg X.base CX k f fd ps sp)(hr:Room k X.A)(hb:Binds X.K fd ps ds)(hd:Vals dvs ds)(hx:q5d CX X E)(ha:PA X (e :: es) t)
  (hst:starEach (e :: es) X.env=(false,eval e X.env) :: starEach es X.env:=by rfl) (hpl:(backTo pos (starEach es X.env)).any (·.1)=false:=by rfl)
  (ht:eval (.Call (.Attribute o m apos) (e :: es) [] pos) X.env=(do
   let ov <- eval o X.env
   standAt apos.atName
   let(f,first) <- holding [ov] (getMethod ov m pl)
   callWith pos f first (backTo pos (starEach (e :: es) X.env)) (backToKw pos (keywordEach [] X.env))):=by rfl) :
  PE X (.Call (.Attribute o m apos) (e :: es) [] pos) (qsd C m sp dvs E ta t):=by
 intro pins s σ H Q I h;refine g4z (pl:=pl) (thn (he pins s σ H _ I h) fun u s1 ⟨x,H1,I1,rx,a,dx,fs,ex,ea,l,q⟩=>?_) ht;subst ex;obtain rfl:u=Value.ref a:=rx;refine qg7 I1 ea c hm l ?_;refine g0u (first:=[.ref a]) (h₀:=X.base) I.ok.mod.kin hm.kp (thn (ha pos pins s1 σ H1 _ I1 q) fun us s2 ⟨vs,H2,I2,r,q2⟩=>⟨I2.kIn,?_⟩) hst hpl;exact qij (us:=.ref a :: us) (vs:=.ref a :: vs) F hr hb hd hx I2 (.cons rfl r) q2
end
section
variable{X:Cx}{CX:CXT}{k:Nat}{f C:Addr}{fd:FuncData}{ps ks:List Str}{sp:Sp}{E:XK}{x m:Str}{p pos apos kpos:Pos}{e o:Expr}{es:List Expr}{kws:List Keyword}{te ta:TE}{t tk:TA}{nm:Option Str}
variable{g:List Value->List Value->List Value}{gV:List V->List V->List V}
end
structure FnScope(N P:List Str)(sc:Scope): Prop where
 kind:sc.kind=.function
 co:sc.isCoroutine=false
 gen:sc.isGenerator=false
 nd:N.Nodup
 pre:N.take P.length=P
 par:∀x∈P,sc.names.lookup x=some .local\/sc.names.lookup x=some .cell
 nofree:∀y∈sc.names,y.2 ≠ .free
theorem qa7{kindOf:Str->Option NameKind}{x:Str}: ∀ {binds:List (Str×Value)} {m:Str->Option Value},(∀v,(x,v)∉binds)->bindL kindOf binds m x=m x
 | [],_,_=>rfl
 | (n,v) :: r,m,h=>by
  unfold bindL;rw [qa7 fun w hw=>h w (gy _ hw)]
  split
  ·have:x≠n:=by rintro rfl;exact h v gv
   simp [this]
  ·rfl
theorem qa8{kindOf:Str->Option NameKind}{x:Str}: ∀ {binds:List (Str×Value)} {m:Str->Option Value},(∀v,(x,v)∉binds)->bindC kindOf binds m x=m x
 | [],_,_=>rfl
 | (n,v) :: r,m,h=>by
  unfold bindC;rw [qa8 fun w hw=>h w (gy _ hw)]
  split
  ·rfl
  ·have:x≠n:=by rintro rfl;exact h v gv
   simp [this]
theorem qa9{kindOf:Str->Option NameKind}{x:Str}{v:Value}: ∀ {P:List Str} {vs:List Value} {i:Nat} {m:Str->Option Value},P.Nodup->P[i]? = some x->vs[i]? = some v->kindOf x=some .local ->
  bindL kindOf (P.zip vs) m x=some v
 | [],_,_,_,_,h,_,_=>by simp at h
 | _ :: _,[],_,_,_,_,h,_=>by simp at h
 | p :: P,w :: vs,0,m,nd,h1,h2,hk=>by
  simp at h1 h2;subst h1;subst h2;show bindL kindOf ((p,w) :: P.zip vs) m p=_;unfold bindL;rw [qa7 fun v hv=>(g0d.mp nd).1 (g4k hv).1,gx hk];simp
 | p :: P,w :: vs,i+1,m,nd,h1,h2,hk=>by
  show bindL kindOf ((p,w) :: P.zip vs) m x=_;unfold bindL;exact qa9 (i:=i) (g0d.mp nd).2 (by simpa using h1) (by simpa using h2) hk
theorem qaa{kindOf:Str->Option NameKind}{x:Str}{v:Value}: ∀ {P:List Str} {vs:List Value} {i:Nat} {m:Str->Option Value},P.Nodup->P[i]? = some x->vs[i]? = some v->kindOf x≠some .local ->
  bindC kindOf (P.zip vs) m x=some v
 | [],_,_,_,_,h,_,_=>by simp at h
 | _ :: _,[],_,_,_,_,h,_=>by simp at h
 | p :: P,w :: vs,0,m,nd,h1,h2,hk=>by
  simp at h1 h2;subst h1;subst h2;show bindC kindOf ((p,w) :: P.zip vs) m p=_;unfold bindC;rw [qa8 fun v hv=>(g0d.mp nd).1 (g4k hv).1,m8 hk];simp
 | p :: P,w :: vs,i+1,m,nd,h1,h2,hk=>by
  show bindC kindOf ((p,w) :: P.zip vs) m x=_;unfold bindC;exact qaa (i:=i) (g0d.mp nd).2 (by simpa using h1) (by simpa using h2) hk
def start(N:List Str)(vs:List V): St:=vs.map some++List.replicate (N.length-vs.length) none
def z5(CX:CXT)(P:Program)(w:World)(K:PySem.W.Frag)(mg:Str->Option Value)(base:Heap)(N:List Str)(qual:Str)(scope:Scope)(f:Addr)(cd:Value)(A:Around)(outer:List Env)(s:Shared)(H:Hp)(E:XK): Cx where
 prog:=P
 w:=w
 K:=K
 mg:=mg
 base:=base
 A:=A.deeper (envOfC qual scope s.heap.objs.size f cd)
 N:=N
 s₀:=s
 H₀:=H
 env:=envOfC qual scope s.heap.objs.size f cd
 outer:=outer
 stack:=envOfC qual scope s.heap.objs.size f cd :: outer
 ex:=[]
 calm:=true
 fn:=fun _=>true
 pn:=[]
 xe:=fun e s'=>wpAny (model P w) (A.deeper (envOfC qual scope s.heap.objs.size f cd)) (leaving (envOfC qual scope s.heap.objs.size f cd) e) (fun _ s''=>CX outer H s E e s'') (fun e' s''=>CX outer H s E e' s'') s'
theorem qbt{sc:Scope}{n:Nat}{x:Str}(h:sc.names.lookup x=some .cell): ∃c,(cellsFrom n sc.names []).lookup x=some c:=by
 have q:=g4t sc.names n [] (.inl h);exact t9.mp q
theorem qik{CX:CXT}{P:Program}{w:World}{K:PySem.W.Frag}{mg:Str->Option Value}{base:Heap}{N ps:List Str}{qual:Str}{scope:Scope}{f:Addr}{cd:Value}{A:Around}{outer:List Env}{s s1:Shared}{H:Hp}{E:XK}{us:List Value}{vs:List V}
  (S:FnScope N ps scope) (hd:A.handled=none) (e0:Env0 P w K mg base A outer s H) (hl:vs.length=ps.length) (r:Vals vs us)
  (x:InCallC s s.heap.objs.size (bindL (envOfC qual scope s.heap.objs.size f cd).kindOf (ps.zip us) fun _=>none) (cellsFrom (s.heap.objs.size+1) scope.names []) (bindC (envOfC qual scope s.heap.objs.size f cd).kindOf (ps.zip us) fun _=>none) s1) :
  Inv (z5 CX P w K mg base N qual scope f cd A outer s H E) [] (start N vs) H s1:=by
 have hpl:ps.length<=N.length:=by have:=t4 List.length S.pre;rw [ni] at this;omega
 obtain⟨h1,tk,rfl,hk⟩:=x.done;have noA:∀b:Addr,b∉(z5 CX P w K mg base N qual scope f cd A outer s H E).ex:=fun b z=>absurd (show b∈([]:List Addr) from z) (by simp);refine⟨⟨e0.mod,S.kind,rfl,rfl,gq _,fun y z c h1 h2=>?_,fun y hy=>?_,fun y c _ h=>?_,fun _=>hd,Around.frames_deeper e0.frames,.inr ⟨rfl,rfl⟩,fun b z=>absurd z (noA b),e0.bs,e0.bsz,fun b _ _=>noA b,fun b z=>absurd z (noA b),e0.funs,e0.frf⟩,
  rfl,e0.bare,Un.kept hk,⟨_,x.toInCall.ns,fun i y v h1 h2 h3=>?_⟩,fun y c h=>⟨_,x.cell y c h⟩,e0.hok.fresh (gq _),fun y c h=>?_,fun p hp=>absurd (show p∈([]:List (Addr×Obj)) from hp) (by simp),e0.hok.kept hk,?_⟩
 ·exact name_of_addr x.apart (g0r h1) (g0r h2)
 ·have hy:scope.names.lookup y=some .cell\/scope.names.lookup y=some .free:=hy
  rcases hy with hy|hy
  ·exact qbt hy
  ·exact absurd rfl (S.nofree _ (g0r hy))
 ·exact g17 (x.above y c (g0r h))
 ·have hi:i<vs.length:=by
   unfold start at h2
   by_cases hi:i<vs.length
   ·exact hi
   ·rw [p8 (by simpa using hi)] at h2
    rw [pw] at h2
    split at h2 <;> cases h2
  have ha:vs[i]? = some v:=by
   unfold start at h2;rw [nt (by simpa using hi),gz] at h2;cases e:vs[i]? with
   | none=>rw [e] at h2;cases h2
   | some a=>rw [e] at h2;cases h2;rfl
  obtain⟨u,hu,rv⟩:=r.get ha;have hp:ps[i]? = some y:=by
   rw [<- S.pre,g0o (by omega)];exact h1
  have ndP:ps.Nodup:=by rw [<- S.pre];exact S.nd.sublist (List.take_sublist _ _)
  refine⟨u,rv,?_⟩;rcases S.par y (ug hp) with k|k
  ·exact .inl ⟨k,qa9 ndP hp hu k⟩
  ·obtain⟨c,e⟩:=qbt (n:=s.heap.objs.size+1) k
   refine .inr ⟨.inl k,c,e,?_⟩;have q:=x.cell y c e;rw [qaa ndP hp hu (by show scope.names.lookup y≠_;rw [k];decide)] at q;exact q
 ·exact e0.hok.fresh (g17 (x.above y c (g0r h)))
 ·unfold start
  show _=N.length;rw [mn,gr,g2l];omega
theorem qga{CX:CXT}{P:Program}{w:World}{K:PySem.W.Frag}{mg:Str->Option Value}{base:Heap}{k:Nat}{f:Addr}{name qual:Str}{params:Arguments}{body:List Stmt}{scope:Scope}{dV kV doc pm cdv ct oc:Value}{an od:Option Addr}
  {osl:Array (Option Value)} {N ps:List Str} {sp:Sp} (lk:K.lookup f=some ⟨oc,od,.func (PySem.W.fnOf name qual params body scope dV kV doc pm an cdv ct),osl⟩) (hcd:PySem.W.codeIn K cdv qual=true) (S:FnScope N ps scope)
  (len:∀vs H Q E,sp vs H Q E->vs.length=ps.length)
  (hbody:∀(A:Around) (outer:List Env) (s:Shared) (H:Hp) (vs:List V) (Q:VK) (E:XK),Room k (A.deeper (envOfC qual scope s.heap.objs.size f cdv))->sp vs H Q E ->
   ∃t,PSs (z5 CX P w K mg base N qual scope f cdv A outer s H E) body t/\t {nx:=fun _ H'=>Q .non H',rt:=Q} (start N vs) H) :
  FnOk P w K mg base CX (k+1) f (PySem.W.fnOf name qual params body scope dV kV doc pm an cdv ct) ps sp:=by
 refine⟨len,fun A outer s H args us vs Q E hr e0 hb r hsp=>?_⟩;have hl:=len _ _ _ _ hsp;have KX:K.In s.heap:=e0.mod.kin.keeps fun b o e=>(e0.bs b o e).1;have lim:s.heap.NoLimit:=e0.mod.nolimit.keeps fun b o e=>(e0.bs b o e).1;have hkind:∀y∈ps.zip us,scope.names.lookup y.1=some .local\/(scope.names.lookup y.1=some .cell/\((cellsFrom (s.heap.objs.size+1) scope.names []).lookup y.1).isSome=true):=fun⟨n,v⟩ hy=>by
  rcases S.par n (g4k hy).1 with q|q
  ·exact .inl q
  ·exact .inr ⟨q,g4t _ _ _ (.inl q)⟩
 refine codeAny_call_function hr.depth (KX _ _ lk) rfl S.co S.gen rfl (PySem.W.codeRec_of KX hcd) (hb _ _ _ _ ?_);refine wpAny_newFunctionEnv_cells S.kind hkind fun env he s1 x=>?_;subst he;refine⟨lim.keeps x.toInCall.keep,codeAny_func ?_⟩;obtain⟨t,ht,hq⟩:=hbody A outer s H vs Q E (hr.deeper _) hsp;have I:Inv (z5 CX P w K mg base N qual scope f cdv A outer s H E) [] (start N vs) H s1:=qik S hr.hd e0 hl r x;refine n5 (ht [] s1 (start N vs) H _ I hq) (fun fl s' hs=>?_) fun e s' hs=>hs;have fin:∀ {σ':St} {H':Hp} {v:V} {u:Value},Inv (z5 CX P w K mg base N qual scope f cdv A outer s H E) [] σ' H' s'->RelV v u->Q v H'->CE outer P w H s Q u s':=
  fun {σ' H' v u} J rv q=>⟨v,H',J.os,J.bare,J.base,J.hok,rv,q⟩
 cases fl with
 | ret u=>
  obtain⟨v, σ',H',J,rv,q⟩:=hs;exact fin J rv q
 | next=>
  obtain⟨σ',H',J,q⟩:=hs;exact fin (v:=V.non) (u:=Value.none) J rfl q
 | brk=>
  obtain⟨_,_,_,q⟩:=hs;exact False.elim q
 | cont=>
  obtain⟨_,_,_,q⟩:=hs;exact False.elim q
section
variable{X:Cx}{x:Str}{p pos:Pos}{e:Expr}{es:List Expr}{t:TA}{id T:String}{r:List V->Hp->VK->Prop}
def tCB(r:List V->Hp->VK->Prop)(t:TA): TE:=fun σ H Q=>t σ H fun vs H1=>r vs H1 Q
theorem q0z(hc:xv X (.builtin id) r)(hg:Gl X x)(hm:X.mg x=none)(hv:bootBuiltins x=some (.builtin id))(ha:PA X (e :: es) t)(hn:x≠"__name__" :=by decide)(hdb:(x==("__debug__" : Str))=false:=by decide)
  (he:starEach (e :: es) X.env=(false,eval e X.env) :: starEach es X.env:=by rfl) (hpl:(backTo pos (starEach es X.env)).any (·.1)=false:=by rfl):PE X (.Call (.Name x p) (e :: es) [] pos) (tCB r t):=by
 intro pins s σ H Q I h;refine ue (q5b I hg hm hv ?_ hn hdb);exact g2q (thn (ha pos pins s σ H _ I h) fun us s1 ⟨vs,H1,I1,r1,q1⟩=>hc pins s1 σ H1 vs us Q I1 r1 q1) he hpl
theorem q5e(hc:xv X (.type T) r)(hg:Gl X x)(hm:X.mg x=none)(hv:bootBuiltins x=some (.type T))(ha:PA X (e :: es) t)(hn:x≠"__name__" :=by decide)(hdb:(x==("__debug__" : Str))=false:=by decide)
  (he:starEach (e :: es) X.env=(false,eval e X.env) :: starEach es X.env:=by rfl) (hpl:(backTo pos (starEach es X.env)).any (·.1)=false:=by rfl):PE X (.Call (.Name x p) (e :: es) [] pos) (tCB r t):=by
 intro pins s σ H Q I h;refine ue (q5b I hg hm hv ?_ hn hdb);exact g1f (thn (ha pos pins s σ H _ I h) fun us s1 ⟨vs,H1,I1,r1,q1⟩=>hc pins s1 σ H1 vs us Q I1 r1 q1) he hpl
end
end L2
namespace HT
open PySem PyProof.Rows
section
open PySem.SeqAt
open PySem.AutoSeq1 (wpAny_loadPart')
open PySem.MeetsSeq PySem.MeetsSeq2 PySem.MeetsSeq3
end
section
variable{prog:Program}{w:World}{A:Around}{E:Value->Shared->Prop}{s:Shared}
theorem cat_tup{t b:Addr}{vs ws:List Value}{Q:Value->Shared->Prop}(ht:IsTup s.heap t vs.toArray)(hb:IsTup s.heap b ws.toArray)(hv:vs≠[])
  (h1:ws=[]->Q (.ref t) s) (h2:ws≠[]->Q (.ref s.heap.objs.size) {s with heap:=s.heap.push {cls:=.type "tuple",data:=.seq (vs++ws).toArray} })
  (hsz:vs.length+ws.length<=sizeLine):wpAny (model prog w) A (binaryOp .Add (.ref t) (.ref b)) Q E s:=by
 obtain⟨⟨cls,dd,data,sl⟩,ho,hc,n,hd⟩:=id ht;obtain⟨⟨cls2,dd2,data2,sl2⟩,ho2,hc2,n2,hd2⟩:=id hb;simp only at hc hd hc2 hd2;subst hc hd hc2 hd2;have e:vs.toArray++ws.toArray=(vs++ws).toArray:=by simp
 by_cases hw:ws=[]
 ·exact g41 ⟨_,ho,rfl⟩ ⟨_,ho2,rfl⟩ g42 seq_tuple_add g2e g27 (g1v _ _)
   (tuple_addW1 t b vs.toArray ws.toArray n n2 dd dd2 sl sl2 (by simpa using hv) (by simp [hw])) ⟨ho,ho2,h1 hw⟩
 ·refine g41 ⟨_,ho,rfl⟩ ⟨_,ho2,rfl⟩ g42 seq_tuple_add g2e g27 (g1v _ _)
   (tuple_addW2 t b vs.toArray ws.toArray n n2 dd dd2 sl sl2 (by simpa using hv) (by simpa using hw) (by rw [gd,gd];exact hsz)) ⟨ho,ho2,?_⟩
  rw [e];exact h2 hw
def sIx(n d:Nat): Option Int->Nat
 | none=>d
 | some v=>if v<0 then(v+(n:Int)).toNat else min v.toNat n
theorem sIx_none(n d:Nat): sIx n d none=d:=rfl
theorem sIx_nat(n d k:Nat): sIx n d (some (k:Int))=min k n:=by
 show(if(k:Int)<0 then((k:Int)+(n:Int)).toNat else min (k:Int).toNat n)=min k n;rw [m8 (by omega),t7]
theorem qpz(n d:Nat)(hd:d<=n)(o:Option Int): sIx n d o<=n:=by
 cases o with
 | none=>exact hd
 | some v=>
  show(if v<0 then(v+(n:Int)).toNat else min v.toNat n)<=n
  by_cases hv:v<0
  ·rw [gx hv];omega
  ·rw [m8 hv];exact Nat.min_le_right _ _
theorem qf6(v:Int)(n d:Nat): (if v<0 then max (v+(n:Int)) 0 else min v (n:Int))=((sIx n d (some v):Nat):Int):=by
 show(if v<0 then max (v+(n:Int)) 0 else min v (n:Int))=(((if v<0 then(v+(n:Int)).toNat else min v.toNat n):Nat):Int)
 by_cases hv:v<0
 ·simp only [gx hv];omega
 ·simp only [m8 hv];omega
theorem qgb(lo hi:Option Int)(n:Nat): Builtin.Slice.sliceAdjust lo hi 1 (n:Int)=(((sIx n 0 lo:Nat):Int),((sIx n n hi:Nat):Int)):=by
 have h1:¬((1:Int)<0):=by omega
 unfold Builtin.Slice.sliceAdjust;simp only [h1,p7];refine Prod.ext ?_ ?_
 ·cases lo with
  | none=>rfl
  | some v=>exact qf6 v n 0
 ·cases hi with
  | none=>rfl
  | some v=>exact qf6 v n n
theorem qgc(i j:Nat): Builtin.Slice.slicePlaces (i:Int) (j:Int) 1=j-i:=by
 unfold Builtin.Slice.slicePlaces;have h1:(1:Int)>0:=by omega
 simp only [h1,pz,Int.ediv_one]
 split <;> omega
theorem q86{v:Value}{o:Option Int}{Q:Option Int->Shared->Prop}(p:IsPart v o)(h:Q o s): wpAny (model prog w) A (Builtin.Slice.slicePartIndex v) Q E s:=by
 cases p with
 | none=>exact slicePart_none h
 | int i t=>exact slicePart_int h
theorem sliceApplied_gen{sl:Addr}{vl vu:Value}{lo hi:Option Int}{n:Nat}{Q:Int×Int×Nat->Shared->Prop}(hs:s.heap.IsSliceOf sl vl vu .none)(pl:IsPart vl lo)(pu:IsPart vu hi)
  (h:Q (((sIx n 0 lo:Nat):Int),1,sIx n n hi-sIx n 0 lo) s):wpAny (model prog w) A (Builtin.Slice.sliceApplied (.ref sl) (pure (n:Int))) Q E s:=by
 obtain⟨os,hos,hcs,hds⟩:=id hs;unfold Builtin.Slice.sliceApplied Builtin.Slice.sliceFields;refine g0 (g0 (g1n hos hds (x:=vl) rfl (g0 (g1n hos hds (x:=vu) rfl (g0 (g1n hos hds (x:=.none) rfl (g7 ?_)))))));refine g0 (slicePart_none ?_);show wpAny _ _ (if((1:Int)==0)=true then _ else _) _ _ s;rw [m8 (by decide)];refine g0 (q86 pl (g0 (q86 pu (g0 (g7 ?_)))));show wpAny _ _ (match Builtin.Slice.sliceAdjust lo hi 1 (n:Int) with|(lo,hi)=>pure (lo,(1:Int),Builtin.Slice.slicePlaces lo hi 1)) _ _ s;rw [qgb lo hi n];show wpAny _ _ (pure (((sIx n 0 lo:Nat):Int),(1:Int),Builtin.Slice.slicePlaces ((sIx n 0 lo:Nat):Int) ((sIx n n hi:Nat):Int) 1)) _ _ s;rw [qgc];exact g7 h
theorem qkm(xs:Array Value)(i k:Nat): ((List.range k).filterMap fun(m:Nat)=>xs[((i:Int)+(m:Int)*1).toNat]?).toArray=((xs.toList.drop i).take k).toArray:=by
 have e:(fun(m:Nat)=>xs[((i:Int)+(m:Int)*1).toNat]?)=fun m=>xs[i+m]? :=by
  funext m
  have:((i:Int)+(m:Int)*1).toNat=i+m:=by omega
  rw [this]
 rw [e];have:=pick_run xs i k;rw [g1w] at this;have e2:((fun x=>xs[x]?) ∘ fun x=>i+x)=fun m=>xs[i+m]? :=rfl;rw [e2] at this;rw [this]
theorem getItem_tuple_cut{t sl:Addr}{items:Array Value}{vl vu:Value}{lo hi:Option Int}{Q:Value->Shared->Prop}(ht:IsTup s.heap t items)(hs:s.heap.IsSliceOf sl vl vu .none)(pl:IsPart vl lo)(pu:IsPart vu hi)
  (hw:¬(sIx items.size 0 lo=0/\sIx items.size items.size hi=items.size))
  (h:Q (.ref s.heap.objs.size) {s with heap:=s.heap.push {cls:=.type "tuple",data:=.seq ((items.toList.drop (sIx items.size 0 lo)).take (sIx items.size items.size hi-sIx items.size 0 lo)).toArray} })
  (hsz:items.size<=sizeLine):wpAny (model prog w) A (getItem (.ref t) (.ref sl)) Q E s:=by
 have htake:sizeOk (.seq ((items.toList.drop (sIx items.size 0 lo)).take (sIx items.size items.size hi-sIx items.size 0 lo)).toArray):=by
  show((items.toList.drop (sIx items.size 0 lo)).take (sIx items.size items.size hi-sIx items.size 0 lo)).toArray.size<=sizeLine;rw [gd,ni,g1i,ux];omega
 have hj:sIx items.size items.size hi<=items.size:=qpz _ _ (gq _) hi;obtain⟨os,hos,hcs,hds⟩:=id hs;have hTs:s.TypeIs (.ref sl) "slice" :=⟨os,hos,hcs⟩
 unfold getItem
 try with_reducible refine mq ?_
 first|refine g0 (g7 ?_)|skip
 refine g0 (wpAny_sequenceKey ht.typeIs (by decide) ?_);refine g0 (tx (name:=Str.ofString "__getitem__") ht.typeIs p6
  (n6 p6 ht.typeIs entry_tuple_getitem ?_ (args_tuple_getitem _ _)))
 show wpAny _ _ (Builtin.Tuple.tupleItemsOf (.ref t) >>= _) _ _ s;refine g0 (tupleItemsOf_ ht ?_);refine g0 (td hTs ?_);rw [gx (by decide)];refine g0 (sliceApplied_gen hs pl pu ?_);have hno:¬((((sIx items.size 0 lo:Nat):Int)==0&&(1:Int)==1&&(sIx items.size items.size hi-sIx items.size 0 lo)==items.size)=true):=by
  intro q;rw [mf,mf] at q;have q1:((sIx items.size 0 lo:Nat):Int)=0:=eq_of_beq q.1.1;have q2:sIx items.size items.size hi-sIx items.size 0 lo=items.size:=eq_of_beq q.2;exact hw ⟨by omega,by omega⟩
 show wpAny _ _ (if(((sIx items.size 0 lo:Nat):Int)==0&&(1:Int)==1&&(sIx items.size items.size hi-sIx items.size 0 lo)==items.size)=true then _ else _) _ _ s;rw [m8 hno,qkm]
 first
  | exact g0 (m:=Builtin.Tuple.tupleExact _) (p5 (g7 ⟨_,rfl,g7 h⟩) htake)
  | exact g0 (m:=Builtin.Tuple.tupleExact _) (p5 (g0 (g7 (g7 ⟨_,rfl,g7 h⟩))) htake)
  | exact g0 (g0 (m:=Builtin.Tuple.tupleExact _) (p5 (g7 (g7 ⟨_,rfl,g7 h⟩)) htake))
  | exact g0 (g0 (m:=Builtin.Tuple.tupleExact _) (p5 (g7 ⟨_,rfl,g7 h⟩) htake))
end
end HT
namespace L2
open PySem PySem.Spec PyProof.Rows
abbrev TO:=St->Hp->(Option Int->Hp->Prop)->Prop
def PO(X:Cx)(e:Option Expr)(t:TO): Prop:=
 ∀(pins:List (Addr×Obj)) (s:Shared) (σ : St) (H:Hp) (Q:Option Int->Hp->Prop),Inv X pins σ H s->t σ H Q ->
  wpAny (model X.prog X.w) X.A (evalPart e X.env) (fun u s'=>∃o H',Inv X pins σ H' s'/\IsPart u o/\Q o H') X.xe s
def tNoPart:TO:=fun _ H Q=>Q none H
def qse(t:TE): TO:=fun σ H Q=>t σ H fun x H1=>∃i,x=.int i/\Q (some i) H1
theorem intsAre_of{ns:List Int}: ∀ {us:List Value},Vals (ns.map V.int) us->IntsAre us ns:=by
 induction ns with
 | nil=>intro us r;rw [u7] at r;cases r;exact .nil
 | cons n ns ih=>
  intro us r;rw [gh] at r;cases r with
  | cons r1 r2=>
   obtain⟨t,e⟩:=r1;subst e;exact .cons n t (ih r2)
section
variable{X:Cx}{e:Expr}{te:TE}{lo hi:Option Expr}{tl th:TO}{pos p2:Pos}
theorem qno:PO X none tNoPart:=by
 intro pins s σ H Q I h;rw [evalPart_none];exact g7 ⟨none,H,I,.none,h⟩
theorem qnp(h:PE X e te): PO X (some e) (qse te):=by
 intro pins s σ H Q I hw;rw [evalPart_some];refine thn (h pins s σ H _ I hw) fun u s1 ⟨x,H1,I1,r1,q1⟩=>?_;obtain⟨i,rfl,q⟩:=q1;obtain⟨t,rfl⟩:=r1;exact⟨some i,H1,I1,.int i t,q⟩
def SlR(X:Cx)(r:V->Option Int->Option Int->Hp->VK->Prop): Prop:=
 ∀(pins:List (Addr×Obj)) (s:Shared) (σ : St) (H:Hp) (x:V) (v vl vu:Value) (lo hi:Option Int) (sl:Addr) (Q:VK),Inv X pins σ H s->RelV x v->s.heap.IsSliceOf sl vl vu .none->IsPart vl lo->IsPart vu hi->r x lo hi H Q ->
  ∃T id,typeLookup (.type T) "__getitem__" = pure (some (.builtin id))/\s.TypeIs v T/\wpAny (model X.prog X.w) X.A (getItem v (.ref sl)) (EP X pins σ Q) X.xe s
theorem SlR.or{r r':V->Option Int->Option Int->Hp->VK->Prop}(h:SlR X r)(h':SlR X r'): SlR X (fun x lo hi H Q=>r x lo hi H Q\/r' x lo hi H Q):=by
 intro pins s σ H x v vl vu lo hi sl Q I rx hs pl pu q;rcases q with q|q
 ·exact h pins s σ H x v vl vu lo hi sl Q I rx hs pl pu q
 ·exact h' pins s σ H x v vl vu lo hi sl Q I rx hs pl pu q
def tSl(r:V->Option Int->Option Int->Hp->VK->Prop)(te:TE)(tl th:TO): TE:=fun σ H Q=>te σ H fun x H1=>tl σ H1 fun l H2=>th σ H2 fun u H3=>r x l u H3 Q
theorem qkn{r:V->Option Int->Option Int->Hp->VK->Prop}(hr:SlR X r)(he:PE X e te)(hl:PO X lo tl)(hu:PO X hi th): PE X (.Subscript e (.Slice lo hi none p2) pos) (tSl r te tl th):=by
 intro pins s σ H Q I h;refine Subscript_ (thn (he pins s σ H _ I h) fun v s1 ⟨x,H1,I1,r1,q1⟩=>?_);refine wpAny_Slice (thn (hl pins s1 σ H1 _ I1 q1) fun vl s2 ⟨l,H2,I2,pl,q2⟩=>thn (hu pins s2 σ H2 _ I2 q2) fun vu s3 ⟨u,H3,I3,pu,q3⟩=>?_);rw [evalPart_none];refine g7 ?_;have I4:Inv X pins σ H3 {s3 with heap:=s3.heap.push {cls:=.type "slice",data:=.fields #[vl,vu,.none]} }:=I3.kept (t':=s3.toks) fun b ob q=>g9 _ q;obtain⟨T,id,hT,ht,hg⟩:=hr pins {s3 with heap:=s3.heap.push {cls:=.type "slice",data:=.fields #[vl,vu,.none]} } σ H3 x v vl vu l u s3.heap.objs.size Q I4 r1 (Heap.IsSliceOf.new ..) pl pu q3;show wpAny (model X.prog X.w) X.A (subscriptTail e (.Slice lo hi none p2) v (.ref s3.heap.objs.size)) (EP X pins σ Q) X.xe {s3 with heap:=s3.heap.push {cls:=.type "slice",data:=.fields #[vl,vu,.none]} };exact tail_any (ops:=[.ref s3.heap.objs.size,v]) ht hT hg (by with_unfolding_all rfl)
def q1r(xs:List V)(lo hi:Option Int): List V:=(xs.drop (HT.sIx xs.length 0 lo)).take (HT.sIx xs.length xs.length hi-HT.sIx xs.length 0 lo)
theorem q72(xs:List V)(lo hi:Option Int): (q1r xs lo hi).length<=xs.length:=by
 unfold q1r;rw [ni,g1i];omega
def qtm(K:PySem.W.Frag): V->Option Int->Option Int->Hp->VK->Prop:=fun x lo hi H Q=>∃a xs,x=.ref a/\SqT K H a xs /\
 ¬(HT.sIx xs.length 0 lo=0/\HT.sIx xs.length xs.length hi=xs.length)/\∀p,H p=none->Q (.ref p) (upd H p (.tup (q1r xs lo hi)))
theorem sl_tup:SlR X (qtm X.K):=by
 intro pins s σ H x v vl vu lo hi sl Q I rx hs pl pu h;obtain⟨a,xs,rfl,hx,hw,q⟩:=h;cases rx;obtain⟨its,r,ht,hz⟩:=I.tuple hx;have hlen:its.toArray.size=xs.length:=by rw [gd];exact r.length.symm
 refine⟨"tuple",_,p6.lookup,ht.typeIs,?_⟩;refine HT.getItem_tuple_cut ht hs pl pu (by rw [hlen];exact hw) ?_ (by rw [hlen];exact hz);rw [hlen];refine⟨.ref s.heap.objs.size,_,I.laid (t':=s.toks) (o:=.tup (q1r xs lo hi)) (fun b ob q=>g9 _ q) (gq _) ?_,rfl,q _ (I.hok.fresh (gq _))⟩;exact⟨mh (q72 xs lo hi) hz,_,(r.drop (HT.sIx xs.length 0 lo)).take (HT.sIx xs.length xs.length hi-HT.sIx xs.length 0 lo),TupX.new _ _⟩
def qsf(K:PySem.W.Frag): R2:=fun x y H Q=>∃a b xs ys,x=.ref a/\y=.ref b/\SqT K H a xs/\SqT K H b ys/\xs≠[]/\xs.length+ys.length<=sizeLine /\
 (ys=[]->Q (.ref a) H)/\(ys≠[]->∀p,H p=none->Q (.ref p) (upd H p (.tup (xs++ys))))
theorem Vals.nil_iff{xs:List V}{us:List Value}(r:Vals xs us): us=[]↔xs=[]:=by
 cases r with
 | nil=>simp
 | cons _ _=>simp
theorem qnq:OpR X (binaryOp .Add) (qsf X.K):=by
 intro pins s σ H x y v u Q I rx ry h;obtain⟨a,b,xs,ys,rfl,rfl,ha,hb,hx,hz,q1,q2⟩:=h;cases rx;cases ry;obtain⟨its,r1,p1,_⟩:=I.tuple ha;obtain⟨its2,r2,p2,_⟩:=I.tuple hb;refine HT.cat_tup p1 p2 (fun z=>hx (r1.nil_iff.mp z)) (fun z=>⟨.ref a,H,I,rfl,q1 (r2.nil_iff.mp z)⟩) (fun z=>?_) (by rw [<- r1.length, <- r2.length];exact hz);refine⟨.ref s.heap.objs.size,_,I.laid (t':=s.toks) (o:=.tup (xs++ys)) (fun b ob q=>g9 _ q) (gq _) ?_,rfl,q2 (fun w=>z (r2.nil_iff.mpr w)) _ (I.hok.fresh (gq _))⟩;exact⟨by rw [mn];exact hz,_,r1.append r2,TupX.new _ _⟩
end
def ixN(n:Nat)(i:Int): Option Nat:=if 0<=i then(if i<n then some i.toNat else none) else if -(n:Int)<=i then some (i+n).toNat else none
def atI{α : Type}(xs:List α)(i:Int): Option α :=(ixN xs.length i).bind fun j=>xs[j]?
theorem qnr{n:Nat}{i:Int}{j:Nat}(h:ixN n i=some j): seqIndex? i n=some j/\j<n /\ -(n:Int)<=i/\i<n:=by
 unfold ixN at h
 by_cases h0:0<=i
 ·rw [gx h0] at h
  by_cases h1:i<n
  ·rw [gx h1] at h
   have e:i.toNat=j:=mi h;exact⟨by rw [seqIndex_of h0 h1,e],by omega,by omega,h1⟩
  ·rw [m8 h1] at h;cases h
 ·rw [m8 h0] at h
  by_cases h1 : -(n:Int)<=i
  ·rw [gx h1] at h
   have e:(i+n).toNat=j:=mi h;exact⟨by rw [seqIndex_neg (by omega) h1,e],by omega,h1,by omega⟩
  ·rw [m8 h1] at h;cases h
theorem q9c{α : Type}{xs:List α}{i:Int}{v : α}(h:atI xs i=some v): ∃j,seqIndex? i xs.length=some j/\xs[j]? = some v/\j<xs.length /\ -(xs.length:Int)<=i/\i<xs.length:=by
 unfold atI at h;cases e:ixN xs.length i with
 | none=>rw [e] at h;cases h
 | some j=>
  rw [e] at h;obtain⟨h1,h2,h3,h4⟩:=qnr e;exact⟨j,h1,h,h2,h3,h4⟩
def q9d(b:Expr): Prop:=∀o i,subscripted b false o i=operate [o,i] (getItem o i)
def IxR(X:Cx)(r:R2): Prop:=
 ∀(value slice:Expr) (pins:List (Addr×Obj)) (s:Shared) (σ : St) (H:Hp) (x y:V) (v u:Value) (Q:VK),Inv X pins σ H s->RelV x v->RelV y u->r x y H Q ->
  subscripted slice false v u=operate [v,u] (getItem v u)->wpAny (model X.prog X.w) X.A (subscriptTail value slice v u) (EP X pins σ Q) X.xe s
def MtR(X:Cx)(id:String)(r:V->List V->Hp->VK->Prop): Prop:=
 ∀(pins:List (Addr×Obj)) (s:Shared) (σ : St) (H:Hp) (x:V) (xs:List V) (v:Value) (us:List Value) (Q:VK),Inv X pins σ H s->RelV x v->Vals xs us->r x xs H Q ->
  wpAny (model X.prog X.w) X.A (call (.builtin id) (v :: us)) (EP X pins σ Q) X.xe s
section
variable{X:Cx}{a b:Expr}{ta tb:TE}{pos:Pos}
theorem IxR.or{r r':R2}(h:IxR X r)(h':IxR X r'): IxR X (fun x y H Q=>r x y H Q\/r' x y H Q):=by
 intro value slice pins s σ H x y v u Q I rx ry q hs;rcases q with q|q
 ·exact h value slice pins s σ H x y v u Q I rx ry q hs
 ·exact h' value slice pins s σ H x y v u Q I rx ry q hs
theorem qmz{r:R2}(hr:IxR X r)(ha:PE X a ta)(hb:PE X b tb)(hs:q9d b): PE X (.Subscript a b pos) (tOp r ta tb):=by
 intro pins s σ H Q I h;exact Subscript_ (qkg ha hb I h fun v u s2 x y H2 I2 rx ry q=>hr a b pins s2 σ H2 x y v u Q I2 rx ry q (hs _ _))
def qq0(K:PySem.W.Frag): R2:=fun x y H Q=>∃p xs i v,x=.ref p/\y=.int i/\SqL K H p xs/\atI xs i=some v/\Q v H
def qq1(K:PySem.W.Frag): R2:=fun x y H Q=>∃p xs i v,x=.ref p/\y=.int i/\SqT K H p xs/\atI xs i=some v/\Q v H
def rIxS:R2:=fun x y H Q=>∃z i c,x=.str z/\y=.int i/\z.length<=sizeLine/\atI z.cps.toList i=some c/\Q (.str ⟨#[c]⟩) H
theorem ix_list:IxR X (qq0 X.K):=by
 intro value slice pins s σ H x y v u Q I rx ry h hs;obtain⟨p,xs,i,z,rfl,rfl,hq,he,q⟩:=h;cases rx;obtain⟨t,rfl⟩:=ry;obtain⟨its,r,pl,hz⟩:=I.list hq;obtain⟨j,h1,h2,h3,h4,h5⟩:=q9c he;obtain⟨w,ew,rw'⟩:=r.get h2;have hl:=r.length;have hn:=q5c;have fin:EP X pins σ Q w s:=⟨z,H,I,rw',q⟩
 by_cases h0:0<=i
 ·have hj:i.toNat=j:=by
   rw [seqIndex_of h0 h5] at h1;exact mi h1
  exact item_listR pl.isList h0 (by omega) (by rw [hj];simpa using ew) fin hs
 ·have hj:(i+(its.toArray.size:Int)).toNat=j:=by
   rw [seqIndex_neg (by omega) h4] at h1;rw [gd, <- hl];exact mi h1
  exact subscriptTail_builtinR (x:=w) pl.isList.typeIs slot_list_getitem.lookup
   (wpAny_getItem_list_neg (Q:=fun r s'=>r=w/\EP X pins σ Q r s') pl.isList (by omega) (by rw [gd] <;> omega) (by omega) (by rw [hj];simpa using ew) ⟨rfl,fin⟩) hs
theorem ix_tup:IxR X (qq1 X.K):=by
 intro value slice pins s σ H x y v u Q I rx ry h hs;obtain⟨p,xs,i,z,rfl,rfl,hq,he,q⟩:=h;cases rx;obtain⟨t,rfl⟩:=ry;obtain⟨its,r,pl,hz⟩:=I.tuple hq;obtain⟨j,h1,h2,h3,h4,h5⟩:=q9c he;obtain⟨w,ew,rw'⟩:=r.get h2;have hl:=r.length;have hn:=q5c;have fin:EP X pins σ Q w s:=⟨z,H,I,rw',q⟩
 exact subscriptTail_builtinR (x:=w) pl.typeIs slot_tuple_getitem.lookup
  (getItem_tuple (j:=j) (Q:=fun r s'=>r=w/\EP X pins σ Q r s') pl (by omega) (by omega) (by rw [gd, <- hl];exact h1) (by simpa using ew) ⟨rfl,fin⟩) hs
theorem qq2:IxR X rIxS:=by
 intro value slice pins s σ H x y v u Q I rx ry h hs;obtain⟨z,i,c,rfl,rfl,hz,he,q⟩:=h;obtain⟨t,rfl⟩:=rx;obtain⟨t',rfl⟩:=ry;obtain⟨j,h1,h2,h3,h4,h5⟩:=q9c he;have hl:z.cps.toList.length=z.length:=by simp [Str.length]
 rw [hl] at h1 h4 h5;have hn:=q5c;exact tail_any (typeIs_str s z t) slot_str_getitem.lookup (getItem_str (c:=c) (by
  have e1:decide (i < -(2 ^ 63:Int))=false:=m6 (by omega);have e2:decide (i>=2 ^ 63)=false:=m6 (by omega);rw [e1,e2,Bool.or_false]) (by rw [h1];simpa using h2) ⟨.str ⟨#[c]⟩,H,I.tok _,⟨_,rfl⟩,q⟩) hs
def rIx(K:PySem.W.Frag): R2:=fun x y H Q=>qq0 K x y H Q\/qq1 K x y H Q\/rIxS x y H Q
theorem qq3:IxR X (rIx X.K):=ix_list.or (ix_tup.or qq2)
theorem qbu(lo hi:Option Int)(n:Nat): (sliceBounds lo hi none n).1=((HT.sIx n 0 lo:Nat):Int)/\(sliceBounds lo hi none n).2.1=((HT.sIx n n hi:Nat):Int)/\(sliceBounds lo hi none n).2.2=1:=by
 refine⟨?_,?_,rfl⟩
 ·cases lo with
  | none=>simp [sliceBounds,HT.sIx]
  | some i=>
   simp only [sliceBounds,HT.sIx,Option.getD_none,show(1:Int)>0 by decide,pz]
   by_cases h:i<0
   ·simp only [h,pz] <;> omega
   ·simp only [h,p7] <;> omega
 ·cases hi with
  | none=>simp [sliceBounds,HT.sIx]
  | some i=>
   simp only [sliceBounds,HT.sIx,Option.getD_none,show(1:Int)>0 by decide,pz]
   by_cases h:i<0
   ·simp only [h,pz] <;> omega
   ·simp only [h,p7] <;> omega
theorem qb5(its:List Value)(lo hi:Option Int): slicePick its.toArray lo hi none=((its.drop (HT.sIx its.length 0 lo)).take (HT.sIx its.length its.length hi-HT.sIx its.length 0 lo)).toArray:=by
 obtain⟨h1,h2,h3⟩:=qbu lo hi its.toArray.size;unfold slicePick;rw [h1,h2,h3];simp only [sliceRange_one,pick_run,gd] <;> rfl
def qtn(K:PySem.W.Frag): V->Option Int->Option Int->Hp->VK->Prop:=fun x lo hi H Q=>∃a xs,x=.ref a/\SqL K H a xs/\∀p,H p=none->Q (.ref p) (upd H p (.lst (q1r xs lo hi)))
theorem sl_list:SlR X (qtn X.K):=by
 intro pins s σ H x v vl vu lo hi sl Q I rx hs pl pu h;obtain⟨a,xs,rfl,hx,q⟩:=h;cases rx;obtain⟨its,r,ht,hz⟩:=I.list hx;have hlen:=r.length;refine⟨"list",_,slot_list_getitem.lookup,ht.isList.typeIs,?_⟩;refine wpAny_getItem_list_slice ht.isList hs pl pu .none (by simp) ?_ (by rw [gd] <;> omega);rw [qb5, <- hlen];refine⟨.ref s.heap.objs.size,_,I.laid (t':=s.toks) (o:=.lst (q1r xs lo hi)) (fun b ob q=>g9 _ q) (gq _) ?_,rfl,q _ (I.hok.fresh (gq _))⟩;exact⟨mh (q72 xs lo hi) hz,_,0,(r.drop (HT.sIx xs.length 0 lo)).take (HT.sIx xs.length xs.length hi-HT.sIx xs.length 0 lo),gp _ rfl⟩
def q06:V->Bool
 | .non=>true
 | .bl _=>true
 | .int _=>true
 | .str _=>true
 | _=>false
def eqV:V->V->Bool
 | .non,.non=>true
 | .bl a,.bl b=>a==b
 | .bl a,.int b=>(if a then 1 else 0)==b
 | .int a,.bl b=>a==(if b then 1 else 0)
 | .int a,.int b=>a==b
 | .str a,.str b=>a==b
 | _,_=>false
theorem qil{A:Around}{s:Shared}{y x:V}{u v:Value}(ry:RelV y u)(rx:RelV x v)(fy:q06 y=true)(fx:q06 x=true): SeqAt.EqAt A s u v (eqV y x):=by
 cases y with
 | non=>
  cases ry;cases x with
  | non=>cases rx;exact g4m _
  | bl b=>cases rx;exact SeqAt.EqAt.none_bool b
  | int b=>obtain⟨t,rfl⟩:=rx;exact SeqAt.EqAt.none_int b t
  | str b=>obtain⟨t,rfl⟩:=rx;exact SeqAt.EqAt.none_str b t
  | _=>exact absurd (show false=true from fx) gs
 | bl a=>
  cases ry;cases x with
  | non=>cases rx;exact SeqAt.EqAt.bool_none a
  | bl b=>cases rx;exact SeqAt.EqAt.bool_bool a b
  | int b=>obtain⟨t,rfl⟩:=rx;exact SeqAt.EqAt.bool_int a b t
  | str b=>obtain⟨t,rfl⟩:=rx;exact SeqAt.EqAt.bool_str a b t
  | _=>exact absurd (show false=true from fx) gs
 | int a=>
  obtain⟨t',rfl⟩:=ry;cases x with
  | non=>cases rx;exact SeqAt.EqAt.int_none a t'
  | bl b=>cases rx;exact SeqAt.EqAt.int_bool a t' b
  | int b=>obtain⟨t,rfl⟩:=rx;exact SeqAt.EqAt.int_int a t' b t
  | str b=>obtain⟨t,rfl⟩:=rx;exact SeqAt.EqAt.int_str a t' b t
  | _=>exact absurd (show false=true from fx) gs
 | str a=>
  obtain⟨t',rfl⟩:=ry;cases x with
  | non=>cases rx;exact SeqAt.EqAt.str_none a t'
  | bl b=>cases rx;exact SeqAt.EqAt.str_bool a t' b
  | int b=>obtain⟨t,rfl⟩:=rx;exact SeqAt.EqAt.str_int a t' b t
  | str b=>obtain⟨t,rfl⟩:=rx;exact SeqAt.EqAt.str_str a t' b t
  | _=>exact absurd (show false=true from fx) gs
 | _=>exact absurd (show false=true from fy) gs
def eqU(x:V)(u:Value): Bool:=match u with
 | .none=>eqV .non x
 | .bool b=>eqV (.bl b) x
 | .int i _=>eqV (.int i) x
 | .str z _=>eqV (.str z) x
 | _=>false
theorem qim{x y:V}{u:Value}(r:RelV y u)(f:q06 y=true): eqU x u=eqV y x:=by
 cases y with
 | non=>cases r;rfl
 | bl b=>cases r;rfl
 | int i=>obtain⟨t,rfl⟩:=r;rfl
 | str z=>obtain⟨t,rfl⟩:=r;rfl
 | _=>exact absurd (show false=true from f) gs
theorem q3t{x:V}: ∀ {xs:List V} {us:List Value},Vals xs us->xs.all q06=true->us.any (eqU x)=xs.any fun y=>eqV y x
 | _,_,.nil,_=>rfl
 | y :: xs,u :: us,.cons r t,f=>by
  rw [g2f,mf] at f;rw [List.any_cons,List.any_cons,qim r f.1,q3t t f.2]
theorem q2f{A:Around}{s:Shared}{x:V}{v:Value}(rx:RelV x v)(fx:q06 x=true): ∀ {xs:List V} {us:List Value},Vals xs us->xs.all q06=true->∀u∈us,SeqAt.EqAt A s u v (eqU x u)
 | _,_,.nil,_=>fun u hu=>by cases hu
 | y :: xs,u :: us,.cons r t,f=>fun u' hu=>by
  rw [g2f,mf] at f;rcases m4.mp hu with rfl|hu
  ·rw [qim r f.1];exact qil r rx f.1 fx
  ·exact q2f rx fx t f.2 u' hu
def inV(x:V)(xs:List V): Bool:=xs.any fun y=>eqV y x
def rIn(K:PySem.W.Frag)(neg:Bool): R2:=fun x y H Q=>∃p xs,y=.ref p/\(SqL K H p xs\/SqT K H p xs)/\q06 x=true/\xs.all q06=true/\Q (.bl (if neg then !inV x xs else inV x xs)) H
theorem qin:OpR X (compareOp .In) (rIn X.K false):=by
 intro pins s σ H x y v u Q I rx ry h;obtain⟨p,xs,rfl,hq,fx,fs,q⟩:=h;cases ry;rcases hq with hq|hq
 ·obtain⟨its,r,pl,hz⟩:=I.list hq
  refine SeqAt.in_listAt (eqU x) pl.isList (fun w hw=>q2f rx fx r fs w (by simpa using hw)) ⟨.bl _,H,I,rfl,?_⟩;rw [show its.toArray.any (eqU x)=its.any (eqU x) by simp,q3t r fs];exact q
 ·obtain⟨its,r,pl,hz⟩:=I.tuple hq
  refine SeqAt.in_tupleAt (eqU x) pl (fun w hw=>q2f rx fx r fs w (by simpa using hw)) ⟨.bl _,H,I,rfl,?_⟩;rw [show its.toArray.any (eqU x)=its.any (eqU x) by simp,q3t r fs];exact q
theorem qbv:OpR X (compareOp .NotIn) (rIn X.K true):=by
 intro pins s σ H x y v u Q I rx ry h;obtain⟨p,xs,rfl,hq,fx,fs,q⟩:=h;cases ry;rcases hq with hq|hq
 ·obtain⟨its,r,pl,hz⟩:=I.list hq
  refine SeqAt.notIn_listAt (eqU x) pl.isList (fun w hw=>q2f rx fx r fs w (by simpa using hw)) ⟨.bl _,H,I,rfl,?_⟩;rw [show its.toArray.any (eqU x)=its.any (eqU x) by simp,q3t r fs];exact q
 ·obtain⟨its,r,pl,hz⟩:=I.tuple hq
  refine SeqAt.notIn_tupleAt (eqU x) pl (fun w hw=>q2f rx fx r fs w (by simpa using hw)) ⟨.bl _,H,I,rfl,?_⟩;rw [show its.toArray.any (eqU x)=its.any (eqU x) by simp,q3t r fs];exact q
theorem qb6:xv X (.type "tuple") (fun xs H Q=>∃p ys,xs=[.ref p]/\((SqL X.K H p ys/\∀l,H l=none->Q (.ref l) (upd H l (.tup ys)))\/(SqT X.K H p ys/\Q (.ref p) H))):=by
 intro pins s σ H xs us Q I r h;obtain⟨p,ys,rfl,h⟩:=h;obtain⟨u,rfl,rx⟩:=vals1 r;cases rx;rcases h with⟨hq,q⟩|⟨hq,q⟩
 ·obtain⟨its,r',pl,hz⟩:=I.list hq
  have hlen:=r'.length;refine call_tuple_list pl.isList (fun h' kp=>?_) (by simp only [gd] <;> omega);have I1:Inv X pins σ H {s with heap:=h'}:=I.kept (t':=s.toks) kp;have I2:Inv X pins σ (upd H h'.objs.size (.tup ys)) {s with heap:=h'.push {cls:=.type "tuple",data:=.seq its.toArray} }:=
   I1.laid (t':=s.toks) (fun b o e=>g9 _ e) (gq _) (show ObjOk X.prog X.w _ _ _ (.tup ys) from⟨hz,its,r',TupX.new _ _⟩)
  exact⟨.ref h'.objs.size,_,I2,rfl,q _ (I1.hok.fresh (gq _))⟩
 ·obtain⟨its,r',pl,hz⟩:=I.tuple hq
  exact call_tuple_same pl ⟨.ref p,H,I,rfl,q⟩
def tyV(K:PySem.W.Frag)(T:String)(x:V)(H:Hp): Prop:=match x with
 | .str _=>T="str"
 | .int _=>T="int"
 | .ref p=>(T="list" /\ ∃xs,SqL K H p xs)\/(T="tuple" /\ ∃o,K.lookup p=some o/\o.cls=.type "tuple" /\ o.dict=none) \/
   (T="dict" /\ ((∃kvs,H p=some (.dK kvs))\/∃kvs,H p=some (.dT kvs)))\/(T="set" /\ ∃S n,H p=some (.set S n))
 | _=>False
theorem qq4{pins:List (Addr×Obj)}{σ : St}{H:Hp}{s:Shared}{T:String}{x:V}{v:Value}(I:Inv X pins σ H s)(r:RelV x v)(ty:tyV X.K T x H):
  s.TypeIs v T/\∀a,v=.ref a->∃ob,s.heap.get? a=some ob/\ob.dict=none:=by
 cases x with
 | str z=>
  obtain⟨t,rfl⟩:=r;cases(show T="str" from ty);exact⟨typeIs_str s z t,fun _ e=>nomatch e⟩
 | int i=>
  obtain⟨t,rfl⟩:=r;cases(show T="int" from ty);exact⟨typeIs_int s i t,fun _ e=>nomatch e⟩
 | ref p=>
  cases r;rcases ty with⟨rfl,xs,hq⟩|⟨rfl,o,hk,hc,hd⟩|⟨rfl,hk⟩|⟨rfl,S,n,hk⟩
  ·obtain⟨its,_,pl,_⟩:=I.list hq
   refine⟨pl.isList.typeIs,fun a e=>?_⟩;cases e;obtain⟨o,n,e,c,hd,_⟩:=pl;exact⟨o,e,hd⟩
  ·refine⟨⟨o,I.kIn p o hk,hc⟩,fun a e=>?_⟩
   cases e;exact⟨o,I.kIn _ o hk,hd⟩
  ·have z:∃o,s.heap.get? p=some o/\o.ExactDict:=by
    rcases hk with⟨kvs,hk⟩|⟨kvs,hk⟩
    ·obtain⟨_,_,_,_,o,_,_,e,ex,_⟩:=I.hok p _ hk
     exact⟨o,e,ex⟩
    ·obtain⟨_,_,_,_,o,_,_,e,ex,_⟩:=I.hok p _ hk
     exact⟨o,e,ex⟩
   obtain⟨o,e,ex⟩:=z;refine⟨⟨o,e,ex.1⟩,fun a e2=>?_⟩;cases e2;exact⟨o,e,ex.2.1⟩
  ·obtain⟨o,_,_,_,e,ex,_⟩:=I.hok p _ hk
   refine⟨⟨o,e,ex.1⟩,fun a e2=>?_⟩;cases e2;exact⟨o,e,ex.2.1⟩
 | _=>exact False.elim ty
def tBM(K:PySem.W.Frag)(T:String)(r:V->List V->Hp->VK->Prop)(to:TE)(t:TA): TE:=fun σ H Q=>to σ H fun x H1=>tyV K T x H1/\t σ H1 fun xs H2=>r x xs H2 Q
variable{o e:Expr}{es:List Expr}{to:TE}{t:TA}{name:Str}{apos cpos:Pos}{T id:String}{r:V->List V->Hp->VK->Prop}
theorem qn0(pa:PlainAttrs T)(slot:Slot T name id)(hty:typeOf (.builtin id)=pure (.type "method_descriptor"))(hm:MtR X id r)(ho:PE X o to)(ha:PA X (e :: es) t)
  (hbase:attributeBase o name X.env (eval o X.env)=eval o X.env:=by rfl)
  (hfew:((backTo cpos (starEach (e :: es) X.env)).all (fun x=> !x.1)&&(backToKw cpos (keywordEach [] X.env)).all (fun x=>x.1.isSome)
   && decide ((e :: es).length+([]:List Keyword).length+(if([]:List Keyword).isEmpty then 0 else 1)<30))=true:=by rfl)
  (hline:(apos.endLine==cpos.line)=true:=by rfl) (hs:starEach (e :: es) X.env=(false,eval e X.env) :: starEach es X.env:=by rfl) (hplain:(backTo cpos (starEach es X.env)).any (·.1)=false:=by rfl) :
  PE X (.Call (.Attribute o name apos) (e :: es) [] cpos) (tBM X.K T r to t):=by
 intro pins s σ H Q I h;refine wpAny_Call_method_late hbase hfew hline rfl (thn (ho pins s σ H _ I h) fun v s1 ⟨x,H1,I1,r1,ty,q1⟩=>?_);obtain⟨h1,h2⟩:=qq4 I1 r1 ty;refine⟨T,id,pa,slot,hty,h1,h2,?_⟩;have hA:=ha cpos pins s1 σ H1 _ I1 q1;rw [hs] at hA ⊢;refine Calls.callWith_builtin (by show(false || (backTo cpos (starEach es X.env)).any (·.1))=false;rw [hplain] <;> rfl) (g2r ?_);exact thn hA fun us s2 ⟨vs,H2,I2,r2,q2⟩=>hm pins s2 σ H2 x vs v us Q I2 r1 r2 q2
end
def MtM(X:Cx)(id:String)(r:V->List V->Hp->VK->Prop): Prop:=
 ∀(pins:List (Addr×Obj)) (s:Shared) (σ : St) (H:Hp) (x:V) (xs:List V) (v:Value) (us:List Value) (Q:VK),Inv X pins σ H s->RelV x v->Vals xs us->r x xs H Q ->
  wpAny (model X.prog X.w) X.A (call (.builtin id) (v :: us)) (EP X pins σ Q) X.xe s
theorem Vals.one:∀ {x:V} {us:List Value},Vals [x] us->∃u,us=[u]/\RelV x u
 | _,_,.cons r .nil=>⟨_,rfl,r⟩
theorem Vals.two:∀ {x y:V} {us:List Value},Vals [x,y] us->∃u v,us=[u,v]/\RelV x u/\RelV y v
 | _,_,_,.cons r (.cons q .nil)=>⟨_,_,rfl,r,q⟩
section
variable{X:Cx}{pins:List (Addr×Obj)}{σ : St}{H:Hp}{s:Shared}{l b:Addr}{xs ys zs:List V}
theorem Inv.lset{its its':List Value}{n:Nat}{f:Array Value->Array Value}{t':Nat}(I:Inv X pins σ H s)(hH:H l=some (.lst xs))
  (e:s.heap.get? l=some {cls:=.type "list",data:=.seq its.toArray n}) (hf:f its.toArray=its'.toArray) (hv:Vals ys its') (hz:ys.length<=sizeLine) :
  Inv X pins σ (upd H l (.lst ys)) {s with heap:=s.heap.update l (Obj.mapSeq f),toks:=t'}:=by
 have q:=PySem.IsL.update e f;rw [hf] at q;refine I.write (x:=l) (e:=l) (by rw [hH];exact trivial) (.inl rfl) (fun b' u hb hu=>(mm s.heap (Obj.mapSeq f) (m5 hb)).trans hu) ⟨_,q⟩ ?_;exact⟨hz,its',_,hv,q⟩
theorem Inv.lnew{its:List Value}{t':Nat}(I:Inv X pins σ H s)(hv:Vals ys its)(hz:ys.length<=sizeLine):
  Inv X pins σ (upd H s.heap.objs.size (.lst ys)) {s with heap:=s.heap.push {cls:=.type "list",data:=.seq its.toArray},toks:=t'}:=
 I.laid (fun _ _ q=>g9 _ q) (gq _) ⟨hz,its,0,hv,gp _ rfl⟩
theorem Inv.fresh(I:Inv X pins σ H s): H s.heap.objs.size=none:=I.hok.fresh (gq _)
theorem Inv.lstM(I:Inv X pins σ H s)(hH:H l=some (.lst xs)): xs.length<=sizeLine/\∃(its:List Value) (n:Nat),Vals xs its/\xs.length=its.length/\s.heap.get? l=some {cls:=.type "list",data:=.seq its.toArray n}:=by
 obtain⟨z,its,n,r,e⟩:=I.hok l _ hH;exact⟨z,its,n,r,r.length,e⟩
theorem qko{n:Nat}(h:n<=sizeLine): Builtin.List.listTooLong n=false:=by
 unfold Builtin.List.listTooLong;exact m6 (by omega)
end
section
variable{X:Cx}
def rAppend:V->List V->Hp->VK->Prop:=fun x vs H Q=>∃l xs y,x=.ref l/\vs=[y]/\H l=some (.lst xs)/\xs.length<sizeLine/\Q .non (upd H l (.lst (xs++[y])))
theorem qab:MtM X "list.append" rAppend:=by
 intro pins s σ H x vs v us Q I rx rv h;obtain⟨l,xs,y,rfl,rfl,hH,hz,q⟩:=h;cases rx;obtain⟨u,rfl,ru⟩:=rv.one;obtain⟨z,its,n,r,hl,e⟩:=I.lstM hH;refine g2s F.slot_list_append ⟨_,e,rfl⟩ F.entry_list_append (F.args_list_append_2 _ _) (PySem.list_append l its.toArray n u (by rw [gd];omega)) ⟨e,?_⟩;refine⟨.non,_,I.lset (its':=its++[u]) hH e (by simp) (r.append (.cons ru .nil)) ?_,rfl,q⟩;rw [mn,g2m];omega
end
section
variable{prog:Program}{w:World}{A:Around}{E:Value->Shared->Prop}{s:Shared}
end
section
variable{X:Cx}
end
end L2
namespace Att
open PySem PySem.W PySem.Calls PyProof.Rows
theorem q87{P:Params}{h:Heap}: ∀(ns:List Int) (vs:List Value),WellAll P h vs (ns.map WData.int)->IntsAre vs ns:=by
 intro ns
 induction ns with
 | nil=>
  intro vs w;rw [u7] at w;cases w;exact .nil
 | cons n ns ih=>
  intro vs w;rw [gh] at w;cases w with
  | cons a b=>
   cases a;exact .cons _ _ (ih _ b)
theorem qio{l:OpenLaw}{n:Nat}(hn:l.most=some n){P:Params}{h:Heap}{args:List WData}{vals:List Value}
  (hpre:l.row.toRowW.claim.pre args=true) (hwl:WellAll P h vals args) :
  ∃a vs ns,vals=[Value.ref a]/\args=[WData.list (ns.map WData.int)]/\h.get? a=some {cls:=.type "list",data:=.seq vs.toArray}/\IntsAre vs ns/\ns.length<=n:=by
 have hsh:WShape.hasAll [] args [.list .int]=true:=(pre_splitW hpre).1;have hc:l.pre.holds [] {args:=args}=true:=(pre_splitW hpre).2;obtain⟨d,r,rfl,h1,h2⟩:=hasAllW_cons hsh;obtain rfl:=hasAllW_nil h2;obtain⟨xs,rfl,h3⟩:=hasW_list h1;obtain⟨ns,rfl⟩:=items_int h3;have hlen:ns.length<=n:=by
  unfold OpenLaw.pre at hc;have h4:(WTm.not (.lt (.lit (.int (n:Int))) (.len (.arg 0)))).holds [] {args:=[.list (ns.map .int)]}=true:=by
   have h4:=(holds_andW hc).1;rw [hn] at h4;exact h4
  have h5:=condW_of h4 (w_not (w_lt w_lit (w_len_list (w_arg rfl))));rw [gr] at h5;refine Nat.le_of_not_lt fun q=>?_;have q':(n:Int)<((ns.length:Nat):Int):=by omega
  first
   | (rw [ma q'] at h5;exact absurd h5 (by decide))
   | (simp at h5;omega)
 cases hwl with
 | cons w1 w2=>
  cases w2;cases w1 with
  | list ho hall=>exact⟨_,_,ns,rfl,rfl,ho,q87 ns _ hall,hlen⟩
theorem qip(l:OpenLaw)(args:List WData): l.row.toRowW.claim.post args (.bool true) args=true:=
 postW_of (r:=l.row.toRowW) (X:=(true==true))
  (show WShape.has [] (.bool true) .bool=true by first|rfl|decide|simp [WShape.has,WShape.arms,WShape.armsAll])
  (show(WTm.eq .res (.lit (.bool true))).value [] {args:=args,res:=some (.bool true),after:=args}=some (.bool (true==true)) from w_eq_bool (w_res rfl) w_lit) rfl
theorem attach_call{l:OpenLaw}{n:Nat}{q:Program}{loose:List Str}{XP:(Str->Option Value)->Heap->Prop}{YP:World->Heap->Prop}{d:DefRec}
  (hn:l.most=some n) (hdf:d.params.defaults=[])
  (call:∀(w:World) (s₀ s₁:Shared) (mg mb:Str->Option Value) (fa:Addr) (o:Obj) (pm cd doc:Value) (a:Addr) (vs:List Value) (ns:List Int),
   Ground q loose [] XP w s₀ mg mb s₁.heap->YP w s₁.heap ->
   s₁.heap.get? fa=some o->o.data=.func (docDef d.name d.params d.body d.scope pm cd doc)->s₁.heap.CodeRec cd d.name->mg d.name=some (.ref fa) ->
   s₁.heap.get? a=some {cls:=.type "list",data:=.seq vs.toArray}->IntsAre vs ns->ns.length<=n->s₁.gens = #[] ->
   codeAny (model l.prog w) callerA (.call (.ref fa) ⟨[.ref a],[]⟩) (fun r s'=>r=.ok (.ret (.bool true))/\OldK s₁.heap s'.heap/\s'.os=s₁.os/\AllBare s'.gens) s₁) :
  WalkO q loose XP YP l.row.toRowW d [] (fun f vs=>PySem.call f vs):=by
 intro w s₀ s₁ mg mb G Y fa o pm cd doc dV kV ho hd hcd hD hmg hg args vals as hpre hlay hrd hwl hlo;obtain rfl:dV=.none:=Dflts.none hD hdf;obtain rfl:kV=.none:=Dflts.noKw hD;obtain⟨a,vs,ns,rfl,rfl,hobj,hints,hlen⟩:=qio hn hpre hwl;refine enter_call (g0n (call w s₀ s₁ mg mb fa o pm cd doc a vs ns G Y ho (fd_plain hd) hcd hmg hobj hints hlen hg) fun r s' hq=>?_);obtain⟨rfl,h2,h3,h4⟩:=hq;exact⟨.inl ⟨.bool true,.bool true,[],rfl,fun _=>rfl,.bool true,qip l _,fun _=>⟨List.Pairwise.nil,fun _ hm=>(nomatch hm)⟩⟩,h2,h3,h4⟩
section
variable{prog:Program}{w:World}{A:Around}{E:Value->Shared->Prop}{s:Shared}{K:Frag}
end
end Att
namespace L2
open PySem PySem.Spec PyProof.Rows
theorem q1f:∀ {vs:List Value} {ns:List Int},IntsAre vs ns->Vals (ns.map V.int) vs
 | _,_,.nil=>.nil
 | _,_,.cons n t h=>.cons ⟨t,rfl⟩ (q1f h)
def qkp(H:Hp): Prop:=∀b,H b=none\/∃o xs,H b=some (.frz o (.lst xs))
theorem qkq{P:Program}{w:World}{K:PySem.W.Frag}{mg mb:Str->Option Value}{CX:CXT}{k:Nat}{fa a:Addr}{fd:FuncData}{x:Str}{sp:Sp}{s₁:Shared}{vs:List Value}{ns:List Int}
  (KX:K.In s₁.heap) (hns:s₁.heap.Ns mainGlobals mg) (hb:s₁.heap.Ns builtinsNs mb) (hbb:∀x:Str,x≠"__name__" -> mb x=bootBuiltins x) (hlim:s₁.heap.NoLimit) (hg:s₁.gens = #[])
  (ha:s₁.heap.get? a=some {cls:=.type "list",data:=.seq vs.toArray}) (hi:IntsAre vs ns) (hl:ns.length<=sizeLine) (hr:Room k callerA)
  (F:∀base:Heap,K.In base->base.Ns mainGlobals mg->FnOk P w K mg base CX k fa fd [x] sp) (hbind:∀(s:Shared) (u:Value),BindsTo s fd ⟨[u],[]⟩ [(x,u)])
  (hsp:∀H:Hp,qkp H->SqL K H a (ns.map V.int)->sp [.ref a] H (fun v _=>v=.bl true) fun _ _ _=>False)
  (hCX:∀H e s',CX [] H s₁ (fun _ _ _=>False) e s'->False) :
  codeAny (model P w) callerA (.call (.ref fa) ⟨[.ref a],[]⟩) (fun r s'=>r=.ok (.ret (.bool true))/\OldK s₁.heap s'.heap/\s'.os=s₁.os/\AllBare s'.gens) s₁:=by
 have rv:=q1f hi;have lenV:=hi.length
 -- from an abstract heap in which nothing but the script may be tracked
 have core:∀H:Hp,qkp H->SqL K H a (ns.map V.int)->HOk P w H s₁.heap->(∀b,H b≠none->b=a)->(H a≠none->K.lookup a=none) ->
   codeAny (model P w) callerA (.call (.ref fa) ⟨[.ref a],[]⟩) (fun r s'=>r=.ok (.ret (.bool true))/\OldK s₁.heap s'.heap/\s'.os=s₁.os/\AllBare s'.gens) s₁:=by
  intro H hO hS hok hA hK;have base_of:∀ {b:Addr} {o:Obj},s₁.heap.get? b=some o->H b=none->(q48 s₁.heap H).get? b=some o:=fun e n=>qkc e n;have noA:∀ {b:Addr} {o:Obj} {es:Array DictEntry} {ep:Nat},s₁.heap.get? b=some o->o.data=.dict es ep->H b=none:=fun {b o es ep} e d=>by
   cases q:H b with
   | none=>rfl
   | some u=>
    have e':b=a:=hA b (by rw [q];simp);subst e';rw [ha] at e;cases e;have d':Data.seq vs.toArray _=Data.dict es ep:=d;cases d'
  have nsK:∀ {b:Addr} {m:Str->Option Value},s₁.heap.Ns b m->(q48 s₁.heap H).Ns b m:=fun {b m} ⟨o,es,ep,e,d,r⟩=>⟨o,es,ep,base_of e (noA e d),d,r⟩
  have hKb:K.In (q48 s₁.heap H):=fun b o e=>base_of (KX b o e) (by
   cases q:H b with
   | none=>rfl
   | some u=>
    have e':b=a:=hA b (by rw [q];simp);subst e';rw [hK (by rw [q];simp)] at e;cases e)
  have hM:Mod K mg (q48 s₁.heap H):=⟨hKb,nsK hns,⟨mb,nsK hb,hbb⟩,let⟨mc,h1,h2⟩:=hlim; ⟨mc,nsK h1,h2⟩⟩
  have e0:Env0 P w K mg (q48 s₁.heap H) callerA [] s₁ H:=⟨rfl,hM,fun b o e=>qnd e,Nat.le_of_eq (qia _ _),trivial,fun b hb=>absurd (show b∈([]:List Addr) from hb) (by simp),hok,.of_eq hg⟩
  refine g0n ((F _ hKb (nsK hns)).run callerA [] s₁ H ⟨[.ref a],[]⟩ [.ref a] [.ref a] _ _ hr e0 (hbind s₁ (.ref a)) (.cons rfl .nil) (hsp H hO hS)) fun r s' h=>?_;cases r with
  | error e=>exact(hCX H e s' h).elim
  | ok fl=>
   cases fl with
   | next=>exact False.elim h
   | brk=>exact False.elim h
   | cont=>exact False.elim h
   | ret u=>
    obtain⟨v,H',os,bare,un,hok',r',q⟩:=h;have q':v=.bl true:=q;subst q';obtain rfl:u=Value.bool true:=r';refine⟨rfl,OldK.of_keep fun b o e=>?_,os,bare⟩;cases q:H b with
    | none=>exact un.keep b o e q (by intro z;exact absurd (show b∈([]:List Addr) from z) (by simp)) (by simp)
    | some u=>
     rcases hO b with z|⟨ob,xs,z⟩
     ·rw [q] at z;cases z
     ·have z2:=un.frzs b ob _ z
      obtain⟨e1,_⟩:=hok b _ z;obtain⟨e2,_⟩:=hok' b _ z2;rw [e] at e1;cases e1;exact e2
 cases hk:K.lookup a with
 | some o=>
  -- the script is one of the module's own objects
  have e:=KX a o hk;rw [ha] at e;cases e;refine core (fun _=>none) (fun _=>.inl rfl) (.inr ⟨_,vs.toArray,_,hk,rfl,rfl,rfl,by rw [gd,lenV];exact hl,by simpa using rv⟩) (fun b u z=>by have z':(none:Option HO)=some u:=z;cases z') (fun b z=>absurd rfl z) fun z=>absurd rfl z
 | none=>
  refine core (fun b=>if b=a then some (.frz {cls:=.type "list",data:=.seq vs.toArray} (.lst (ns.map V.int))) else none) (fun b=>?_) (.inl (.inr ⟨{cls:=.type "list",data:=.seq vs.toArray},gx rfl⟩)) (fun b u z=>?_) (fun b z=>?_) fun _=>hk
  ·by_cases hb:b=a
   ·exact .inr ⟨_,_,gx hb⟩
   ·exact .inl (m8 hb)
  ·by_cases hb:b=a
   ·have z':=(gx hb).symm.trans z
    cases z';subst hb;exact⟨ha,by rw [gr];exact hl,vs,_,rv,ha⟩
   ·have z':=(m8 hb).symm.trans z
    cases z'
  ·by_cases hb:b=a
   ·exact hb
   ·exact absurd (m8 hb) z
theorem qns{l:PySem.W.OpenLaw}{n k:Nat}{q:Program}{loose:List Str}{XP:(Str->Option Value)->Heap->Prop}{YP:World->Heap->Prop}{d:DefRec}{K:Params->PySem.W.Frag}{CX:World->CXT}{sp:World->Sp}{x:Str}
  (hn:l.most=some n) (hn2:n<=sizeLine) (hdf:d.params.defaults=[]) (hr:Room k callerA)
  (hY:∀(w:World) (h:Heap),YP w h->(K w.params).In h)
  (F:∀(w:World) (mg:Str->Option Value) (fa:Addr) (h:Heap),(K w.params).In h->h.Ns mainGlobals mg->mg d.name=some (.ref fa) ->
   ∃fd:FuncData,(∀(s:Shared) (u:Value),BindsTo s fd ⟨[u],[]⟩ [(x,u)]) /\
    ∀base:Heap,(K w.params).In base->base.Ns mainGlobals mg->FnOk l.prog w (K w.params) mg base (CX w) k fa fd [x] (sp w))
  (hsp:∀(w:World) (H:Hp) (a:Addr) (ns:List Int),ns.length<=n->qkp H->SqL (K w.params) H a (ns.map V.int)->sp w [.ref a] H (fun v _=>v=.bl true) fun _ _ _=>False)
  (hCX:∀(w:World) (H:Hp) (s:Shared) (e:Value) (s':Shared),CX w [] H s (fun _ _ _=>False) e s'->False) :
  PySem.W.WalkO q loose XP YP l.row.toRowW d [] (fun f vs=>PySem.call f vs):=by
 refine Att.attach_call hn hdf fun w s₀ s₁ mg mb fa o pm cd doc a vs ns G Y ho hd hcd hmg hobj hints hlen hg=>?_;have KX:=hY w _ Y;obtain⟨fd,hb,hF⟩:=F w mg fa _ KX G.T.g hmg;exact qkq KX G.T.g G.T.b G.T.builtins G.T.nolimit hg hobj hints (mh hlen hn2) hr hF hb (fun H hO hS=>hsp w H a ns hlen hO hS) fun H e s'=>hCX w H s₁ e s'
def we(s:Stmt): Arguments:=match s with
 | .FunctionDef _ a _ _ _ _ _ _ _ _=>a
 | _=>{posonlyargs:=[],args:=[],vararg:=none,kwonlyargs:=[],kw_defaults:=[],kwarg:=none,defaults:=[]}
def qx(s:Stmt): List Stmt:=match s with
 | .FunctionDef _ _ b _ _ _ _ _ _ _=>b
 | _=>[]
def qh(s:Stmt): Scope:=match s with
 | .FunctionDef _ _ _ _ _ _ sc _ _ _=>sc
 | _=>{kind:=.function,names:=[],isGenerator:=false,isCoroutine:=false}
abbrev CX0:CXT:=fun _ _ _ _ _ _=>False
abbrev E0:XK:=fun _ _ _=>False
theorem qn1{X:Cx}: q5d CX0 X E0:=fun _ _ _ _ _ _ _ h=>h.elim
structure Fun(K:PySem.W.Frag)(x qual:Str)(st:Stmt)(f:Addr)(fd:FuncData): Prop where
 ex:∃(oc:Value) (od:Option Addr) (kV doc pm:Value) (an:Option Addr) (cdv ct:Value) (osl:Array (Option Value)),
  fd=PySem.W.fnOf x qual (we st) (qx st) (qh st) .none kV doc pm an cdv ct/\K.lookup f=some ⟨oc,od,.func fd,osl⟩/\PySem.W.codeIn K cdv qual=true
 kp:PySem.W.keepIn K (.ref f)=true
section
variable{P:Program}{w:World}{K:PySem.W.Frag}{mg:Str->Option Value}{base:Heap}
end
section
variable{X:Cx}
theorem pv(i:Nat){x:Str}{pos:Pos}(hN:X.N[i]? = some x:=by rfl)(hv:Vis X.env.scope x:=by first|exact Or.inl rfl|exact Or.inr (Or.inl rfl)|exact Or.inr (Or.inr rfl))(hd:(x==("__debug__" : Str))=false:=by decide)
  (hcd:(x==("__classdict__" : Str))=false:=by decide):PE X (.Name x pos) (q4a i):=qpa hN hv hd hcd
end
theorem qkr{A B:Prop}(h:B): if false=true then A else B:=by
 rw [m8 gs];exact h
theorem qks{A B:Prop}(h:A): if true=true then A else B:=by
 rw [gx rfl];exact h
def Same(H H':Hp): Prop:=∀b o,H b=some o->H' b=some o
theorem Same.refl(H:Hp): Same H H:=fun _ _ h=>h
theorem Same.trans{H H1 H2:Hp}(a:Same H H1)(b:Same H1 H2): Same H H2:=fun c o h=>b c o (a c o h)
theorem Same.free{H H':Hp}(e:Same H H'){l:Addr}(h:H' l=Option.none): H l=Option.none:=by
 cases q:H l with
 | none=>rfl
 | some o=>
  rw [e l o q] at h;cases h
theorem Same.seq{K:PySem.W.Frag}{H H':Hp}{a:Addr}{xs:List V}(e:Same H H')(h:SqL K H a xs): SqL K H' a xs:=by
 rcases h with(h|⟨o,h⟩)|h
 ·exact .inl (.inl (e _ _ h))
 ·exact .inl (.inr ⟨o,e _ _ h⟩)
 ·exact .inr h
theorem q2g(env:Env): ∀(names:List (Str×NameKind)) (acc:List (Str×Addr)),
  (∀y∈names,y.2=.free->∃c,env.cells.lookup y.1=some c)->(∀x c,acc.lookup x=some c->env.cells.lookup x=some c) ->
  ∃ cl,(forIn names acc (fun(x:Str×NameKind) (r:List (Str×Addr))=>(do
    if x.2==NameKind.free then do
     let a <- cellOf env x.1
     pure (ForInStep.yield ((x.1,a) :: r))
    else pure (ForInStep.yield r):Sem (ForInStep (List (Str×Addr))))):Sem (List (Str×Addr)))=pure cl /\
   (∀x c,cl.lookup x=some c->env.cells.lookup x=some c)/\(∀x c,acc.lookup x=some c->∃d,cl.lookup x=some d)/\(∀y∈names,y.2=.free->∃c,cl.lookup y.1=some c)
 | [],acc,_,h2=>⟨acc,rfl,h2,fun x c h=>⟨c,h⟩,fun y hy=>by cases hy⟩
 | (n,k) :: r,acc,h1,h2=>by
  by_cases hk:k=NameKind.free
  ·subst hk
   obtain⟨c,hc⟩:=h1 (n,.free) gv rfl;have h2':∀x d,((n,c) :: acc).lookup x=some d->env.cells.lookup x=some d:=fun x d e=>by
    rw [my] at e
    split at e
    ·rename_i q
     have q':x=n:=by simpa using q
     subst q';cases e;exact hc
    ·exact h2 x d e
   obtain⟨cl,e,a1,a2,a3⟩:=q2g env r ((n,c) :: acc) (fun y hy=>h1 y (gy _ hy)) h2';refine⟨cl,?_,a1,fun x d e2=>?_,fun y hy hf=>?_⟩
   ·rw [g2t]
    simp only [g2g,pz];have hco:cellOf env n=pure c:=by unfold cellOf;rw [hc]
    rw [hco];exact e
   ·by_cases q:x=n
    ·subst q
     exact a2 x c (by rw [my];simp)
    ·exact a2 x d (by rw [my,show(x==n)=false by simpa using q];exact e2)
   ·rcases m4.mp hy with rfl|hy
    ·exact a2 n c (by rw [my];simp)
    ·exact a3 y hy hf
  ·obtain⟨cl,e,a1,a2,a3⟩:=q2g env r acc (fun y hy=>h1 y (gy _ hy)) h2
   refine⟨cl,?_,a1,a2,fun y hy hf=>?_⟩
   ·rw [g2t]
    have hb:(k==NameKind.free)=false:=by simpa using hk
    simp only [hb,gu,p7];exact e
   ·rcases m4.mp hy with rfl|hy
    ·exact absurd hf hk
    ·exact a3 y hy hf
theorem q88{scope:Scope}{env:Env}(h:∀y∈scope.names,y.2=.free->∃c,env.cells.lookup y.1=some c):
  ∃cl,closureFor scope env=pure cl/\(∀x c,cl.lookup x=some c->env.cells.lookup x=some c)/\(∀y∈scope.names,y.2=.free->∃c,cl.lookup y.1=some c):=by
 obtain⟨cl,e,a1,_,a3⟩:=q2g env scope.names [] h (fun x c q=>by cases q);refine⟨cl,?_,a1,a3⟩;unfold closureFor;exact(t4 (fun m=>m >>= fun r=>(pure r:Sem (List (Str×Addr)))) e).trans rfl
abbrev qiq(ifs:List Expr)(env:Env): Sem Bool:=
 forIn ifs true fun c r=>if r=true then do let ok <- isTrue c env (eval c env);pure (ForInStep.yield ok) else pure (ForInStep.yield r)
def q1s(X:Cx)(ifs:List Expr)(t:TT): Prop:=
 ∀(pins:List (Addr×Obj)) (s:Shared) (σ : St) (H:Hp) (Q:Bool->Hp->Prop),Inv X pins σ H s->t σ H Q->wpAny (model X.prog X.w) X.A (qiq ifs X.env) (TP X pins σ Q) X.xe s
def tTrue:TT:=fun _ H Q=>Q true H
theorem qkt{X:Cx}: q1s X [] tTrue:=fun pins s σ H Q I h=>wpAny_tests_nil ⟨H,I,h⟩
theorem qku{X:Cx}{c:Expr}{t:TT}(h:PT X c t): q1s X [c] t:=fun pins s σ H Q I hq=>wpAny_tests_one (h pins s σ H Q I hq)
section
variable{prog:Program}{w:World}{A:Around}{R:Result->Shared->Prop}{s:Shared}
theorem qe9{elt target iter:Expr}{ifs:List Expr}{scope:Scope}{pos:Pos}{it acc:Value}{env:Env}(I:Nat->Shared->Prop)
  (turn:∀n s,I n s->wpAny (model prog w) A (pyNext it) (fun r s₁=>match r with
   | none=>R (.ok .next) s₁
   | some v=>wpAny (model prog w) A (letOwnedTupleGo target it v) (fun _ s'=>wpAny (model prog w) A (assign target env v) (fun _ s₂=>
     wpAny (model prog w) A (qiq ifs env) (fun ok s₃=>
      if ok=true then wpAny (model prog w) A (eval elt env) (fun x s₄=>
       wpAny (model prog w) A (call (.builtin "list.append") [acc,x]) (fun _ s₅=>∃m,m<n/\I m s₅) (fun _ _=>False) s₄) (fun _ _=>False) s₃
      else ∃m,m<n/\I m s₃) (fun _ _=>False) s₂) (fun _ _=>False) s') (fun _ _=>False) s₁) (fun _ _=>False) s)
  (n:Nat) (h:I n s) :
  codeAny (model prog w) A (.compLoop (.ListComp elt [⟨target,iter,ifs,0⟩] scope pos) 0 it acc env) R s:=by
 refine codeAny_loop rfl I (fun n s hI=>?_) n h;show wpAny _ A ((compTurn (.ListComp elt [⟨target,iter,ifs,0⟩] scope pos) 0 it acc env).onRaise (fun x=>do noteFrame x env;theTreesLotGoes x)) _ _ s;refine wpAny_noted ?_;rw [compTurn_list];refine g0 (g3j (g0 (n5 (turn n s hI) (fun r s₁ h₁=>?_) fun _ _ h'=>h'.elim)));cases r with
 | none=>exact g7 h₁
 | some v=>
  refine g0 (n5 h₁ (fun _ s' h'=>?_) fun _ _ h'=>h'.elim);refine g0 (n5 h' (fun _ s₂ h₂=>g0 (n5 h₂ (fun ok s₃ h₃=>?_) fun _ _ h'=>h'.elim)) fun _ _ h'=>h'.elim);cases ok with
  | false=>exact g7 ⟨rfl,h₃⟩
  | true=>
   exact g0 (g0 (n5 h₃ (fun x s₄ h₄=>g0 (n5 h₄ (fun _ s₅ h₅=>g7 (g7 ⟨rfl,h₅⟩)) fun _ _ h'=>h'.elim)) fun _ _ h'=>h'.elim))
end
abbrev xc(X:Cx)(N':List Str)(scope:Scope)(cl:List (Str×Addr))(C:Addr)(s₀:Shared)(H₀:Hp)(fp:List Addr): Cx:=
 {X with N:=N',env:=compEnvC scope cl C X.env,s₀:=s₀,H₀:=H₀,outer:=X.stack,ex:=fp,fn:=fun _=>false,pn:=[],xe:=fun _ _=>False}
structure CapOk(X:Cx)(N':List Str)(scope:Scope)(cap:List (Option Nat)): Prop where
 kind:scope.kind=.function
 cell:∀y∈scope.names,y.2 ≠ .cell
 names:∀y∈scope.names,y.2=.local->scope.names.lookup y.1=some .local
 frees:∀y∈scope.names,y.2=.free->X.env.kindOf y.1=some .cell\/X.env.kindOf y.1=some .free
 len:cap.length=N'.length
 cap:∀(i j:Nat),cap[i]? = some (some j)->∃x,N'[i]? = some x/\X.N[j]? = some x/\scope.names.lookup x=some .free
def q9e(cap:List (Option Nat))(σ : St): St:=cap.map fun o=>o.bind fun j=>(σ[j]?).join
theorem lookup_mem{α β : Type}[BEq α][LawfulBEq α]{l:List (α × β)}{a : α}{b : β}(h:l.lookup a=some b): (a,b)∈l:=by
 induction l with
 | nil=>cases h
 | cons p r ih=>
  obtain⟨x,y⟩:=p;rw [my] at h
  split at h
  ·rename_i q
   have q':a=x:=by simpa using q
   subst q';cases h;exact gv
  ·exact gy _ (ih h)
theorem q2h{env:Env}: ∀ {names:List (Str×NameKind)} {x:Str} {k:NameKind},(names.map fun(n,k)=>if(k==NameKind.free&&env.scope.kind == .function&&env.kindOf n==some .cell) then(n,NameKind.cell) else(n,k)).lookup x=some k ->
  (names.lookup x=some k)\/(k=.cell/\names.lookup x=some .free)
 | [],_,_,h=>by cases h
 | (n,k0) :: r,x,k,h=>by
  have ih:=@q2h env r x k;have h':List.lookup x ((if(k0==NameKind.free&&env.scope.kind == .function&&env.kindOf n==some .cell)=true then(n,NameKind.cell) else(n,k0)) :: _)=some k:=h
  by_cases hc:(k0==NameKind.free&&env.scope.kind == .function&&env.kindOf n==some .cell)=true
  ·rw [gx hc,my] at h'
   have hf:k0=.free:=by
    simp only [mf,uc] at hc;exact hc.1.1
   cases q:x==n with
   | true=>rw [q] at h';cases h';exact .inr ⟨rfl,by rw [my,q,hf]⟩
   | false=>rw [q] at h';rw [my,q];exact ih h'
  ·rw [m8 hc,my] at h'
   cases q:x==n with
   | true=>rw [q] at h';rw [my,q];exact .inl h'
   | false=>rw [q] at h';rw [my,q];exact ih h'
theorem q5f{env:Env}: ∀ {names:List (Str×NameKind)} {x:Str},names.lookup x=some .free ->
  (names.map fun(n,k)=>if(k==NameKind.free&&env.scope.kind == .function&&env.kindOf n==some .cell) then(n,NameKind.cell) else(n,k)).lookup x=some .cell \/
  (names.map fun(n,k)=>if(k==NameKind.free&&env.scope.kind == .function&&env.kindOf n==some .cell) then(n,NameKind.cell) else(n,k)).lookup x=some .free
 | [],_,h=>by cases h
 | (n,k0) :: r,x,h=>by
  have ih:=@q5f env r x;show List.lookup x ((if(k0==NameKind.free&&env.scope.kind == .function&&env.kindOf n==some .cell)=true then(n,NameKind.cell) else(n,k0)) :: _)=_\/List.lookup x ((if(k0==NameKind.free&&env.scope.kind == .function&&env.kindOf n==some .cell)=true then(n,NameKind.cell) else(n,k0)) :: _)=_;rw [my] at h
  by_cases hc:(k0==NameKind.free&&env.scope.kind == .function&&env.kindOf n==some .cell)=true
  ·rw [gx hc,my]
   cases q:x==n with
   | true=>exact .inl rfl
   | false=>rw [q] at h;exact ih h
  ·rw [m8 hc,my]
   cases q:x==n with
   | true=>rw [q] at h;exact .inr h
   | false=>rw [q] at h;exact ih h
section
variable{X:Cx}{pins:List (Addr×Obj)}{σ : St}{H:Hp}{s:Shared}{N':List Str}{scope:Scope}{cap:List (Option Nat)}{cl:List (Str×Addr)}{fp:List Addr}
theorem qkv(I:Inv X pins σ H s)(co:CapOk X N' scope cap)(h1:∀x c,cl.lookup x=some c->X.env.cells.lookup x=some c)(h2:∀y∈scope.names,y.2=.free->∃c,cl.lookup y.1=some c)
  (hf:∀b∈fp,q2e X pins H b) (ho:∀b∈fp,∃o,s.heap.get? b=some o) {h':Heap} {t':Nat} {m:Str->Option Value} (hn:h'.Ns s.heap.objs.size m) (hk:∀b o,s.heap.get? b=some o->h'.get? b=some o) :
  Inv (xc X N' scope cl s.heap.objs.size s H fp) [] (q9e cap σ) H {s with heap:=h',toks:=t'}:=by
 have flt:∀b∈fp,b<s.heap.objs.size:=fun b hb=>let⟨o,e⟩:=ho b hb;gi e
 refine⟨⟨I.ok.mod,co.kind,I.ok.glob,I.ok.blt,gq _,fun x y c e1 e2=>I.ok.inj x y c (h1 x c e1) (h1 y c e2),fun x hx=>?_,fun x c z _=>(nomatch z),I.ok.hd,I.ok.frames,.inl rfl,fun b hb=>?_,I.bs,mh I.ok.bsz I.sz,fun b o e hb=>?_,fun b hb z=>?_,I.stack,I.stkFree⟩,
  rfl,I.bare,Un.kept hk,⟨m,hn,fun i x v e1 e2 e3=>?_⟩,fun x c e=>?_,I.hok.fresh (gq _),fun x c e=>I.freeC x c (h1 x c e),fun p hp=>(nomatch hp),I.hok.kept hk,?_⟩
 ·have hx':(relabel scope X.env).names.lookup x=some .cell\/(relabel scope X.env).names.lookup x=some .free:=hx
  have hfree:scope.names.lookup x=some .free:=by
   rcases hx' with q|q
   ·rcases q2h q with z|⟨_,z⟩
    ·exact absurd rfl (co.cell _ (lookup_mem z))
    ·exact z
   ·rcases q2h q with z|⟨z,_⟩
    ·exact z
    ·cases z
  exact h2 (x,.free) (lookup_mem hfree) rfl
 ·obtain⟨f0,f1,f2,f3,f4,f5⟩:=hf b hb
  exact⟨gw (flt b hb),fun x c e=>f4 x c (h1 x c e)⟩
 ·obtain⟨f0,f1,f2,f3,f4,f5⟩:=hf b hb
  rcases f3 with z|z
  ·exact I.ok.noex b o e z
  ·exact absurd (gj (gi e) (mh I.ok.bsz z)) (ua _)
 ·obtain⟨f0,f1,f2,f3,f4,f5⟩:=hf b hb
  rcases m4.mp (I.stkSub b z) with q|q
  ·exact f1 q
  ·exact f2 q
 ·-- a captured name
  have e2':(cap.map fun o=>o.bind fun j=>(σ[j]?).join)[i]? = some (some v):=e2;rw [gz] at e2';cases q:cap[i]? with
  | none=>rw [q] at e2';cases e2'
  | some o=>
   rw [q] at e2';cases o with
   | none=>cases e2'
   | some j=>
    obtain⟨y,a1,a2,a3⟩:=co.cap i j q;have e1':N'[i]? = some x:=e1;rw [a1] at e1';obtain rfl:y=x:=mi e1';have ej:(σ[j]?).join=some v:=by
     have:=e2';simp only [mw,gb,g11] at this;exact this
    have ej' : σ[j]? = some (some v):=by
     cases z : σ[j]? with
     | none=>rw [z] at ej;cases ej
     | some u=>rw [z] at ej;simp only [g2h] at ej;rw [ej]
    have kd:=co.frees (y,.free) (lookup_mem a3) rfl;obtain⟨m0,hn0,hl0⟩:=I.loc;have vis:Vis X.env.scope y:=by
     rcases kd with k|k
     ·exact .inr (.inl k)
     ·exact .inr (.inr k)
    obtain⟨u,ru,lk⟩:=hl0 j y v a2 ej' vis;refine⟨u,ru,.inr ⟨q5f a3,?_⟩⟩;obtain⟨c,hc⟩:=h2 (y,.free) (lookup_mem a3) rfl;rcases lk with⟨k,_⟩|⟨_,c',hc',z⟩
    ·rcases kd with k'|k'
     ·rw [k] at k';cases k'
     ·rw [k] at k';cases k'
    ·have:=h1 _ _ hc
     rw [hc'] at this;obtain rfl:c'=c:=mi this;obtain⟨o,eo,ed⟩:=z;exact⟨c',hc,o,hk _ _ eo,ed⟩
 ·obtain⟨v,o,eo,ed⟩:=I.cell x c (h1 x c e)
  exact⟨v,o,hk _ _ eo,ed⟩
 ·show(cap.map _).length=N'.length
  rw [gr];exact co.len
theorem qgd{N':List Str}{C:Addr}{H':Hp}{s':Shared}{σ':St}{h':Heap}(I:Inv X pins σ H s)(hf:∀b∈fp,q2e X pins H b)(J:Inv (xc X N' scope cl C s H fp) [] σ' H' s')(hs:Heap.SameBut C s'.heap h'):
  Inv X pins σ H' {s' with heap:=h'}:=by
 have hC:s.heap.objs.size<=C:=J.ok.above;have kp:∀b o,b≠C->s'.heap.get? b=some o->h'.get? b=some o:=fun b o hb e=>(hs.2 b hb).trans e;have hC0:H' C=none:=J.free;have un:Un (frs X.stack) fp H H' s.heap h':=by
  have u:Un (frs X.stack) fp H H' s.heap s'.heap:=J.base;have neC:∀b o,s.heap.get? b=some o->b≠C:=fun b o e=>gw (gj (gi e) hC);exact⟨fun b o e n h1 h2=>kp b o (neC b o e) (u.keep b o e n h1 h2),fun b o e n h1 h2=>let⟨sl,q⟩:=u.slot b o e n h1 h2; ⟨sl,kp b _ (neC b o e) q⟩,u.free,fun b o e h=>let⟨o',q⟩:=u.there b o e h; ⟨o',kp b o' (neC b o e) q⟩,u.tups,u.frzs,u.tbls⟩
 have hok:HOk X.prog X.w H' h':=fun b u e=>by
  refine(J.hok b u e).stay (fun c v hc q=>kp c v ?_ q) (fun _ q=>q) fun _ _ q=>q;rcases hc with z|z
  ·rw [z];intro z2;rw [z2,hC0] at e;cases e
  ·intro z2;rw [z2,hC0] at z;cases z
 exact I.call' (s':={s' with heap:=h'}) (ch:=fp) J.os un hok J.bare fun b hb=>by
  obtain⟨f0,f1,f2,f3,f4,f5⟩:=hf b hb;exact⟨f3,f1,f4,f5⟩
end
def qq5(J:It)(cap:List (Option Nat))(g:TG)(tc:TT)(te:TE)(σ : St)(H1:Hp)(p:Addr)(K:Hp->Prop): Prop:=
 ∃ W:Nat->Nat->St->Hp->Prop,(∃m,W 0 m (q9e cap σ) (upd H1 p (.lst [])))/\∀i m σ' H',W i m σ' H' ->
  (J.stop i H'/\K H')\/(J.go i H'/\∀x H'',J.yld i H' x H''->g x σ' H'' fun σ2 H2=>tc σ2 H2 fun b H3=>
   if b=true then te σ2 H3 fun y H4=>∃xs,H4 p=some (.lst xs)/\xs.length<sizeLine/\∃m',m'<m/\W (i+1) m' σ2 (upd H4 p (.lst (xs++[y])))
   else ∃m',m'<m/\W (i+1) m' σ2 H3)
def qge(wi:TI)(cap:List (Option Nat))(g:TG)(tc:TT)(te:TE): TE:=fun σ H Q=>wi σ H fun J H1=>∀p,H1 p=none->qq5 J cap g tc te σ H1 p (Q (.ref p))
section
variable{X:Cx}{N':List Str}{scope:Scope}{cap:List (Option Nat)}{tg iter elt:Expr}{ifs:List Expr}{wi:TI}{g:TG}{tc:TT}{te:TE}{pos:Pos}
theorem qac{cl:List (Str×Addr)}{pins:List (Addr×Obj)}{s:Shared}{σ : St}{H:Hp}{it:Addr}{fp:List Addr}{tn:Nat->Heap->Prop}{J:It}{E:Value->Shared->Prop}{K:Addr->Hp->Prop}
  {RR:Value->Addr->Result->Shared->Prop} (hc:X.calm=true) (co:CapOk X N' scope cap)
  (h1:∀x c,cl.lookup x=some c->X.env.cells.lookup x=some c) (h2:∀y∈scope.names,y.2=.free->∃c,cl.lookup y.1=some c)
  (hg:∀cl C s₀ H₀ fp,PG (xc X N' scope cl C s₀ H₀ fp) tg g) (hcs:∀cl C s₀ H₀ fp,q1s (xc X N' scope cl C s₀ H₀ fp) ifs tc) (he:∀cl C s₀ H₀ fp,PE (xc X N' scope cl C s₀ H₀ fp) elt te)
  (I:Inv X pins σ H s) (T:Turn X.prog X.w X.K tg J fp it tn) (st:tn 0 s.heap) (hf:∀b∈fp,q2e X pins H b) (h:∀p,H p=none->qq5 J cap g tc te σ H p (K p))
  (hRR:∀(D C:Addr) (s':Shared) (H':Hp),s.heap.objs.size<=C->(∃m,s'.heap.Ns C m)->(∀h',Heap.SameBut C s'.heap h'->Inv X pins σ H' {s' with heap:=h'})->H' C=none->K D H'->RR (.ref D) C (.ok .next) s') :
  wpAny (model X.prog X.w) X.A (newList []) (fun acc s₃=>wpAny (model X.prog X.w) X.A (newFunctionEnv scope X.env.globals cl [] X.env.qual none .none (some X.env)) (fun cenv s₄=>
   codeAny (model X.prog X.w) X.A (.compStart (.ListComp elt [⟨tg,iter,ifs,0⟩] scope pos) 0 (.ref it) acc {cenv with scope:=relabel scope X.env}) (RR acc cenv.locals) s₄) E s₃) E s:=by
 refine p5 (wpAny_newFunctionEnv co.cell (by intro y hy;simp at hy) (fun hh hns hsb=>?_) co.kind);have hD:H s.heap.objs.size=none:=I.fresh;have I3:Inv X pins σ (upd H s.heap.objs.size (.lst [])) {s with heap:=s.heap.push {cls:=.type "list",dict:=none,data:=.seq ([]:List Value).toArray} }:=I.lnew (ys:=[]) (its:=[]) (t':=s.toks) .nil (pj _);obtain⟨W,⟨m0,w0⟩,turn⟩:=h s.heap.objs.size hD;have fobj:∀b∈fp,∃o,s.heap.get? b=some o:=fun b hb=>let⟨o,e,_⟩:=T.obj 0 _ st b hb; ⟨o,e⟩
 generalize e3:({s with heap:=s.heap.push {cls:=.type "list",dict:=none,data:=.seq ([]:List Value).toArray} }:Shared)=s3 at I3;have es3:s3.heap=s.heap.push {cls:=.type "list",dict:=none,data:=.seq ([]:List Value).toArray}:=by rw [<- e3]
 have eC:(s.heap.push {cls:=.type "list",dict:=none,data:=.seq ([]:List Value).toArray}).objs.size=s3.heap.objs.size:=by rw [es3]
 have hf3:∀b∈fp,q2e X pins (upd H s.heap.objs.size (.lst [])) b:=fun b hb=>by
  obtain⟨f0,f1⟩:=hf b hb;obtain⟨o,e⟩:=fobj b hb;exact⟨by rw [qy (gw (gi e))];exact f0,f1⟩
 have kp:∀b o,s3.heap.get? b=some o->hh.get? b=some o:=fun b o e=>by
  refine hsb.extBut b o ?_ (g9 _ (by rw [<- es3];exact e));show b≠(s.heap.push {cls:=.type "list",dict:=none,data:=.seq ([]:List Value).toArray}).objs.size;rw [eC];exact gw (gi e)
 have hle:s.heap.objs.size<=s3.heap.objs.size:=by rw [es3,g01];exact g38 _
 have s3e:∀t:Nat,({s with heap:=hh,toks:=t}:Shared) = {s3 with heap:=hh,toks:=t}:=fun t=>by rw [<- e3]
 have I4:Inv (xc X N' scope cl s3.heap.objs.size s3 (upd H s.heap.objs.size (.lst [])) fp) [] (q9e cap σ) (upd H s.heap.objs.size (.lst [])) {s3 with heap:=hh,toks:=s.toks+([]:List (Str×Value)).length}:=
  qkv I3 co h1 h2 hf3 (fun b hb=>let⟨o,e⟩:=fobj b hb; ⟨o,by rw [es3];exact g9 _ e⟩) (by rw [<- eC];exact hns) kp
 have st4:tn 0 hh:=T.keep 0 _ _ st fun b hb o e=>kp b o (by rw [es3];exact g9 _ e);have etk:s3.toks+([]:List (Str×Value)).length=s.toks+([]:List (Str×Value)).length:=by rw [<- e3]
 show codeAny (model X.prog X.w) X.A (.compStart (.ListComp elt [⟨tg,iter,ifs,0⟩] scope pos) 0 (.ref it) (.ref s.heap.objs.size) (compEnvC scope cl s3.heap.objs.size X.env)) (RR (.ref s.heap.objs.size) s3.heap.objs.size)
  {s3 with heap:=hh,toks:=s3.toks+([]:List (Str×Value)).length}
 rw [etk];generalize eX:xc X N' scope cl s3.heap.objs.size s3 (upd H s.heap.objs.size (.lst [])) fp=X' at I4;have hg':PG X' tg g:=by rw [<- eX];exact hg _ _ _ _ _
 have hcs':q1s X' ifs tc:=by rw [<- eX];exact hcs _ _ _ _ _
 have he':PE X' elt te:=by rw [<- eX];exact he _ _ _ _ _
 have eenv:X'.env=compEnvC scope cl s3.heap.objs.size X.env:=by rw [<- eX]
 have exe:X'.xe=fun _ _=>False:=by rw [<- eX]
 have eex:X'.ex=fp:=by rw [<- eX]
 have eprog:X'.prog=X.prog:=by rw [<- eX]
 have ew:X'.w=X.w:=by rw [<- eX]
 have eK:X'.K=X.K:=by rw [<- eX]
 have eA:X'.A=X.A:=by rw [<- eX]
 have ecalm:X'.calm=true:=by rw [<- eX];exact hc
 have epn:X'.pn=[]:=by rw [<- eX]
 have eloc:X'.env.locals=s3.heap.objs.size:=by rw [eenv];rfl
 have ok':=I4.ok;have stat:∀ {H':Hp},(∀b∈fp,H' b=none)->∀b∈fp,q2e X' [] H' b:=fun hn b hb=>by
  have hbx:b∈X'.ex:=by rw [eex];exact hb
  exact⟨hn b hb,(ok'.exf b hbx).1,ok'.exfs b hbx,.inl hbx,(ok'.exf b hbx).2,fun p hp=>by rw [epn] at hp;cases hp⟩
 have back:∀ {σ':St} {H':Hp} {s':Shared},Inv X' [] σ' H' s'->K s.heap.objs.size H'->RR (.ref s.heap.objs.size) s3.heap.objs.size (.ok .next) s':=fun {σ' H' s'} J' k=>by
  refine hRR _ _ _ H' hle ?_ (fun h' hs'=>?_) ?_ k
  ·obtain⟨m,hm,_⟩:=J'.loc
   exact⟨m,by rw [<- eloc];exact hm⟩
  ·rw [<- eX] at J'
   exact qgd I3 hf3 J' hs'
  ·rw [<- eloc];exact J'.free
 have loop:codeAny (model X.prog X.w) X.A (.compLoop (.ListComp elt [⟨tg,iter,ifs,0⟩] scope pos) 0 (.ref it) (.ref s.heap.objs.size) (compEnvC scope cl s3.heap.objs.size X.env)) (RR (.ref s.heap.objs.size) s3.heap.objs.size)
   {s3 with heap:=hh,toks:=s.toks+([]:List (Str×Value)).length}:=by
  refine qe9 (fun n s'=>∃i σ' H',Inv X' [] σ' H' s'/\tn i s'.heap/\(∀b∈fp,H' b=none)/\W i n σ' H') ?_ m0 ⟨0,_,_,I4,st4,fun b hb=>(hf3 b hb).1,w0⟩
  rintro n s5 ⟨i, σ5,H5,I5,st5,fr5,w5⟩
  rw [<- eenv];rcases turn i n σ5 H5 w5 with⟨stop,qn⟩|⟨go,step⟩
  ·have:=T.done X' eprog ew eK ecalm i [] s5 σ5 H5 (fun _ _=>False) I5 (stat fr5) st5 stop
   rw [eA] at this;refine thn this fun r s6 ⟨hr,I6⟩=>?_;subst hr;exact back I6 qn
  ·have:=T.item X' eprog ew eK ecalm i [] s5 σ5 H5 (fun _ _=>False) I5 (stat fr5) st5 go
   rw [eA] at this;refine thn this fun r s6 ⟨u,hr,h6⟩=>?_;subst hr;refine thn h6 fun _ s7 ⟨x,H7,I7,r7,y7,st7,fr7⟩=>?_;have I7':=I7.pinned (stat fr7) (T.obj _ _ st7);have hg2:=hg' _ s7 σ5 H7 x u _ I7' r7 (step x H7 y7);rw [exe,eprog,ew,eA] at hg2;refine thn hg2 fun _ s8 ⟨σ8,H8,I8,q8⟩=>?_;have hc2:=hcs' _ s8 σ8 H8 _ I8 q8;rw [exe,eprog,ew,eA] at hc2;refine thn hc2 fun ok s9 ⟨H9,I9,q9⟩=>?_;have again:∀ {H':Hp} {s':Shared} {m':Nat},Inv X' ([]++q3s fp s7.heap) σ8 H' s'->m'<n->W (i+1) m' σ8 H'->∃m,m<n/\∃i σ' H',Inv X' [] σ' H' s'/\tn i s'.heap/\(∀b∈fp,H' b=none)/\W i m σ' H':=fun {H' s' m'} J' hm w'=>by
    refine⟨m',hm,i+1, σ8,H',J'.unpinned,T.keep _ _ _ st7 fun b hb o e=>(J'.pin (b,o) (ml _ (ml _ (q22 hb e)))).1,fun b hb=>?_,w'⟩;obtain⟨o,e,d⟩:=T.obj _ _ st7 b hb;exact(J'.pin (b,o) (ml _ (ml _ (q22 hb e)))).2.1
   cases ok with
   | false=>
    rw [m8 gs] at q9 ⊢;obtain⟨m',hm,w'⟩:=q9;exact again I9 hm w'
   | true=>
    rw [gx rfl] at q9 ⊢;have he2:=he' _ s9 σ8 H9 _ I9 q9;rw [exe,eprog,ew,eA] at he2;refine thn he2 fun y s10 ⟨yv,H10,I10,r10,xs,hp,hz,m',hm,w'⟩=>?_;have ha2:=qab (X:=X') ([]++q3s fp s7.heap) s10 σ8 H10 (.ref s.heap.objs.size) [yv] (.ref s.heap.objs.size) [y] (fun _ H'=>H'=upd H10 s.heap.objs.size (.lst (xs++[yv]))) I10 rfl (.cons r10 .nil) ⟨_,xs,yv,rfl,rfl,hp,hz,rfl⟩;rw [exe,eprog,ew,eA] at ha2;refine thn ha2 fun _ s11 ⟨_,H11,I11,_,e11⟩=>?_;subst e11;exact again I11 hm w'
 exact codeAny_compStart_list loop (T.self _ 0 _ _ _ st4 loop)
theorem qnt(hc:X.calm=true)(co:CapOk X N' scope cap)(hi:PI X tg iter wi)
  (hg:∀cl C s₀ H₀ fp,PG (xc X N' scope cl C s₀ H₀ fp) tg g) (hcs:∀cl C s₀ H₀ fp,q1s (xc X N' scope cl C s₀ H₀ fp) ifs tc) (he:∀cl C s₀ H₀ fp,PE (xc X N' scope cl C s₀ H₀ fp) elt te)
  (hs:∀x,foldedSetIterable iter X.env x=pure x:=by intro _;rfl):PE X (.ListComp elt [⟨tg,iter,ifs,0⟩] scope pos) (qge wi cap g tc te):=by
 intro pins s σ H Q I h;obtain⟨cl,ecl,c1,c2⟩:=q88 (scope:=scope) (env:=X.env) fun y hy hf=>I.ok.has y.1 (co.frees y hy hf);rw [eval_ListComp];refine wpAny_comprehension_free (use:=none) rfl hs ecl co.kind co.names (n5 (hi pins s σ H _ I h) (fun v s1 h1=>n5 h1 (fun itv s2 h2=>?_) fun _ _ e=>e) fun _ _ e=>e);obtain⟨it,fp,tn,J,H2,rfl,I2,T,st2,f2,h2⟩:=h2;refine qac (K:=fun p=>Q (.ref p)) (RR:=fun acc C=>compPost (model X.prog X.w) X.A X.xe none (EP X pins σ Q) acc C) hc co c1 c2 hg hcs he I2 T st2 f2 h2 ?_;intro D C s' H' hle ⟨m,hm⟩ hI hC q;exact⟨m,hm,fun h' hs'=>⟨.ref D,H',hI h' hs',rfl,q⟩⟩
end
section
variable{X:Cx}{N':List Str}{scope:Scope}{cap:List (Option Nat)}{tg iter elt:Expr}{ifs:List Expr}{wi:TI}{g:TG}{tc:TT}{te:TE}{pos:Pos}
theorem qgf{i:Nat}{x:Str}{px pe:Pos}(hc:X.calm=true)(hN:X.N.Nodup)(hx0:X.N[i]? = some x)(hx:X.env.scope.names.lookup x=some .local)(co:CapOk X N' scope cap)(hi:PI X tg iter wi)
  (hg:∀cl C s₀ H₀ fp,PG (xc X N' scope cl C s₀ H₀ fp) tg g) (hcs:∀cl C s₀ H₀ fp,q1s (xc X N' scope cl C s₀ H₀ fp) ifs tc) (he:∀cl C s₀ H₀ fp,PE (xc X N' scope cl C s₀ H₀ fp) elt te)
  (hsw:swapsWith (.ListComp elt [⟨tg,iter,ifs,0⟩] scope pe) (some (.Name x px)) pos.line X.env=pure true:=by rfl)
  (hs:∀x,foldedSetIterable iter X.env x=pure x:=by intro _;rfl):PS X (.Assign [.Name x px] (.ListComp elt [⟨tg,iter,ifs,0⟩] scope pe) pos) (qpl (qge wi cap g tc te) (q6h i)):=by
 intro pins s σ H D I h;obtain⟨cl,ecl,c1,c2⟩:=q88 (scope:=scope) (env:=X.env) fun y hy hf=>I.ok.has y.1 (co.frees y hy hf);rw [exec_Assign_Name_used _ _ _ _ hsw];refine g0 (g3j (g0 ?_));show wpAny _ X.A (do let _ <- comprehension (.ListComp elt [⟨tg,iter,ifs,0⟩] scope pe) scope X.env _ (newList []) false (eval iter X.env) (some (assign (.Name x px) X.env))) _ _ s;refine g0 (n5 (wpAny_comprehension_free (use:=some (assign (.Name x px) X.env)) (Q:=fun _ s'=>SP X pins D .next s') rfl hs ecl co.kind co.names
  (n5 (hi pins s σ H _ I h) (fun v s1 h1=>n5 h1 (fun itv s2 h2=>?_) fun _ _ e=>e) fun _ _ e=>e)) (fun _ s' hq=>g7 (g7 hq)) fun _ _ e=>e)
 obtain⟨it,fp,tn,J,H2,rfl,I2,T,st2,f2,h2⟩:=h2;refine qac (K:=fun p H'=>q6h i (.ref p) σ H' D.nx) (RR:=fun acc C=>compPost (model X.prog X.w) X.A X.xe (some (assign (.Name x px) X.env)) (fun _ s'=>SP X pins D .next s') acc C) hc co c1 c2 hg hcs he I2 T st2 f2 h2 ?_;intro Da C s' H' hle ⟨m,hm⟩ hI hC q;have I':Inv X pins σ H' s':=hI s'.heap (g12 ..);obtain⟨o,es,ep,ho,hd,hk⟩:=id hm;have hCL:C≠X.env.locals:=t5 (gj I2.lt hle);have hCf:C∉X.fs:=I2.nofs hle;have I'':Inv X (pins++[(C,o)]) σ H' s':=I'.pins_of fun p hp=>(nh.mp hp).elim (fun z=>I'.pin p (ml _ z)) fun z=>by
  obtain rfl:p=(C,o):=by simpa using z
  exact⟨ho,hC,hCL,hCf,fun v z=>by rw [hd] at z;cases z⟩
 show wpAny (model X.prog X.w) X.A (assign (.Name x px) X.env (.ref Da)) _ _ _;refine wpAny_assign_Name (q49 I'' hN hx0 (.inl hx) (v:=.ref Da) rfl (fun s'' J=>?_) (.inr hx));have hC2:s''.heap.get? C=some o:=(J.pin (C,o) (ml _ (ml _ gv))).1;refine⟨m,⟨o,es,ep,hC2,hd,hk⟩,fun h' hs'=>?_⟩;have J2:Inv X pins (σ.set i (some (.ref Da))) H' {s'' with heap:=h'}:=J.unpinned.turned (t':=s''.toks) (it:=C) (fun b ob hb e=>(hs'.2 b hb).trans e) hC hCL
  (.inr (mh I2.sz hle)) (fun y c e z=>by
   obtain⟨v,q2⟩:=I2.cell y c e;exact absurd (gj q2.lt (by rw [z];exact hle)) (ua _)) fun p hp z=>by
   exact absurd (gj (gi (I2.pin p hp).1) (by rw [z];exact hle)) (ua _)
 exact⟨_,H',J2,q⟩
end
end L2
namespace DL
open PySem PySem.Spec PyProof.Rows L2
structure ExcC(K:PySem.W.Frag)(D:Addr): Prop where
 ga:PySem.W.findIn K (.ref D) "__getattribute__" = some (some (.builtin "BaseException.__getattribute__"))
 gk:PySem.W.findIn K (.ref D) "__getattr__" = some none
 cc:PySem.W.findIn K (.ref D) "__class__" = some (some (.builtin "object.__class__"))
 cs:PySem.W.specialIn K (.builtin "object.__class__") "__get__" = some (some (.builtin "getset_descriptor.__get__"))
 ct:PySem.W.takesIn K (.builtin "object.__class__")=some true
 cm:PySem.W.mroIn K D (.type "object")=some true
 cb:PySem.W.mroIn K D (.type "BaseException")=some true
section
variable{prog:Program}{w:World}{A:Around}{E:Value->Shared->Prop}{K:PySem.W.Frag}{s:Shared}{x D:Addr}{od:Option Addr}{ox:Obj}
open PySem.W in
theorem q9f(c:ExcC K D): (clsIn K D).isSome=true:=by
 have:=c.cm;unfold mroIn at this;cases q:clsIn K D with
 | none=>rw [q] at this;cases this
 | some cd=>rfl
def XE(a C:Addr)(od:Option Addr)(h:Heap): Prop:=∃o vs,h.get? a=some o/\o.cls=.ref C/\o.dict=od/\o.data=.fields vs
open PySem.W in
theorem q2a{M:Model}{a C:Addr}{od:Option Addr}{h:Heap}(e:XE a C od h): Looks M h (typeOf (.ref a)) (.ref C):=by
 obtain⟨o,vs,e1,e2,_,e3⟩:=e;exact e2 ▸ (Looks.ld e1).andThen .now
open PySem.W Builtin.ObjectAttr in
theorem qnu{M:Model}{h:Heap}(c:ExcC K D)(X:K.In h): Looks M h (find (.ref x) (.ref D) "__class__") (.bind (.builtin "getset_descriptor.__get__") (.builtin "object.__class__")):=by
 refine(looks_findIn (M:=M) X c.cc).andThen ((looks_specialIn (M:=M) X c.cs).andThen ?_);exact(show Looks M h (dataDescriptor? (some (.builtin "object.__class__")) (some (.builtin "getset_descriptor.__get__"))) (some (.builtin "getset_descriptor.__get__",.builtin "object.__class__")) from(looks_takesIn (M:=M) X c.ct).andThen .now).andThen (Looks.tag .now)
open PySem.W Builtin Builtin.ObjectAttr Builtin.Getset_descriptor in
theorem qq6{tp:Value}{R:Result->Shared->Prop}(c:ExcC K D)(X:K.In s.heap)(I:XE x D od s.heap)(h:R (.ok (.ret (.ref D))) s):
  codeAny (model prog w) A (.call (.builtin "getset_descriptor.__get__") ⟨[.builtin "object.__class__",.ref x,tp],[]⟩) R s:=by
 obtain⟨hh,g,dr,t,os⟩:=s;have L0:=q2a (M:=model prog w) I;have L1:=looks_mroIn (M:=model prog w) X c.cm;refine tq KF.slot_gs.plain KF.entry_gs (KF.slot_gs.check _ _ _ _ _ _ _ _ KF.type_class (KF.args_gs _ _ _) ?_);unfold Builtin.«getset_descriptor.__get__» descrGet;rw [dga_obj];refine g0 (g7 ?_);unfold descrGetter descrCheckInstance descrNameAndClass isInstance;simp only [KF.owner_class]
 repeat lk
 refine⟨g1x _ (by decide +kernel),nu KF.entry_class ?_⟩;unfold Builtin.«object.__class__» shownTypeOf
 repeat lk
 exact h
open PySem.W in
theorem qkw{tk:Tok}{Q:Fin->Shared->Prop}(c:ExcC K D)(X:K.In s.heap)(I:XE x D od s.heap)(hq:Q (.done (.ret (.ref D))) s):
  wpAny (model prog w) A (Builtin.«object.__getattribute__» ⟨[.ref x,.str "__class__" tk],[]⟩) Q E s:=by
 obtain⟨hh,g,dr,t,os⟩:=s;have L0:=q2a (M:=model prog w) I;have L1:=qnu (x:=x) (M:=model prog w) c X;unfold Builtin.«object.__getattribute__»;refine g0 (g7 (g0 (g7 (g0 (L0.at (g0 (L1.at ?_)))))));show wpAny _ _ (Builtin.ObjectAttr.bindTo _ _ _ _) _ _ _;unfold Builtin.ObjectAttr.bindTo;refine g0 (mq (g06 (qq6 c X I ?_)));exact g7 hq
open PySem.W in
theorem qbw{M:Model}{nameV:Value}{Q:Unit->Shared->Prop}(c:ExcC K D)(X:K.In s.heap)(I:XE x D od s.heap)(hq:Q () s): wpAny M A (checkBuiltinCall "BaseException.__getattribute__" ⟨[.ref x,nameV],[]⟩) Q E s:=by
 obtain⟨hh,g,dr,t,os⟩:=s;have L0:=q2a (M:=M) I;have L1:=looks_mroIn (M:=M) X c.cb;have hk:builtinKind "BaseException.__getattribute__" = some .slot:=by decide +kernel
 have hsplit:splitId "BaseException.__getattribute__" = some ("BaseException","__getattribute__"):=by decide +kernel
 have ha:=F.args_bexc_ga (.ref x) nameV;simp only [checkBuiltinCall,hk,hsplit];refine g0 ?_;unfold isInstance;refine g0 (L0.at (L1.at ?_))
 repeat (first|wp_step)
 exact hq
open PySem.W in
theorem qkx{Q:Option Value->Shared->Prop}(c:ExcC K D)(X:K.In s.heap)(I:XE x D od s.heap)(h:Q (some (.ref D)) {s with toks:=s.toks+1}): wpAny (model prog w) A (getAttr? (.ref x) "__class__") Q E s:=by
 obtain⟨hh,g,dr,t,os⟩:=s;have L0:=q2a (M:=model prog w) I;have L1:=looks_findIn (M:=model prog w) X c.ga;have L2:=looks_findIn (M:=model prog w) X c.gk;have f3:=g08.ga.bind (.ref x);unfold getAttr? getAttrBy? getAttrBy;refine g0 (wpAny_mkText (g0 (g0t (mq (g0 (L0.at (g0 (L1.at ?_))))))));show wpAny _ _ (getAttrByItsOwn _ _ _ _ _ _) _ _ _;unfold getAttrByItsOwn hookBefore;rw [gx (show onTheHeap (Value.ref D)=true from rfl)];refine g0 (L2.at ?_);refine g0 (g0t (mq ?_));unfold callGetattribute boundAndCalled;rw [m8 (by decide)];rw [f3];refine g0 (g7 ?_);refine g06 (tq g08.ga.plain F.entry_bexc_ga (qbw c X I (qkw c X I ?_)));dsimp only;exact handed_on rfl (g7 h)
theorem q7f(c:ExcC K D): PySem.W.KitX K (.ref x) (.ref D) (XE x D od) where
 ty:=fun M h _ e=>q2a e
 it:=fun _ _ X _=>by
  obtain⟨cdD,hcD⟩:=t9.mp (q9f c);unfold PySem.W.clsIn at hcD
  split at hcD
  ·rename_i c' d' cd' sl' ho
   intro A' Q' E' s' k q;unfold isType loadHead;exact g0 (wpAny_loadPart (k _ _ (X _ _ ho)) (g7 q))
  ·cases hcD
 ne:=fun h tp dd its n sl X htp=>by
  obtain⟨cdD,hcD⟩:=t9.mp (q9f c);refine Bool.eq_false_iff.mpr fun q=>?_;have e:D=tp:=Value.ref.inj (uc.mp q);subst e;unfold PySem.W.clsIn at hcD
  split at hcD
  ·rename_i c' d' cd' sl' ho
   have z:=(X _ _ ho).symm.trans htp;cases z
  ·cases hcD
 ca:=fun X e k=>qkx c X e k
end
def q4b(K:PySem.W.Frag)(C:Addr): Prop:=ExcC K C/\∀T:String,T∈["int","bool","tuple","list","str","dict"]->PySem.W.kitOne K (.ref C) (.type T)=some false
inductive D where
 | non
 | bl (b:Bool)
 | int (i:Int)
 | str (x:Str)
 | tup (ds:List D)
 | lst (ds:List D)
 | dct (ks:List Key) (vs:List D)
 | dtt (ks:List (List Int)) (vs:List D)
 | dt2 (ks:List (List Int×List Int))
 | obj (x:Str)
 | exc (x:Str) (f:Option (Str×Int))
abbrev Frag:=PySem.W.Frag
abbrev St:=L2.St
def qky(K:Frag)(C:Addr): Prop:=PySem.W.plainGet K C "__class__" = true/\PySem.W.hasDictIn K C=true/\PySem.W.findIn K (.ref C) "__class__" = some (some (.builtin "object.__class__")) /\
 PySem.W.specialIn K (.builtin "object.__class__") "__get__" = some (some (.builtin "getset_descriptor.__get__"))/\PySem.W.takesIn K (.builtin "object.__class__")=some true/\PySem.W.mroIn K C (.type "object")=some true /\
 ∀T:String,T∈["int","bool","tuple","list","str","dict"]->PySem.W.kitOne K (.ref C) (.type T)=some false
def qq7(x:List Int×Addr×Value): DictEntry:=⟨reduceHash (Builtin.Tuple.tupleHashOf (x.1.map hashInt)),.ref x.2.1,x.2.2⟩
def DE(a:Addr)(xs:List (List Int×Addr×Value))(ep:Nat)(h:Heap): Prop:=∃o es,h.get? a=some o/\o.ExactDict/\o.data=.dict es ep/\es.toList=xs.map qq7
def qto(x:(List Int×List Int)×Addr×Value): DictEntry:=⟨reduceHash (Builtin.Tuple.tupleHashOf [reduceHash (Builtin.Tuple.tupleHashOf (x.1.1.map hashInt)),reduceHash (Builtin.Tuple.tupleHashOf (x.1.2.map hashInt))]),.ref x.2.1,x.2.2⟩
def DE2(a:Addr)(xs:List ((List Int×List Int)×Addr×Value))(ep:Nat)(h:Heap): Prop:=∃o es,h.get? a=some o/\o.ExactDict/\o.data=.dict es ep/\es.toList=xs.map qto
def SqP(K:Frag)(H:Hp)(a:Addr)(k:List Int×List Int): Prop:=∃p q,SqT K H a [.ref p,.ref q]/\SqT K H p (k.1.map V.int)/\SqT K H q (k.2.map V.int)
def XF(H:Hp): Option Addr->Option (Str×Int)->Prop
 | none,none=>True
 | some dx,some p=>H dx=some (.xd [(p.1,.int p.2)])
 | _,_=>False
theorem XF.mono{H H':Hp}(e:Same H H'): ∀ {od:Option Addr} {f:Option (Str×Int)},XF H od f->XF H' od f
 | none,none,_=>trivial
 | some _,some _,h=>e _ _ h
 | none,some _,h=>h
 | some _,none,h=>h
mutual
/-- v stands for the datum in the heap H -/
def Rep(K:Frag)(H:Hp): D->V->Prop
 | .non,v=>v=.non
 | .bl b,v=>v=.bl b
 | .int i,v=>v=.int i
 | .str x,v=>v=.str x
 | .tup ds,v=>∃a xs,v=.ref a/\SqT K H a xs/\RepL K H ds xs
 | .lst ds,v=>∃a xs,v=.ref a/\SqL K H a xs/\RepL K H ds xs
 | .dct ks vs,v=>∃a xs,v=.ref a/\H a=some (.dK (ks.zip xs))/\ks.length=xs.length/\RepL K H vs xs
 | .dtt ks vs,v=>∃a xs ys ep,v=.ref a/\H a=some (.ext (DE a xs ep))/\xs.map (·.1)=ks/\ks.Nodup/\xs.length<=sizeLine/\(a==sysModules)=false/\(∀x∈xs,SqT K H x.2.1 (x.1.map V.int))/\Vals ys (xs.map fun x=>x.2.2)/\RepL K H vs ys
 | .dt2 ks,v=>∃a xs ep,v=.ref a/\H a=some (.ext (DE2 a xs ep))/\xs.map (·.1)=ks/\ks.Nodup/\xs.length<=sizeLine/\(a==sysModules)=false/\∀x∈xs,SqP K H x.2.1 x.1
 | .obj x,v=>∃a dx C,v=.ref a/\H a=some (.ins C dx [])/\PySem.W.nsIn K mainGlobals x=some (some (.ref C))/\qky K C
 | .exc x f,v=>∃a C,v=.ref a/\(∃od,H a=some (.ext (XE a C od))/\XF H od f)/\PySem.W.nsIn K mainGlobals x=some (some (.ref C))/\q4b K C
def RepL(K:Frag)(H:Hp): List D->List V->Prop
 | [],xs=>xs=[]
 | d :: ds,xs=>∃x r,xs=x :: r/\Rep K H d x/\RepL K H ds r
end
theorem qu{K:Frag}{H H':Hp}{a:Addr}{xs:List V}(e:Same H H')(h:SqT K H a xs): SqT K H' a xs:=by
 rcases h with(h|⟨o,h⟩)|h
 ·exact .inl (.inl (e _ _ h))
 ·exact .inl (.inr ⟨o,e _ _ h⟩)
 ·exact .inr h
theorem SqP.mono{K:Frag}{H H':Hp}{a:Addr}{k:List Int×List Int}(e:Same H H')(h:SqP K H a k): SqP K H' a k:=by
 obtain⟨p,q,h1,h2,h3⟩:=h;exact⟨p,q,qu e h1,qu e h2,qu e h3⟩
mutual
theorem Rep.mono{K:Frag}{H H':Hp}(e:Same H H'): ∀ {d:D} {v:V},Rep K H d v->Rep K H' d v
 | .non,v,h=>by simpa only [Rep] using h
 | .bl b,v,h=>by simpa only [Rep] using h
 | .int i,v,h=>by simpa only [Rep] using h
 | .str x,v,h=>by simpa only [Rep] using h
 | .tup ds,v,h=>by
  simp only [Rep] at h ⊢;obtain⟨a,xs,e1,e2,e3⟩:=h;exact⟨a,xs,e1,qu e e2,RepL.mono e e3⟩
 | .lst ds,v,h=>by
  simp only [Rep] at h ⊢;obtain⟨a,xs,e1,e2,e3⟩:=h;exact⟨a,xs,e1,e.seq e2,RepL.mono e e3⟩
 | .dct ks vs,v,h=>by
  simp only [Rep] at h ⊢;obtain⟨a,xs,e1,e2,e3,e4⟩:=h;exact⟨a,xs,e1,e _ _ e2,e3,RepL.mono e e4⟩
 | .dtt ks vs,v,h=>by
  simp only [Rep] at h ⊢;obtain⟨a,xs,ys,ep,e1,e2,e3,e4,e5,e6,e7,e8,e9⟩:=h;exact⟨a,xs,ys,ep,e1,e _ _ e2,e3,e4,e5,e6,fun x hx=>qu e (e7 x hx),e8,RepL.mono e e9⟩
 | .dt2 ks,v,h=>by
  simp only [Rep] at h ⊢;obtain⟨a,xs,ep,e1,e2,e3,e4,e5,e6,e7⟩:=h;exact⟨a,xs,ep,e1,e _ _ e2,e3,e4,e5,e6,fun x hx=>(e7 x hx).mono e⟩
 | .obj x,v,h=>by
  simp only [Rep] at h ⊢;obtain⟨a,dx,C,e1,e2,e3⟩:=h;exact⟨a,dx,C,e1,e _ _ e2,e3⟩
 | .exc x f,v,h=>by
  simp only [Rep] at h ⊢;obtain⟨a,C,e1,⟨od,e2,e4⟩,e3⟩:=h;exact⟨a,C,e1,⟨od,e _ _ e2,e4.mono e⟩,e3⟩
theorem RepL.mono{K:Frag}{H H':Hp}(e:Same H H'): ∀ {ds:List D} {xs:List V},RepL K H ds xs->RepL K H' ds xs
 | [],xs,h=>by simpa only [RepL] using h
 | d :: ds,xs,h=>by
  simp only [RepL] at h ⊢;obtain⟨x,r,e1,e2,e3⟩:=h;exact⟨x,r,e1,Rep.mono e e2,RepL.mono e e3⟩
end
section
variable{K:Frag}{H:Hp}
theorem RepL.nil:RepL K H [] []:=by simp only [RepL]
theorem RepL.cons{d:D}{ds:List D}{x:V}{xs:List V}(h:Rep K H d x)(t:RepL K H ds xs): RepL K H (d :: ds) (x :: xs):=by
 simp only [RepL];exact⟨x,xs,rfl,h,t⟩
theorem RepL.nil_inv{xs:List V}(h:RepL K H [] xs): xs=[]:=by simpa only [RepL] using h
theorem RepL.cons_inv{d:D}{ds:List D}{xs:List V}(h:RepL K H (d :: ds) xs): ∃x r,xs=x :: r/\Rep K H d x/\RepL K H ds r:=by simpa only [RepL] using h
theorem RepL.length:∀ {ds:List D} {xs:List V},RepL K H ds xs->ds.length=xs.length
 | [],xs,h=>by rw [h.nil_inv];rfl
 | d :: ds,xs,h=>by
  obtain⟨x,r,rfl,_,t⟩:=h.cons_inv;simp [RepL.length t]
theorem RepL.append:∀ {ds es:List D} {xs ys:List V},RepL K H ds xs->RepL K H es ys->RepL K H (ds++es) (xs++ys)
 | [],es,xs,ys,h,t=>by rw [h.nil_inv];exact t
 | d :: ds,es,xs,ys,h,t=>by
  obtain⟨x,r,rfl,h1,h2⟩:=h.cons_inv;exact .cons h1 (RepL.append h2 t)
theorem RepL.get:∀ {ds:List D} {xs:List V} {i:Nat} {d:D},RepL K H ds xs->ds[i]? = some d->∃x,xs[i]? = some x/\Rep K H d x
 | [],xs,i,d,h,e=>by simp at e
 | d :: ds,xs,0,d',h,e=>by
  obtain⟨x,r,rfl,h1,h2⟩:=h.cons_inv;simp at e;subst e;exact⟨x,rfl,h1⟩
 | d :: ds,xs,i+1,d',h,e=>by
  obtain⟨x,r,rfl,h1,h2⟩:=h.cons_inv;obtain⟨y,e1,e2⟩:=RepL.get (i:=i) h2 (by simpa using e);exact⟨y,by simpa using e1,e2⟩
theorem RepL.take:∀ {ds:List D} {xs:List V} (n:Nat),RepL K H ds xs->RepL K H (ds.take n) (xs.take n)
 | _,_,0,_=>by simp only [List.take_zero];exact .nil
 | [],xs,n+1,h=>by rw [h.nil_inv];exact .nil
 | d :: ds,xs,n+1,h=>by
  obtain⟨x,r,rfl,h1,h2⟩:=h.cons_inv;exact .cons h1 (RepL.take n h2)
theorem RepL.drop:∀ {ds:List D} {xs:List V} (n:Nat),RepL K H ds xs->RepL K H (ds.drop n) (xs.drop n)
 | ds,xs,0,h=>by simpa only [g50] using h
 | [],xs,n+1,h=>by rw [h.nil_inv];exact .nil
 | d :: ds,xs,n+1,h=>by
  obtain⟨x,r,rfl,h1,h2⟩:=h.cons_inv;exact RepL.drop n h2
theorem RepL.ints:∀ {ns:List Int} {xs:List V},RepL K H (ns.map D.int) xs↔xs=ns.map V.int
 | [],xs=>by simp only [u7,RepL]
 | n :: ns,xs=>by
  simp only [gh,RepL]
  constructor
  ·rintro⟨x,r,rfl,h1,h2⟩
   simp only [Rep] at h1;rw [h1,RepL.ints.mp h2]
  ·rintro rfl
   exact⟨_,_,rfl,by simp only [Rep],RepL.ints.mpr rfl⟩
theorem rep_int{i:Int}{v:V}: Rep K H (.int i) v↔v=.int i:=by simp only [Rep]
theorem rep_bl{i:Bool}{v:V}: Rep K H (.bl i) v↔v=.bl i:=by simp only [Rep]
theorem rep_str{i:Str}{v:V}: Rep K H (.str i) v↔v=.str i:=by simp only [Rep]
theorem rep_non{v:V}: Rep K H .non v↔v=.non:=by simp only [Rep]
theorem rep_tup{ds:List D}{v:V}: Rep K H (.tup ds) v↔∃a xs,v=.ref a/\SqT K H a xs/\RepL K H ds xs:=by simp only [Rep]
theorem rep_lst{ds:List D}{v:V}: Rep K H (.lst ds) v↔∃a xs,v=.ref a/\SqL K H a xs/\RepL K H ds xs:=by simp only [Rep]
theorem rep_dct{ks:List Key}{vs:List D}{v:V}: Rep K H (.dct ks vs) v↔∃a xs,v=.ref a/\H a=some (.dK (ks.zip xs))/\ks.length=xs.length/\RepL K H vs xs:=by simp only [Rep]
theorem rep_dtt{ks:List (List Int)}{vs:List D}{v:V}: Rep K H (.dtt ks vs) v↔∃a xs ys ep,v=.ref a/\H a=some (.ext (DE a xs ep))/\xs.map (·.1)=ks/\ks.Nodup/\xs.length<=sizeLine/\(a==sysModules)=false/\(∀x∈xs,SqT K H x.2.1 (x.1.map V.int))/\Vals ys (xs.map fun x=>x.2.2)/\RepL K H vs ys:=by simp only [Rep]
theorem rep_dt2{ks:List (List Int×List Int)}{v:V}: Rep K H (.dt2 ks) v↔∃a xs ep,v=.ref a/\H a=some (.ext (DE2 a xs ep))/\xs.map (·.1)=ks/\ks.Nodup/\xs.length<=sizeLine/\(a==sysModules)=false/\∀x∈xs,SqP K H x.2.1 x.1:=by simp only [Rep]
theorem rep_exc{x:Str}{f:Option (Str×Int)}{v:V}: Rep K H (.exc x f) v↔∃a C,v=.ref a/\(∃od,H a=some (.ext (XE a C od))/\XF H od f)/\PySem.W.nsIn K mainGlobals x=some (some (.ref C))/\q4b K C:=by simp only [Rep]
theorem rep_obj{x:Str}{v:V}: Rep K H (.obj x) v↔∃a dx C,v=.ref a/\H a=some (.ins C dx [])/\PySem.W.nsIn K mainGlobals x=some (some (.ref C))/\qky K C:=by simp only [Rep]
end
class Lam where
 tab:List (Addr×Str)
class Pin where
 pin:Option Addr
instance (priority:=low) pin0:Pin:=⟨none⟩
variable[Lam][Pin]
def Tab(H:Hp): Prop:=∀p∈Lam.tab,∃ps,H p.1=some (.tbl ps)/\TriplesOk ps.toList/\∀pos cv,codeAmong pos ps.toList=some cv->∃c φ,cv=.ref c/\H c=some (.ext φ)/\∀h, φ h->h.CodeRec (.ref c) p.2
def qkz(F:Hp): Prop:=∀p∈Lam.tab,F p.1=none
theorem Tab.updG{H:Hp}(t:Tab H){p:Addr}{o:HO}(h:∀u,H p=some u->(∀ps,u ≠ .tbl ps)/\∀ φ,u ≠ .ext φ): Tab (upd H p o):=fun q hq=>by
 obtain⟨ps,e,ht,k⟩:=t q hq;refine⟨ps,by rw [qy (fun z=>by subst z;exact(h _ e).1 ps rfl)];exact e,ht,fun pos cv z=>?_⟩;obtain⟨c, φ,e1,e2,e3⟩:=k pos cv z;exact⟨c, φ,e1,by rw [qy (fun z=>by subst z;exact(h _ e2).2 φ rfl)];exact e2,e3⟩
theorem Tab.upd{H:Hp}(t:Tab H){p:Addr}{o:HO}(h:H p=none\/∃xs,H p=some (.lst xs)): Tab (upd H p o):=t.updG fun u e=>by
 rcases h with h|⟨xs,h⟩
 ·rw [h] at e;cases e
 ·rw [h] at e;cases e;exact⟨nofun,nofun⟩
abbrev KO:=(Addr×Addr×List (Str×V)) ⊕ List (Key×V)
def KO.ho:KO->HO
 | .inl u=>.ins u.1 u.2.1 u.2.2
 | .inr k=>.dK k
structure Kept(H H':Hp): Prop where
 lst:∀b xs,H b=some (.lst xs)->H' b=some (.lst xs)
 ext:∀b φ,H b=some (.ext φ)->H' b=some (.ext φ)
 free:∀ {b},H' b=none->H b=none
 tb:Tab H->Tab H'
 dk:∀b (u:KO),H b=some u.ho->H' b=some u.ho
theorem Kept.refl(H:Hp): Kept H H:=⟨fun _ _ e=>e,fun _ _ e=>e,fun e=>e,fun t=>t,fun _ _ e=>e⟩
theorem Kept.trans{H H1 H2:Hp}(a:Kept H H1)(b:Kept H1 H2): Kept H H2:=⟨fun c xs e=>b.lst c xs (a.lst c xs e),fun c φ e=>b.ext c φ (a.ext c φ e),fun e=>a.free (b.free e),fun t=>b.tb (a.tb t),fun c kvs e=>b.dk c kvs (a.dk c kvs e)⟩
theorem Kept.new{H:Hp}{p:Addr}{o:HO}(hp:H p=none): Kept H (upd H p o):=⟨fun b xs e=>by rw [qy (xb e hp)];exact e,fun b φ e=>by rw [qy (xb e hp)];exact e,fun {b} e=>by
 by_cases z:b=p
 ·subst z;exact hp
 ·rw [qy z] at e;exact e,fun t=>t.upd (.inl hp),fun b kvs e=>by rw [qy (xb e hp)];exact e⟩
structure SameT(F H:Hp): Prop where
 s:Same F H
 t:Tab H
 f:qkz F
structure Grow(F H F' H':Hp): Prop where
 ff:Same F F'
 hh:Kept H H'
 fh:Same F' H'
 nw:∀b,F' b≠none->F b≠none\/H b=none
theorem Grow.refl{F H:Hp}(h:Same F H): Grow F H F H:=⟨.refl _,.refl _,h,fun _ h=>.inl h⟩
theorem Grow.trans{F H F1 H1 F2 H2:Hp}(a:Grow F H F1 H1)(b:Grow F1 H1 F2 H2): Grow F H F2 H2:=
 ⟨a.ff.trans b.ff,a.hh.trans b.hh,b.fh,fun c h=>(b.nw c h).elim (fun z=>a.nw c z) fun z=>.inr (a.hh.free z)⟩
theorem q4c{H:Hp}{p:Addr}{o:HO}(h:H p=none): Same H (upd H p o):=fun b u q=>by rw [qy (xb q h)];exact q
theorem qir{F H:Hp}{p:Addr}{o:HO}(h:Same F H): Same (upd F p o) (upd H p o):=fun b u q=>by
 unfold upd at q ⊢
 split
 ·rename_i z;rw [gx z] at q;exact q
 ·rename_i z;rw [m8 z] at q;exact h _ _ q
theorem Grow.new{F H:Hp}{p:Addr}{o:HO}(h:Same F H)(hp:H p=none): Grow F H (upd F p o) (upd H p o):=
 ⟨q4c (h.free hp),.new hp,qir h,fun b hb=>by
  by_cases e:b=p
  ·subst e;exact .inr hp
  ·rw [qy e] at hb;exact .inl hb⟩
theorem Grow.own{F H:Hp}{p:Addr}{o:HO}(h:Same F H)(hp:H p=none): Grow F H F (upd H p o):=
 ⟨.refl _,.new hp,h.trans (q4c hp),fun _ h=>.inl h⟩
inductive B where
 | fz (d:D)
 | ow (ds:List D)
 | od (kvs:Str×List (Str×D))
abbrev Rho:=List (Option B)
def FsR(K:Frag)(F:Hp): List (Str×D)->List (Str×V)->Prop
 | [],vs=>vs=[]
 | p :: fs,vs=>∃v r,vs=(p.1,v) :: r/\Rep K F p.2 v/\FsR K F fs r
omit [Lam] [Pin] in
theorem FsR.mono{K:Frag}{F F':Hp}(s:Same F F'): ∀ {fs:List (Str×D)} {vs:List (Str×V)},FsR K F fs vs->FsR K F' fs vs
 | [],_,h=>h
 | p :: fs,_,⟨v,r,e,h1,h2⟩=>⟨v,r,e,h1.mono s,FsR.mono s h2⟩
structure ODt(K:Frag)(F H H0:Hp)(a:Addr)(bs:List Addr)(kvs:Str×List (Str×D)): Prop where
 nb:bs=[]
 ex:∃C dx vs,H a=some (.ins C dx vs)/\PySem.W.nsIn K mainGlobals kvs.1=some (some (.ref C))/\FsR K F kvs.2 vs
 f:F a=none
 z:H0 a=none
 pn:∀p,Pin.pin=some p->a=p
structure RS(K:Frag)(F0 H0 F H:Hp)(σ : St)(ρ : Rho): Prop where
 t0:Tab H0/\qkz F0
 g:Grow F0 H0 F H
 len : σ.length = ρ.length
 fz:∀(i:Nat) (d:D), ρ[i]? = some (some (.fz d))->∃v, σ[i]? = some (some v)/\Rep K F d v
 ow:∀(i:Nat) (ds:List D), ρ[i]? = some (some (.ow ds))->∃a xs, σ[i]? = some (some (.ref a))/\H a=some (.lst xs)/\F a=none/\H0 a=none/\RepL K F ds xs
 dj:∀(i j:Nat) (ds es:List D) (a:Addr),i≠j -> ρ[i]? = some (some (.ow ds)) -> ρ[j]? = some (some (.ow es)) -> σ[i]? = some (some (.ref a)) -> σ[j]? ≠ some (some (.ref a))
 od:∀(i:Nat) (kvs:Str×List (Str×D)), ρ[i]? = some (some (.od kvs))->∃a bs, σ[i]? = some (some (.ref a))/\ODt K F H H0 a bs kvs/\∀(j:Nat) (es:List D) (b:Addr), ρ[j]? = some (some (.ow es))->b∈bs -> σ[j]? ≠ some (some (.ref b))
 o1:∀(i j:Nat) (k1 k2:Str×List (Str×D)), ρ[i]? = some (some (.od k1)) -> ρ[j]? = some (some (.od k2))->i=j
theorem qnv{F H F' H':Hp}{a:Addr}{o:HO}(g:Grow F H F' H')(h1:F a=none)(h2:H a=some o): F' a=none:=by
 cases q:F' a with
 | none=>rfl
 | some o=>
  rcases g.nw a (by rw [q];simp) with z|z
  ·exact absurd h1 z
  ·rw [h2] at z;cases z
theorem ODt.mem{K:Frag}{F H H0:Hp}{a:Addr}{bs:List Addr}{kvs:Str×List (Str×D)}(o:ODt K F H H0 a bs kvs){b:Addr}(h:b∈bs): ∃xs,H b=some (.lst xs)/\F b=none/\H0 b=none:=by
 rw [o.nb] at h;cases h
theorem ODt.nl{K:Frag}{F H H0:Hp}{a:Addr}{bs:List Addr}{kvs:Str×List (Str×D)}(o:ODt K F H H0 a bs kvs){xs:List V}(h:H a=some (.lst xs)): False:=by
 obtain⟨C,dx,vs,e,_⟩:=o.ex;rw [h] at e;cases e
theorem ODt.grow{K:Frag}{F H F' H' H0:Hp}{a:Addr}{bs:List Addr}{kvs:Str×List (Str×D)}(o:ODt K F H H0 a bs kvs)(g:Grow F H F' H'): ODt K F' H' H0 a bs kvs:=by
 obtain⟨C,dx,vs,e1,e2,e3⟩:=o.ex;exact⟨o.nb,⟨C,dx,vs,g.hh.dk a (.inl (C,dx,_)) e1,e2,e3.mono g.ff⟩,qnv g o.f e1,o.z,o.pn⟩
theorem ODt.other{K:Frag}{F H H0:Hp}{a p:Addr}{bs:List Addr}{kvs:Str×List (Str×D)}{u:HO}(o:ODt K F H H0 a bs kvs)(h1:p≠a)(h2:p∉bs): ODt K F (upd H p u) H0 a bs kvs:=by
 obtain⟨C,dx,vs,e1,e2,e3⟩:=o.ex;exact⟨o.nb,⟨C,dx,vs,by rw [qy (m5 h1)];exact e1,e2,e3⟩,o.f,o.z,o.pn⟩
theorem ODt.otherF{K:Frag}{F H H0:Hp}{a p:Addr}{bs:List Addr}{kvs:Str×List (Str×D)}{u:HO}(o:ODt K F H H0 a bs kvs)(hs:Same F (upd F p u))(h1:p≠a)(h2:p∉bs): ODt K (upd F p u) H H0 a bs kvs:=by
 obtain⟨C,dx,vs,e1,e2,e3⟩:=o.ex;exact⟨o.nb,⟨C,dx,vs,e1,e2,e3.mono hs⟩,by rw [qy (m5 h1)];exact o.f,o.z,o.pn⟩
section
variable{K:Frag}{F0 H0 F H F' H':Hp}{σ : St}{ρ : Rho}
theorem RS.fh(r:RS K F0 H0 F H σ ρ): Same F H:=r.g.fh
theorem RS.tab(r:RS K F0 H0 F H σ ρ): Tab H:=r.g.hh.tb r.t0.1
theorem RS.tabF(r:RS K F0 H0 F H σ ρ): qkz F:=fun p hp=>by
 cases q:F p.1 with
 | none=>rfl
 | some o=>
  rcases r.g.nw p.1 (by rw [q];simp) with z|z
  ·exact absurd (r.t0.2 p hp) z
  ·obtain⟨ps,e,_⟩:=r.t0.1 p hp
   rw [e] at z;cases z
theorem RS.grow(r:RS K F0 H0 F H σ ρ)(g:Grow F H F' H'): RS K F0 H0 F' H' σ ρ where
 t0:=r.t0
 g:=r.g.trans g
 len:=r.len
 fz:=fun i d e=>let⟨v,e1,e2⟩:=r.fz i d e; ⟨v,e1,e2.mono g.ff⟩
 ow:=fun i ds e=>by
  obtain⟨a,xs,e1,e2,e3,e4,e5⟩:=r.ow i ds e;refine⟨a,xs,e1,g.hh.lst _ _ e2,?_,e4,e5.mono g.ff⟩;cases q:F' a with
  | none=>rfl
  | some o=>
   rcases g.nw a (by rw [q];simp) with z|z
   ·exact absurd e3 z
   ·rw [e2] at z;cases z
 dj:=r.dj
 od:=fun i kvs e=>let⟨a,bs,e1,e2,e3⟩:=r.od i kvs e; ⟨a,bs,e1,e2.grow g,e3⟩
 o1:=r.o1
theorem RS.sameT(r:RS K F0 H0 F H σ ρ)(g:Grow F H F' H'): SameT F' H':=⟨g.fh,(r.grow g).tab,(r.grow g).tabF⟩
theorem za{α : Type}{l:List α}{i:Nat}{x y : α}(h:(l.set i x)[i]? = some y): y=x/\i<l.length:=by
 rw [g28] at h;simp only [pz] at h
 split at h
 ·exact⟨(mi h).symm,by assumption⟩
 ·cases h
theorem RS.set(r:RS K F0 H0 F H σ ρ){d:D}{v:V}(i:Nat)(h:Rep K F d v): RS K F0 H0 F H (σ.set i (some v)) (ρ.set i (some (.fz d))) where
 t0:=r.t0
 g:=r.g
 len:=by rw [u6,u6];exact r.len
 fz:=fun j e h1=>by
  by_cases q:j=i
  ·subst q
   obtain⟨z,l⟩:=za h1;cases z;exact⟨v,by rw [g28];simp [r.len,l],h⟩
  ·rw [gc (m5 q)] at h1 ⊢
   exact r.fz j e h1
 ow:=fun j ds h1=>by
  by_cases q:j=i
  ·subst q
   obtain⟨z,l⟩:=za h1;cases z
  ·rw [gc (m5 q)] at h1 ⊢
   exact r.ow j ds h1
 dj :=fun j k ds es a hjk h1 h2 h3=>by
  by_cases q:j=i
  ·subst q
   obtain⟨z,l⟩:=za h1;cases z
  ·by_cases q2:k=i
   ·subst q2
    obtain⟨z,l⟩:=za h2;cases z
   ·rw [gc (m5 q)] at h1 h3
    rw [gc (m5 q2)] at h2 ⊢;exact r.dj j k ds es a hjk h1 h2 h3
 od :=fun j kvs h1=>by
  by_cases q:j=i
  ·subst q
   obtain⟨z,l⟩:=za h1;cases z
  ·rw [gc (m5 q)] at h1 ⊢
   obtain⟨a,bs,e1,e2,e3⟩:=r.od j kvs h1;refine⟨a,bs,e1,e2,fun k es b h2 h3=>?_⟩
   by_cases q2:k=i
   ·subst q2
    obtain⟨z,l⟩:=za h2;cases z
   ·rw [gc (m5 q2)] at h2 ⊢
    exact e3 k es b h2 h3
 o1 :=fun j k k1 k2 h1 h2=>by
  by_cases q:j=i
  ·subst q
   obtain⟨z,l⟩:=za h1;cases z
  ·by_cases q2:k=i
   ·subst q2
    obtain⟨z,l⟩:=za h2;cases z
   ·rw [gc (m5 q)] at h1
    rw [gc (m5 q2)] at h2;exact r.o1 j k k1 k2 h1 h2
theorem RS.setO(r:RS K F0 H0 F H σ ρ){ds:List D}{xs:List V}{a:Addr}(i:Nat)(h1:H a=some (.lst xs))(h2:F a=none)(h3:H0 a=none)(h4:RepL K F ds xs)
  (h5:∀(j:Nat) (es:List D), ρ[j]? = some (some (.ow es)) -> σ[j]? ≠ some (some (.ref a)))
  (h6:∀(j:Nat) (kvs:Str×List (Str×D)), ρ[j]? = some (some (.od kvs))->∃a' bs, σ[j]? = some (some (.ref a'))/\ODt K F H H0 a' bs kvs/\a∉bs/\∀(j':Nat) (es:List D) (b:Addr), ρ[j']? = some (some (.ow es))->b∈bs -> σ[j']? ≠ some (some (.ref b))):RS K F0 H0 F H (σ.set i (some (.ref a))) (ρ.set i (some (.ow ds))) where
 t0:=r.t0
 g:=r.g
 len:=by rw [u6,u6];exact r.len
 fz:=fun j e q1=>by
  by_cases q:j=i
  ·subst q
   obtain⟨z,l⟩:=za q1;cases z
  ·rw [gc (m5 q)] at q1 ⊢
   exact r.fz j e q1
 ow:=fun j es q1=>by
  by_cases q:j=i
  ·subst q
   obtain⟨z,l⟩:=za q1;cases z;exact⟨a,xs,by rw [g28];simp [r.len,l],h1,h2,h3,h4⟩
  ·rw [gc (m5 q)] at q1 ⊢
   exact r.ow j es q1
 dj :=fun j k ds' es b hjk q1 q2 q3=>by
  by_cases q:j=i
  ·subst q
   have e3:=za q3;have eb:b=a:=by have:=e3.1;simpa using this
   subst eb;rw [gc hjk] at q2 ⊢;exact h5 k es q2
  ·rw [gc (m5 q)] at q1 q3
   by_cases q4:k=i
   ·subst q4
    intro z;have eb:b=a:=by have:=(za z).1;simpa using this
    subst eb;exact h5 j ds' q1 q3
   ·rw [gc (m5 q4)] at q2 ⊢
    exact r.dj j k ds' es b hjk q1 q2 q3
 od :=fun j kvs q1=>by
  by_cases q:j=i
  ·subst q
   obtain⟨z,l⟩:=za q1;cases z
  ·rw [gc (m5 q)] at q1 ⊢
   obtain⟨a',bs,e1,e2,e3,e4⟩:=h6 j kvs q1;refine⟨a',bs,e1,e2,fun k es b p1 p2 p3=>?_⟩
   by_cases q2:k=i
   ·subst q2
    have eb:b=a:=by have:=(za p3).1;simpa using this
    exact e3 (eb ▸ p2)
   ·rw [gc (m5 q2)] at p1 p3
    exact e4 k es b p1 p2 p3
 o1 :=fun j k k1 k2 p1 p2=>by
  by_cases q:j=i
  ·subst q
   obtain⟨z,l⟩:=za p1;cases z
  ·by_cases q2:k=i
   ·subst q2
    obtain⟨z,l⟩:=za p2;cases z
   ·rw [gc (m5 q)] at p1
    rw [gc (m5 q2)] at p2;exact r.o1 j k k1 k2 p1 p2
theorem RS.wrt(r:RS K F0 H0 F H σ ρ){ds es:List D}{ys:List V}{a:Addr}{i:Nat}(h1 : ρ[i]? = some (some (.ow ds)))(h2 : σ[i]? = some (some (.ref a)))(h4:RepL K F es ys):
  RS K F0 H0 F (upd H a (.lst ys)) σ (ρ.set i (some (.ow es))):=by
 obtain⟨a',xs,e1,e2,e3,e4,e5⟩:=r.ow i ds h1;rw [h2] at e1;obtain rfl:a=a':=by simpa using e1
 have nF:∀b o,F b=some o->b≠a:=fun b o e z=>by subst z;rw [e3] at e;cases e
 exact {
  t0:=r.t0
  g :=⟨r.g.ff,⟨fun b o e=>by rw [qy (fun z=>by subst z;rw [e4] at e;cases e)];exact r.g.hh.lst b o e,fun b o e=>by rw [qy (fun z=>by subst z;rw [e4] at e;cases e)];exact r.g.hh.ext b o e,fun {b} e=>by
    by_cases z:b=a
    ·subst z;exact e4
    ·rw [qy z] at e;exact r.g.hh.free e,fun t=>(r.g.hh.tb t).upd (.inr ⟨_,e2⟩),fun b o e=>by rw [qy (fun z=>by subst z;rw [e4] at e;cases e)];exact r.g.hh.dk b o e⟩,fun b o e=>by rw [qy (nF b o e)];exact r.g.fh b o e,r.g.nw⟩
  len:=by rw [u6];exact r.len
  fz:=fun j e q1=>by
   by_cases q:j=i
   ·subst q
    obtain⟨z,l⟩:=za q1;cases z
   ·rw [gc (m5 q)] at q1
    exact r.fz j e q1
  ow :=fun j es' q1=>by
   by_cases q:j=i
   ·subst q
    obtain⟨z,l⟩:=za q1;cases z;exact⟨a,ys,h2,z9,e3,e4,h4⟩
   ·rw [gc (m5 q)] at q1
    obtain⟨b,zs,f1,f2,f3,f4,f5⟩:=r.ow j es' q1;have hb:b≠a:=fun z=>by
     subst z;exact r.dj i j ds es' b (m5 q) h1 q1 h2 f1
    exact⟨b,zs,f1,by rw [qy hb];exact f2,f3,f4,f5⟩
  dj:=fun j k ds' es' b hjk q1 q2 q3=>by
   have back:∀(l:Nat) (us:List D),(ρ.set i (some (.ow es)))[l]? = some (some (.ow us))->∃ws, ρ[l]? = some (some (.ow ws)):=fun l us z=>by
    by_cases q:l=i
    ·subst q;exact⟨ds,h1⟩
    ·rw [gc (m5 q)] at z;exact⟨us,z⟩
   obtain⟨w1,z1⟩:=back j ds' q1;obtain⟨w2,z2⟩:=back k es' q2;exact r.dj j k w1 w2 b hjk z1 z2 q3
  od:=fun j kvs q1=>by
   by_cases q:j=i
   ·subst q
    obtain⟨z,l⟩:=za q1;cases z
   ·rw [gc (m5 q)] at q1
    obtain⟨a',bs,f1,f2,f3⟩:=r.od j kvs q1;refine⟨a',bs,f1,f2.other (fun z=>by subst z;exact f2.nl e2) fun z=>f3 i ds a h1 z h2,fun k es' b p1 p2=>?_⟩
    by_cases q2:k=i
    ·subst q2;exact f3 k ds b h1 p2
    ·rw [gc (m5 q2)] at p1;exact f3 k es' b p1 p2
  o1 :=fun j k k1 k2 p1 p2=>by
   have back:∀(l:Nat) (us),(ρ.set i (some (.ow es)))[l]? = some (some (.od us)) -> ρ[l]? = some (some (.od us)):=fun l us z=>by
    by_cases q:l=i
    ·subst q
     obtain⟨z',_⟩:=za z;cases z'
    ·rw [gc (m5 q)] at z;exact z
   exact r.o1 j k k1 k2 (back _ _ p1) (back _ _ p2)}
theorem RS.freeze(r:RS K F0 H0 F H σ ρ){ds:List D}{i:Nat}(h1 : ρ[i]? = some (some (.ow ds))): ∃F',Same F F'/\RS K F0 H0 F' H σ (ρ.set i (some (.fz (.lst ds)))):=by
 obtain⟨a,xs,e1,e2,e3,e4,e5⟩:=r.ow i ds h1;have sF:Same F (upd F a (.lst xs)):=q4c e3;refine⟨upd F a (.lst xs),sF,?_⟩;exact {
  t0:=r.t0
  g :=⟨r.g.ff.trans sF,r.g.hh,fun b o e=>by
    by_cases q:b=a
    ·subst q;rw [z9] at e;cases e;exact e2
    ·rw [qy q] at e;exact r.g.fh b o e,fun b hb=>by
    by_cases q:b=a
    ·subst q;exact .inr e4
    ·rw [qy q] at hb;exact r.g.nw b hb⟩
  len:=by rw [u6];exact r.len
  fz:=fun j e q1=>by
   by_cases q:j=i
   ·subst q
    obtain⟨z,l⟩:=za q1;cases z;exact⟨_,e1,rep_lst.mpr ⟨a,xs,rfl,SqL.of z9,e5.mono sF⟩⟩
   ·rw [gc (m5 q)] at q1
    obtain⟨v,z1,z2⟩:=r.fz j e q1;exact⟨v,z1,z2.mono sF⟩
  ow :=fun j es' q1=>by
   by_cases q:j=i
   ·subst q
    obtain⟨z,l⟩:=za q1;cases z
   ·rw [gc (m5 q)] at q1
    obtain⟨b,zs,f1,f2,f3,f4,f5⟩:=r.ow j es' q1;have hb:b≠a:=fun z=>by
     subst z;exact r.dj i j ds es' b (m5 q) h1 q1 e1 f1
    exact⟨b,zs,f1,f2,by rw [qy hb];exact f3,f4,f5.mono sF⟩
  dj :=fun j k ds' es' b hjk q1 q2 q3=>by
   have back:∀(l:Nat) (us:List D),(ρ.set i (some (.fz (.lst ds))))[l]? = some (some (.ow us)) -> ρ[l]? = some (some (.ow us)):=fun l us z=>by
    by_cases q:l=i
    ·subst q
     obtain⟨z',_⟩:=za z;cases z'
    ·rw [gc (m5 q)] at z;exact z
   exact r.dj j k ds' es' b hjk (back _ _ q1) (back _ _ q2) q3
  od:=fun j kvs q1=>by
   by_cases q:j=i
   ·subst q
    obtain⟨z,l⟩:=za q1;cases z
   ·rw [gc (m5 q)] at q1
    obtain⟨a',bs,f1,f2,f3⟩:=r.od j kvs q1;refine⟨a',bs,f1,f2.otherF sF (fun z=>by subst z;exact f2.nl e2) fun z=>f3 i ds a h1 z e1,fun k es' b p1 p2=>?_⟩
    by_cases q2:k=i
    ·subst q2;exact f3 k ds b h1 p2
    ·rw [gc (m5 q2)] at p1;exact f3 k es' b p1 p2
  o1 :=fun j k k1 k2 p1 p2=>by
   have back:∀(l:Nat) (us),(ρ.set i (some (.fz (.lst ds))))[l]? = some (some (.od us)) -> ρ[l]? = some (some (.od us)):=fun l us z=>by
    by_cases q:l=i
    ·subst q
     obtain⟨z',_⟩:=za z;cases z'
    ·rw [gc (m5 q)] at z;exact z
   exact r.o1 j k k1 k2 (back _ _ p1) (back _ _ p2)}
end
end DL
namespace DL
open PySem PySem.Spec PyProof.Rows L2
variable[Lam][Pin]
abbrev lim:Nat:=1000000
theorem jt{n:Nat}(h:n<=lim): n<=sizeLine:=mh h (by decide)
theorem qad{n:Nat}(h:n<lim): n<sizeLine:=gj h (by decide)
abbrev FE:=Rho->Option D
abbrev FT:=Rho->Option Bool
abbrev FA:=Rho->Option (List D)
inductive Fl where
 | nx|bk|ct
 | rt (d:D)
abbrev FS:=Rho->Option (Fl×Rho)
def tD(K:Frag)(f:FE): TE:=fun σ H Q=>∃F0 H0 F ρ d,RS K F0 H0 F H σ ρ /\ f ρ = some d/\∀v F' H',Grow F H F' H'->Rep K F' d v->Q v H'
def tL(K:Frag)(f:FA): TE:=fun σ H Q=>∃F0 H0 F ρ ds,RS K F0 H0 F H σ ρ /\ f ρ = some ds/\∀a xs F' H',Grow F H F' H'->F' a=none->H a=none->H' a=some (.lst xs)->RepL K F' ds xs->Q (.ref a) H'
def tDT(K:Frag)(f:FT): TT:=fun σ H Q=>∃F0 H0 F ρ b,RS K F0 H0 F H σ ρ /\ f ρ = some b/\∀F' H',Grow F H F' H'->Q b H'
def tDA(K:Frag)(f:FA): TA:=fun σ H Q=>∃F0 H0 F ρ ds,RS K F0 H0 F H σ ρ /\ f ρ = some ds/\∀vs F' H',Grow F H F' H'->RepL K F' ds vs->Q vs H'
def qbc(K:Frag)(F0 H0 F:Hp)(D:Ends)(fl:Fl)(ρ':Rho): Prop:=match fl with
 | .nx=>∀ σ' F' H',Same F F'->RS K F0 H0 F' H' σ' ρ'->D.nx σ' H'
 | .bk=>∀ σ' F' H',Same F F'->RS K F0 H0 F' H' σ' ρ'->D.bk σ' H'
 | .ct=>∀ σ' F' H',Same F F'->RS K F0 H0 F' H' σ' ρ'->D.ct σ' H'
 | .rt d=>∀v σ' F' H',RS K F0 H0 F' H' σ' ρ'->Rep K F' d v->D.rt v H'
def tDS(K:Frag)(f:FS): TS:=fun D σ H=>∃F0 H0 F ρ fl ρ',RS K F0 H0 F H σ ρ /\ f ρ = some (fl, ρ')/\qbc K F0 H0 F D fl ρ'
section
variable{X:Cx}{e:Expr}{pos:Pos}
theorem je{t t':TE}(h:PE X e t)(i:∀ σ H Q,t' σ H Q->t σ H Q): PE X e t':=fun pins s σ H Q I q=>h pins s σ H Q I (i σ H Q q)
theorem qbx{t t':TT}(h:PT X e t)(i:∀ σ H Q,t' σ H Q->t σ H Q): PT X e t':=fun pins s σ H Q I q=>h pins s σ H Q I (i σ H Q q)
theorem qis{es:List Expr}{t t':TA}(h:PA X es t)(i:∀ σ H Q,t' σ H Q->t σ H Q): PA X es t':=fun pos pins s σ H Q I q=>h pos pins s σ H Q I (i σ H Q q)
theorem xy{st:Stmt}{t t':TS}(h:PS X st t)(i:∀D σ H,t' D σ H->t D σ H): PS X st t':=fun pins s σ H D I q=>h pins s σ H D I (i D σ H q)
theorem q6i{st:List Stmt}{t t':TS}(h:PSs X st t)(i:∀D σ H,t' D σ H->t D σ H): PSs X st t':=fun pins s σ H D I q=>h pins s σ H D I (i D σ H q)
def eV(i:Nat): FE:=fun ρ =>match ρ[i]? with
 | some (some (.fz d))=>some d
 | _=>none
def eC(d:D): FE:=fun _=>some d
theorem qnw{i:Nat}{ρ : Rho}{d:D}(h:eV i ρ = some d): ρ[i]? = some (some (.fz d)):=by
 unfold eV at h
 split at h
 ·rename_i e;rw [e,mi h]
 ·cases h
theorem qf{K:Frag}{i:Nat}(h:PE X e (q4a i)): PE X e (tD K (eV i)):=je h fun σ H Q ⟨F0,H0,F, ρ,d,r,hf,q⟩=>by
 obtain⟨v,e1,e2⟩:=r.fz i d (qnw hf);exact⟨v,e1,q v F H (.refl r.fh) e2⟩
theorem q2i{K:Frag}{v:V}{d:D}(h:PE X e (tC v))(hd:∀H,Rep K H d v): PE X e (tD K (eC d)):=je h fun σ H Q ⟨F0,H0,F, ρ,d',r,hf,q⟩=>by
 cases hf;exact q v F H (.refl r.fh) (hd F)
theorem qg{K:Frag}{i j}: PE X (.Constant (.int i) j pos) (tD K (eC (.int i))):=q2i qpb fun _=>rep_int.mpr rfl
theorem ku{K:Frag}{b j}: PE X (.Constant (.bool b) j pos) (tD K (eC (.bl b))):=q2i qrw fun _=>rep_bl.mpr rfl
theorem kv{K:Frag}{j}: PE X (.Constant .none j pos) (tD K (eC .non)):=q2i qpc fun _=>rep_non.mpr rfl
theorem q2j{K:Frag}{x j}: PE X (.Constant (.str x) j pos) (tD K (eC (.str x))):=q2i qpd fun _=>rep_str.mpr rfl
def rD(K:Frag)(op:D->D->Option D): R2:=fun x y H Q=>∃F d1 d2 d,Same F H/\Rep K F d1 x/\Rep K F d2 y/\op d1 d2=some d/\∀v F' H',Grow F H F' H'->Rep K F' d v->Q v H'
def eOp(op:D->D->Option D)(f g:FE): FE:=fun ρ =>(f ρ).bind fun x=>(g ρ).bind fun y=>op x y
theorem two{K:Frag}{f g:FE}{op:D->D->Option D}{σ : St}{H:Hp}{Q:VK}(h:tD K (eOp op f g) σ H Q): tD K f σ H fun x H1=>tD K g σ H1 fun y H2=>rD K op x y H2 Q:=by
 obtain⟨F0,H0,F, ρ,d,r,hf,q⟩:=h;obtain⟨d1,h1,hf⟩:=g8.mp hf;obtain⟨d2,h2,h3⟩:=g8.mp hf;refine⟨F0,H0,F, ρ,d1,r,h1,fun v F1 H1 g1 r1=>⟨F0,H0,F1, ρ,d2,r.grow g1,h2,fun u F2 H2 g2 r2=>?_⟩⟩;exact⟨F2,d1,d2,d,g2.fh,r1.mono g2.ff,r2,h3,fun w F3 H3 g3 r3=>q w F3 H3 (g1.trans (g2.trans g3)) r3⟩
variable{a b:Expr}{f g:FE}
theorem qr{op:Operator}{o:D->D->Option D}(ho:OpR X (binaryOp op) (rD X.K o))(ha:PE X a (tD X.K f))(hb:PE X b (tD X.K g)): PE X (.BinOp a op b pos) (tD X.K (eOp o f g)):=
 je (qmy ho ha hb) fun σ H Q h=>two h
theorem q10{f:Value->Value->Sem Value}{r r':R2}(h:OpR X f r)(i:∀x y H Q,r' x y H Q->r x y H Q): OpR X f r':=fun pins s σ H x y v u Q I rx ry q=>h pins s σ H x y v u Q I rx ry (i x y H Q q)
theorem q5g{f:Value->Value->Sem Value}{K:Frag}{o o':D->D->Option D}(h:OpR X f (rD K o))(h':OpR X f (rD K o')): OpR X f (rD K fun x y=>(o x y).or (o' x y)):=fun pins s σ H x y v u Q I rx ry q=>by
 obtain⟨F,d1,d2,d,q1,q2,q3,q4,q5⟩:=q;have q4:(o d1 d2).or (o' d1 d2)=some d:=q4;cases e:o d1 d2 with
 | some d'=>rw [e] at q4;cases q4;exact h pins s σ H x y v u Q I rx ry ⟨F,d1,d2,_,q1,q2,q3,e,q5⟩
 | none=>rw [e] at q4;exact h' pins s σ H x y v u Q I rx ry ⟨F,d1,d2,d,q1,q2,q3,q4,q5⟩
def oI(C:Int->Int->Bool)(z:Int->Int->Int): D->D->Option D
 | .int i,.int j=>if C i j then some (.int (z i j)) else none
 | _,_=>none
def oB(z:Int->Int->Bool): D->D->Option D
 | .int i,.int j=>some (.bl (z i j))
 | _,_=>none
theorem qf7{C:Int->Int->Bool}{z:Int->Int->Int}{d1 d2 d:D}(h:oI C z d1 d2=some d): ∃i j,d1=.int i/\d2=.int j/\C i j=true/\d=.int (z i j):=by
 cases d1 <;> cases d2 <;> simp only [oI] at h <;> first|(cases h;done)|skip
 split at h
 ·exact⟨_,_,rfl,rfl,by assumption,(mi h).symm⟩
 ·cases h
theorem qnx{z:Int->Int->Bool}{d1 d2 d:D}(h:oB z d1 d2=some d): ∃i j,d1=.int i/\d2=.int j/\d=.bl (z i j):=by
 cases d1 <;> cases d2 <;> simp only [oB] at h <;> first|(cases h;done)|skip
 exact⟨_,_,rfl,rfl,(mi h).symm⟩
theorem q4d{fv:Value->Value->Sem Value}{P:Int->Int->Prop}{C:Int->Int->Bool}{z:Int->Int->Int}(h:OpR X fv (rI P fun i j=>.int (z i j)))(hC:∀i j,C i j=true->P i j): OpR X fv (rD X.K (oI C z)):=
 q10 h fun x y H Q ⟨F,d1,d2,d,q1,q2,q3,q4,q5⟩=>by
  obtain⟨i,j,rfl,rfl,c,rfl⟩:=qf7 q4;exact⟨i,j,rep_int.mp q2,rep_int.mp q3,hC i j c,q5 _ F H (.refl q1) (rep_int.mpr rfl)⟩
theorem q89{fv:Value->Value->Sem Value}{z:Int->Int->Int}(h:OpR X fv (rI0 fun i j=>.int (z i j))): OpR X fv (rD X.K (oI (fun _ _=>true) z)):=
 q10 h fun x y H Q ⟨F,d1,d2,d,q1,q2,q3,q4,q5⟩=>by
  obtain⟨i,j,rfl,rfl,c,rfl⟩:=qf7 q4;exact⟨i,j,rep_int.mp q2,rep_int.mp q3,q5 _ F H (.refl q1) (rep_int.mpr rfl)⟩
theorem qby{fv:Value->Value->Sem Value}{z:Int->Int->Bool}(h:OpR X fv (rI0 fun i j=>.bl (z i j))): OpR X fv (rD X.K (oB z)):=
 q10 h fun x y H Q ⟨F,d1,d2,d,q1,q2,q3,q4,q5⟩=>by
  obtain⟨i,j,rfl,rfl,rfl⟩:=qnx q4;exact⟨i,j,rep_int.mp q2,rep_int.mp q3,q5 _ F H (.refl q1) (rep_bl.mpr rfl)⟩
abbrev oAdd:=oI (fun _ _=>true) fun i j=>i+j
abbrev oSub:=oI (fun _ _=>true) fun i j=>i-j
abbrev oMul:=oI (fun i j=>(decide (-(2 ^ 64)<i)&&decide (i<2 ^ 64)) || (decide (-(2 ^ 64)<j)&&decide (j<2 ^ 64))) fun i j=>i*j
abbrev oDiv:=oI (fun _ j=>decide (0<j)&&decide (j<1073741824)) fun i j=>i / j
abbrev oMod:=oI (fun _ j=>decide (0<j)) fun i j=>i%j
abbrev oShr:=oI (fun _ j=>decide (0<=j)) fun i j=>i / 2 ^ j.toNat
theorem q11{p q:Prop}[Decidable p][Decidable q](h:(decide p&&decide q)=true): p/\q:=by simpa using h
theorem qq8:OpR X (binaryOp .Add) (rD X.K oAdd):=q89 qpp
theorem qq9:OpR X (binaryOp .Sub) (rD X.K oSub):=q89 qpq
theorem qqa:OpR X (binaryOp .Mult) (rD X.K oMul):=q4d qpr fun i j h=>by
 rcases g1p _ _ ▸ h with z|z
 ·exact .inl (q11 z)
 ·exact .inr (q11 z)
theorem q2k:OpR X (binaryOp .FloorDiv) (rD X.K oDiv):=q4d qnj fun i j h=>q11 h
theorem j0:OpR X (binaryOp .Mod) (rD X.K oMod):=q4d qps fun i j h=>uo h
theorem qqb:OpR X (binaryOp .RShift) (rD X.K oShr):=q4d qpv fun i j h=>uo h
abbrev oShl:=oI (fun i j=>decide (0<=j)&&(decide (j<=1000000)&&decide (i.natAbs<2 ^ 64))) fun i j=>i*2 ^ j.toNat
abbrev oPow:=oI (fun i j=>decide (0<=j)&&(decide (j<=1000000)&&decide (i.natAbs<2 ^ 64))) fun i j=>i ^ j.toNat
theorem qbz{p q r:Prop}[Decidable p][Decidable q][Decidable r](h:(decide p&&(decide q&&decide r))=true): p/\q/\r:=by simpa using h
theorem qc0:OpR X (binaryOp .LShift) (rD X.K oShl):=q4d qpu fun i j h=>qbz h
theorem q5h:OpR X (binaryOp .Pow) (rD X.K oPow):=q4d qpt fun i j h=>qbz h
abbrev oLt:=oB fun i j=>decide (i<j)
abbrev oLe:=oB fun i j=>decide (i<=j)
abbrev oGt:=oB fun i j=>decide (j<i)
abbrev oGe:=oB fun i j=>decide (j<=i)
theorem qsg:OpR X (compareOp .Lt) (rD X.K oLt):=qby qs7
theorem q6j:OpR X (compareOp .Gt) (rD X.K oGt):=qby qs8
theorem qbd:OpR X (compareOp .GtE) (rD X.K oGe):=qby qs9
def flD:D->Option V
 | .non=>some .non
 | .bl b=>some (.bl b)
 | .int i=>some (.int i)
 | .str x=>some (.str x)
 | _=>none
theorem q6k{K:Frag}{H:Hp}{d:D}{v u:V}(h:flD d=some u)(r:Rep K H d v): v=u:=by
 cases d <;> simp only [flD] at h <;> first|(cases h;done)|skip
 ·cases h;exact rep_non.mp r
 ·cases h;exact rep_bl.mp r
 ·cases h;exact rep_int.mp r
 ·cases h;exact rep_str.mp r
def ql0:D->D->Option D:=fun d e=>(flD d).bind fun x=>(flD e).bind fun y=>if q9b x y then some (.bl (decide (x=y))) else none
def q1t:D->D->Option D:=fun d e=>(flD d).bind fun x=>(flD e).bind fun y=>if q9b x y then some (.bl (!decide (x=y))) else none
theorem qqc:OpR X (compareOp .Eq) (rD X.K ql0):=q10 qs5 fun x y H Q ⟨F,d1,d2,d,q1,q2,q3,q4,q5⟩=>by
 obtain⟨u,h1,q4⟩:=g8.mp q4;obtain⟨w,h2,q4⟩:=g8.mp q4;cases q6k h1 q2;cases q6k h2 q3
 split at q4
 ·rename_i z
  cases q4;exact⟨z,q5 _ F H (.refl q1) (rep_bl.mpr rfl)⟩
 ·cases q4
theorem q2l:OpR X (compareOp .NotEq) (rD X.K q1t):=q10 qs6 fun x y H Q ⟨F,d1,d2,d,q1,q2,q3,q4,q5⟩=>by
 obtain⟨u,h1,q4⟩:=g8.mp q4;obtain⟨w,h2,q4⟩:=g8.mp q4;cases q6k h1 q2;cases q6k h2 q3
 split at q4
 ·rename_i z
  cases q4;exact⟨z,q5 _ F H (.refl q1) (rep_bl.mpr rfl)⟩
 ·cases q4
theorem q3u{op:CmpOp}{o:D->D->Option D}(ho:OpR X (compareOp op) (rD X.K o))(ha:PE X a (tD X.K f))(hb:PE X b (tD X.K g))(hm:behindInMarks op b=false:=by first|exact qbp _ (by decide) (by decide)|rfl):
  PE X (.Compare a [op] [b] pos) (tD X.K (eOp o f g)):=je (qnk ho ha hb hm) fun σ H Q h=>two h
def q5i:D->Option Bool
 | .non=>some false
 | .bl b=>some b
 | .int i=>some (i != 0)
 | .tup ds=>some (!ds.isEmpty)
 | .lst ds=>some (!ds.isEmpty)
 | .str x=>if x.length<=lim then some ((x.length:Int) != 0) else none
 | _=>none
def bT(f:FE): FT:=fun ρ =>(f ρ).bind q5i
theorem qqd{K:Frag}{F H:Hp}{d:D}{b:Bool}{v:V}(h:q5i d=some b)(fh:Same F H)(r:Rep K F d v): qki K v H b:=by
 cases d with
 | non=>cases h;rw [rep_non.mp r];rfl
 | bl c=>cases h;rw [rep_bl.mp r];rfl
 | int i=>cases h;rw [rep_int.mp r];rfl
 | str x=>
  simp only [q5i] at h
  split at h
  ·rename_i z
   cases h;rw [rep_str.mp r];exact⟨jt z,rfl⟩
  ·cases h
 | tup ds=>
  cases h;obtain⟨p,xs,rfl,q1,q2⟩:=rep_tup.mp r;refine .inr (.inl ⟨xs,qu fh q1,?_⟩);cases ds with
  | nil=>rw [q2.nil_inv];rfl
  | cons d ds=>obtain⟨y,r',rfl,_⟩:=q2.cons_inv;rfl
 | lst ds=>
  cases h;obtain⟨p,xs,rfl,q1,q2⟩:=rep_lst.mp r;refine .inl ⟨xs,fh.seq q1,?_⟩;cases ds with
  | nil=>rw [q2.nil_inv];rfl
  | cons d ds=>obtain⟨y,r',rfl,_⟩:=q2.cons_inv;rfl
 | dct _ _=>cases h
 | dtt _ _=>cases h
 | dt2 _=>cases h
 | obj _=>cases h
 | exc _ _=>cases h
theorem y0(ha:PE X a (tD X.K f))(he:∀whole,isTrue a X.env whole=(do let v <- whole;standAt a.pos;holding [v] (truthy v)):=by intro _;rfl): PT X a (tDT X.K (bT f)):=
 qbx (qkj ha he) fun σ H Q ⟨F0,H0,F, ρ,b,r,hf,q⟩=>by
  obtain⟨d,h1,h2⟩:=g8.mp hf;exact⟨F0,H0,F, ρ,d,r,h1,fun v F' H' g' r'=>⟨b,qqd h2 g'.fh r',q F' H' g'⟩⟩
def isB:D->Option Bool
 | .bl b=>some b
 | _=>none
def z6(o:D->D->Option D)(f g:FE): FT:=fun ρ =>(eOp o f g ρ).bind isB
theorem zf{op:CmpOp}{o:D->D->Option D}(ho:OpR X (compareOp op) (rD X.K o))(ha:PE X a (tD X.K f))(hb:PE X b (tD X.K g))(hm:behindInMarks op b=false:=by first|exact qbp _ (by decide) (by decide)|rfl):
  PT X (.Compare a [op] [b] pos) (tDT X.K (z6 o f g)):=qbx (qnl ho ha hb hm) fun σ H Q ⟨F0,H0,F, ρ,c,r,hf,q⟩=>by
 obtain⟨d,h1,h2⟩:=g8.mp hf;refine two ⟨F0,H0,F, ρ,d,r,h1,fun v F' H' g' r'=>?_⟩;cases d <;> simp only [isB] at h2 <;> first|(cases h2;done)|skip
 cases h2;exact⟨_,rep_bl.mp r',q F' H' g'⟩
def kl(t:FT): FT:=fun ρ =>(t ρ).map not
def q1u(t u:FT): FT:=fun ρ =>(t ρ).bind fun c=>if c then u ρ else some false
def bOr(t u:FT): FT:=fun ρ =>(t ρ).bind fun c=>if c then some true else u ρ
variable{t u:FT}{rest:List Expr}
theorem q0m(ha:PT X a (tDT X.K t)): PT X (.UnaryOp .Not a pos) (tDT X.K (kl t)):=qbx (qpg ha) fun σ H Q ⟨F0,H0,F, ρ,c,r,hf,q⟩=>by
 obtain⟨d,h1,h2⟩:=gf.mp hf;subst h2;exact⟨F0,H0,F, ρ,d,r,h1,fun F' H' g'=>q F' H' g'⟩
theorem qit{t t':TT}(h:PW X a t)(i:∀ σ H Q,t' σ H Q->t σ H Q): PW X a t':=fun wh pins s σ H Q I q=>h wh pins s σ H Q I (i σ H Q q)
theorem qf8(ha:PT X a (tDT X.K t)): PW X (.BoolOp .And [a] pos) (tDT X.K t):=qnf ha
theorem q0n(ha:PT X a (tDT X.K t)): PW X (.BoolOp .Or [a] pos) (tDT X.K t):=qpe ha
theorem qiu(ha:PT X a (tDT X.K t))(hb:PW X (.BoolOp .And (b :: rest) pos) (tDT X.K u)): PW X (.BoolOp .And (a :: b :: rest) pos) (tDT X.K (q1u t u)):=qit (qpf ha hb) fun σ H Q ⟨F0,H0,F, ρ,c,r,hf,q⟩=>by
 obtain⟨d,h1,h2⟩:=g8.mp hf;refine⟨F0,H0,F, ρ,d,r,h1,fun F' H' g'=>?_⟩;cases d with
 | true=>rw [gx rfl] at h2 ⊢;exact⟨F0,H0,F', ρ,c,r.grow g',h2,fun F2 H2 g2=>q F2 H2 (g'.trans g2)⟩
 | false=>rw [m8 gs] at h2 ⊢;cases h2;exact q F' H' g'
theorem q07(ha:PT X a (tDT X.K t))(hb:PW X (.BoolOp .Or (b :: rest) pos) (tDT X.K u)): PW X (.BoolOp .Or (a :: b :: rest) pos) (tDT X.K (bOr t u)):=qit (qrx ha hb) fun σ H Q ⟨F0,H0,F, ρ,c,r,hf,q⟩=>by
 obtain⟨d,h1,h2⟩:=g8.mp hf;refine⟨F0,H0,F, ρ,d,r,h1,fun F' H' g'=>?_⟩;cases d with
 | false=>rw [m8 gs] at h2 ⊢;exact⟨F0,H0,F', ρ,c,r.grow g',h2,fun F2 H2 g2=>q F2 H2 (g'.trans g2)⟩
 | true=>rw [gx rfl] at h2 ⊢;cases h2;exact q F' H' g'
def q4e(f g:FE): FE:=fun ρ =>(f ρ).bind fun x=>(isB x).bind fun c=>if c then g ρ else some (.bl false)
def eOr(f g:FE): FE:=fun ρ =>(f ρ).bind fun x=>(isB x).bind fun c=>if c then some (.bl true) else g ρ
def qc1(f:FE): FE:=fun ρ =>(f ρ).bind fun x=>(isB x).map fun c=>.bl (!c)
def eIf(t:FT)(f g:FE): FE:=fun ρ =>(t ρ).bind fun c=>if c then f ρ else g ρ
theorem qc2{d:D}{c:Bool}(h:isB d=some c): d=.bl c:=by
 cases d <;> simp only [isB] at h <;> first|(cases h;done)|skip
 rw [mi h]
theorem q8a{op}(h:PE X a (tD X.K f)): PE X (.BoolOp op [a] pos) (tD X.K f):=qph h
theorem q5j(ha:PE X a (tD X.K f))(hb:PE X (.BoolOp .And (b :: rest) pos) (tD X.K g)): PE X (.BoolOp .And (a :: b :: rest) pos) (tD X.K (q4e f g)):=je (qpi ha hb) fun σ H Q ⟨F0,H0,F, ρ,d,r,hf,q⟩=>by
 obtain⟨x,h1,hf⟩:=g8.mp hf;obtain⟨c,h2,h3⟩:=g8.mp hf;refine⟨F0,H0,F, ρ,x,r,h1,fun v F' H' g' r'=>?_⟩;rw [qc2 h2] at r';refine⟨c,rep_bl.mp r',?_⟩;cases c with
 | true=>rw [gx rfl] at h3 ⊢;exact⟨F0,H0,F', ρ,d,r.grow g',h3,fun w F2 H2 g2 r2=>q w F2 H2 (g'.trans g2) r2⟩
 | false=>rw [m8 gs] at h3 ⊢;cases h3;exact q _ F' H' g' (rep_bl.mpr rfl)
theorem qqe(ha:PE X a (tD X.K f)): PE X (.UnaryOp .Not a pos) (tD X.K (qc1 f)):=je (qpj ha) fun σ H Q ⟨F0,H0,F, ρ,d,r,hf,q⟩=>by
 obtain⟨x,h1,hf⟩:=g8.mp hf;obtain⟨c,h2,h3⟩:=gf.mp hf;subst h3;refine⟨F0,H0,F, ρ,x,r,h1,fun v F' H' g' r'=>?_⟩;rw [qc2 h2] at r';exact⟨c,rep_bl.mp r',q _ F' H' g' (rep_bl.mpr rfl)⟩
theorem qsh{c:Expr}(hc:PT X c (tDT X.K t))(ha:PE X a (tD X.K f))(hb:PE X b (tD X.K g)): PE X (.IfExp c a b pos) (tD X.K (eIf t f g)):=je (qkd hc ha hb) fun σ H Q ⟨F0,H0,F, ρ,d,r,hf,q⟩=>by
 obtain⟨x,h1,h2⟩:=g8.mp hf;refine⟨F0,H0,F, ρ,x,r,h1,fun F' H' g'=>?_⟩;cases x with
 | true=>rw [gx rfl] at h2 ⊢;exact⟨F0,H0,F', ρ,d,r.grow g',h2,fun w F2 H2 g2 r2=>q w F2 H2 (g'.trans g2) r2⟩
 | false=>rw [m8 gs] at h2 ⊢;exact⟨F0,H0,F', ρ,d,r.grow g',h2,fun w F2 H2 g2 r2=>q w F2 H2 (g'.trans g2) r2⟩
end
section
variable{X:Cx}{e:Expr}{es:List Expr}{pos:Pos}{f g:FE}{fa:FA}
def notStar:Expr->Bool
 | .Starred _ _=>false
 | _=>true
theorem qf9{e:Expr}{es:List Expr}{env:Env}(h:notStar e=true): starEach (e :: es) env=(false,eval e env) :: starEach es env:=by
 cases e <;> first|rfl|cases h
def qk:FA:=fun _=>some []
def qc(f:FE)(fa:FA): FA:=fun ρ =>(f ρ).bind fun d=>(fa ρ).map fun ds=>d :: ds
theorem qi:PA X [] (tDA X.K qk):=qis yj fun σ H Q ⟨F0,H0,F, ρ,ds,r,hf,q⟩=>by
 cases hf;exact q [] F H (.refl r.fh) .nil
theorem qny(ha:PE X e (tD X.K f))(hr:PA X es (tDA X.K fa))(hs:starEach (e :: es) X.env=(false,eval e X.env) :: starEach es X.env:=by first|exact qf9 rfl|rfl): PA X (e :: es) (tDA X.K (qc f fa)):=
 qis (zr ha hr hs) fun σ H Q ⟨F0,H0,F, ρ,ds,r,hf,q⟩=>by
  obtain⟨d,h1,hf⟩:=g8.mp hf;obtain⟨ds',h2,h3⟩:=gf.mp hf;subst h3;refine⟨F0,H0,F, ρ,d,r,h1,fun v F1 H1 g1 r1=>⟨F0,H0,F1, ρ,ds',r.grow g1,h2,fun vs F2 H2 g2 r2=>?_⟩⟩;exact q _ F2 H2 (g1.trans g2) (.cons (r1.mono g2.ff) r2)
def z8(fa:FA): FE:=fun ρ =>(fa ρ).bind fun ds=>if ds.length<=lim then some (.tup ds) else none
def xq(fa:FA): FA:=fun ρ =>(fa ρ).bind fun ds=>if ds.length<=lim then some ds else none
theorem z7{x1}(h:PA X es (tDA X.K fa)): PE X (.Tuple es x1 pos) (tD X.K (z8 fa)):=je (qii h) fun σ H Q ⟨F0,H0,F, ρ,d,r,hf,q⟩=>by
 obtain⟨ds,h1,h2⟩:=g8.mp hf
 split at h2
 ·rename_i hl
  cases h2;refine⟨F0,H0,F, ρ,ds,r,h1,fun vs F1 H1 g1 r1=>⟨jt (by rw [<- r1.length];exact hl),fun p hp=>?_⟩⟩;have gn:Grow F1 H1 (upd F1 p (.tup vs)) (upd H1 p (.tup vs)):=Grow.new g1.fh hp;exact q _ _ _ (g1.trans gn) (rep_tup.mpr ⟨p,vs,rfl,SqT.of z9,r1.mono gn.ff⟩)
 ·cases h2
theorem jh(h:PA X es (tDA X.K fa)): PE X (.List es pos) (tL X.K (xq fa)):=je (qpy h) fun σ H Q ⟨F0,H0,F, ρ,ds,r,hf,q⟩=>by
 obtain⟨ds',h1,h2⟩:=g8.mp hf
 split at h2
 ·rename_i hl
  cases h2;refine⟨F0,H0,F, ρ,ds,r,h1,fun vs F1 H1 g1 r1=>⟨jt (by rw [<- r1.length];exact hl),fun p hp=>?_⟩⟩;exact q p vs F1 (upd H1 p (.lst vs)) (g1.trans (Grow.own g1.fh hp)) (g1.fh.free hp) (g1.hh.free hp) z9 r1
 ·cases h2
def eL(fa:FA): FE:=fun ρ =>(fa ρ).map .lst
theorem j9(h:PE X e (tL X.K fa)): PE X e (tD X.K (eL fa)):=je h fun σ H Q ⟨F0,H0,F, ρ,d,r,hf,q⟩=>by
 obtain⟨ds,h1,h2⟩:=gf.mp hf;subst h2;refine⟨F0,H0,F, ρ,ds,r,h1,fun a xs F1 H1 g1 fa' ha' hl r1=>?_⟩;have sF:Same F1 (upd F1 a (.lst xs)):=q4c fa';refine q _ (upd F1 a (.lst xs)) H1 ⟨g1.ff.trans sF,g1.hh,fun b o z=>?_,fun b hb=>?_⟩ (rep_lst.mpr ⟨a,xs,rfl,SqL.of z9,r1.mono sF⟩)
 ·by_cases q':b=a
  ·subst q';rw [z9] at z;cases z;exact hl
  ·rw [qy q'] at z;exact g1.fh b o z
 ·by_cases q':b=a
  ·subst q';exact .inr ha'
  ·rw [qy q'] at hb;exact g1.nw b hb
def rC(K:Frag)(op:List D->Option D): List V->Hp->VK->Prop:=fun xs H Q=>∃F ds d,Same F H/\RepL K F ds xs/\op ds=some d/\∀v F' H',Grow F H F' H'->Rep K F' d v->Q v H'
def ql(op:List D->Option D)(fa:FA): FE:=fun ρ =>(fa ρ).bind op
theorem qae{f:Value}{r r':List V->Hp->VK->Prop}(h:xv X f r)(i:∀xs H Q,r' xs H Q->r xs H Q): xv X f r':=fun pins s σ H xs us Q I rv q=>h pins s σ H xs us Q I rv (i xs H Q q)
theorem qiv{K:Frag}{op:List D->Option D}{σ : St}{H:Hp}{Q:VK}(h:tD K (ql op fa) σ H Q): tDA K fa σ H fun vs H1=>rC K op vs H1 Q:=by
 obtain⟨F0,H0,F, ρ,d,r,hf,q⟩:=h;obtain⟨ds,h1,h2⟩:=g8.mp hf;exact⟨F0,H0,F, ρ,ds,r,h1,fun vs F1 H1 g1 r1=>⟨F1,ds,d,g1.fh,r1,h2,fun v F2 H2 g2 r2=>q v F2 H2 (g1.trans g2) r2⟩⟩
theorem ju{x:Str}{p:Pos}{id:String}{op:List D->Option D}(hc:xv X (.builtin id) (rC X.K op))(hg:Gl X x)(hm:X.mg x=none)(hv:bootBuiltins x=some (.builtin id))(ha:PA X (e :: es) (tDA X.K fa))
  (hn:x≠"__name__" :=by decide) (hdb:(x==("__debug__" : Str))=false:=by decide)
  (he:starEach (e :: es) X.env=(false,eval e X.env) :: starEach es X.env:=by rfl) (hpl:(backTo pos (starEach es X.env)).any (·.1)=false:=by rfl):PE X (.Call (.Name x p) (e :: es) [] pos) (tD X.K (ql op fa)):=
 je (q0z hc hg hm hv ha hn hdb he hpl) fun σ H Q h=>qiv h
theorem v3{x:Str}{p:Pos}{T:String}{op:List D->Option D}(hc:xv X (.type T) (rC X.K op))(hg:Gl X x)(hm:X.mg x=none)(hv:bootBuiltins x=some (.type T))(ha:PA X (e :: es) (tDA X.K fa))
  (hn:x≠"__name__" :=by decide) (hdb:(x==("__debug__" : Str))=false:=by decide)
  (he:starEach (e :: es) X.env=(false,eval e X.env) :: starEach es X.env:=by rfl) (hpl:(backTo pos (starEach es X.env)).any (·.1)=false:=by rfl):PE X (.Call (.Name x p) (e :: es) [] pos) (tD X.K (ql op fa)):=
 je (q5e hc hg hm hv ha hn hdb he hpl) fun σ H Q h=>qiv h
def spD(K:Frag)(ar:Nat)(op:List D->Option D): Sp:=fun vs H Q _=>∃F ds d,SameT F H/\RepL K F ds vs/\ds.length=ar/\op ds=some d/\∀v F' H',Grow F H F' H'->Rep K F' d v->Q v H'
def qp(ar:Nat)(dds:List D)(op:List D->Option D): List D->Option D:=fun ds=>if(ds++dds).length=ar then op (ds++dds) else none
theorem qfa{k ar:Nat}{fn:Addr}{fd:FuncData}{ps:List Str}{op:List D->Option D}{x:Str}{p:Pos}{dvs:List V}{dds:List D}{dv:List Value}(F:FnOk X.prog X.w X.K X.mg X.base CX0 k fn fd ps (spD X.K ar op))(hr:Room k X.A)(hg:Gl X x)(hm:X.mg x=some (.ref fn))(hk:PySem.W.keepIn X.K (.ref fn)=true)
  (hb:Binds X.K fd ps dv) (hd:Vals dvs dv) (hdd:∀H,RepL X.K H dds dvs) (ha:PA X (e :: es) (tDA X.K fa)) (hdb:(x==("__debug__" : Str))=false:=by decide)
  (he:starEach (e :: es) X.env=(false,eval e X.env) :: starEach es X.env:=by rfl) (hpl:(backTo pos (starEach es X.env)).any (·.1)=false:=by rfl) :
  PE X (.Call (.Name x p) (e :: es) [] pos) (tD X.K (ql (qp ar dds op) fa)):=
 je (qf5 F hr hg hm hk hb hd qn1 ha hdb he hpl) fun σ H Q ⟨F0,H0,Fz, ρ,d,r,hf,q⟩=>by
  obtain⟨ds,h1,h2⟩:=g8.mp hf;unfold qp at h2
  split at h2
  ·rename_i hl
   exact⟨F0,H0,Fz, ρ,ds,r,h1,fun vs F1 H1 g1 r1=>⟨F1,ds++dds,d,r.sameT g1,r1.append (hdd F1),hl,h2,fun v F2 H2 g2 r2=>q v F2 H2 (g1.trans g2) r2⟩⟩
  ·cases h2
end
section
variable{X:Cx}{st:Stmt}{rest:List Stmt}{e:Expr}{pos:Pos}{f:FE}{fa:FA}{t:FT}{u w:FS}
def xl:FS:=fun ρ =>some (.nx, ρ)
def z0(u w:FS): FS:=fun ρ =>(u ρ).bind fun r=>match r with
 | (.nx, ρ')=>w ρ'
 | (fl, ρ')=>some (fl, ρ')
def sIf(t:FT)(u w:FS): FS:=fun ρ =>(t ρ).bind fun c=>if c then u ρ else w ρ
def zi(i:Nat)(f:FE): FS:=fun ρ =>(f ρ).map fun d=>(.nx, ρ.set i (some (.fz d)))
def q1v(i:Nat)(fa:FA): FS:=fun ρ =>(fa ρ).map fun ds=>(.nx, ρ.set i (some (.ow ds)))
def zu(f:FE): FS:=fun ρ =>(f ρ).map fun d=>(.rt d, ρ)
def qsi:FS:=fun ρ =>some (.rt .non, ρ)
def qtp:FS:=fun ρ =>some (.bk, ρ)
def qtq:FS:=fun ρ =>some (.ct, ρ)
def q33(f:FE): FS:=fun ρ =>(f ρ).map fun _=>(.nx, ρ)
theorem jw:PSs X [] (tDS X.K xl):=q6i qng fun D σ H ⟨F0,H0,F, ρ,fl, ρ',r,hf,q⟩=>by
 cases hf;exact q σ F H (.refl _) r
theorem q2m{K:Frag}{F0 H0 F F':Hp}{D:Ends}{fl:Fl}{ρ':Rho}(s:Same F F')(h:qbc K F0 H0 F D fl ρ'): qbc K F0 H0 F' D fl ρ':=by
 cases fl with
 | nx=>exact fun σ' F2 H2 s2 r=>h σ' F2 H2 (s.trans s2) r
 | bk=>exact fun σ' F2 H2 s2 r=>h σ' F2 H2 (s.trans s2) r
 | ct=>exact fun σ' F2 H2 s2 r=>h σ' F2 H2 (s.trans s2) r
 | rt d=>exact h
theorem qq(h1:PS X st (tDS X.K u))(h2:PSs X rest (tDS X.K w)): PSs X (st :: rest) (tDS X.K (z0 u w)):=q6i (qbq h1 h2) fun D σ H ⟨F0,H0,F, ρ,fl, ρ',r,hf,q⟩=>by
 obtain⟨⟨fl1, ρ1⟩,h3,h4⟩:=g8.mp hf;refine⟨F0,H0,F, ρ,fl1, ρ1,r,h3,?_⟩;cases fl1 with
 | nx=>exact fun σ' F' H' s r'=>⟨F0,H0,F', ρ1,fl, ρ',r',h4,q2m s q⟩
 | bk=>cases h4;exact q
 | ct=>cases h4;exact q
 | rt d=>cases h4;exact q
theorem qt(h1:PS X st (tDS X.K u)): PSs X [st] (tDS X.K u):=q9a h1
theorem xm{c:Expr}{a b:List Stmt}(hc:PT X c (tDT X.K t))(ha:PSs X a (tDS X.K u))(hb:PSs X b (tDS X.K w)): PS X (.If c a b pos) (tDS X.K (sIf t u w)):=xy (qg1 hc ha hb) fun D σ H ⟨F0,H0,F, ρ,fl, ρ',r,hf,q⟩=>by
 obtain⟨c,h1,h2⟩:=g8.mp hf;refine⟨F0,H0,F, ρ,c,r,h1,fun F' H' g'=>?_⟩;cases c with
 | true=>rw [gx rfl] at h2 ⊢;exact⟨F0,H0,F', ρ,fl, ρ',r.grow g',h2,q2m g'.ff q⟩
 | false=>rw [m8 gs] at h2 ⊢;exact⟨F0,H0,F', ρ,fl, ρ',r.grow g',h2,q2m g'.ff q⟩
theorem ze(he:PE X e (tD X.K f)): PS X (.Return (some e) pos) (tDS X.K (zu f)):=xy (qic he) fun D σ H ⟨F0,H0,F, ρ,fl, ρ',r,hf,q⟩=>by
 obtain⟨d,h1,h2⟩:=gf.mp hf;cases h2;exact⟨F0,H0,F, ρ,d,r,h1,fun v F' H' g' r'=>q v σ F' H' (r.grow g') r'⟩
theorem qfb(he:PE X e (tD X.K f))(hs:swapsWith e none pos.line X.env=pure false:=by rfl): PS X (.Expr e pos) (tDS X.K (q33 f)):=xy (q6g he hs) fun D σ H ⟨F0,H0,F, ρ,fl, ρ',r,hf,q⟩=>by
 obtain⟨d,h1,h2⟩:=gf.mp hf;cases h2;exact⟨F0,H0,F, ρ,d,r,h1,fun v F' H' g' r'=>q σ F' H' g'.ff (r.grow g')⟩
theorem qsj{K:Frag}{i:Nat}{D:Ends}{σ : St}{H:Hp}(h:tDS K (zi i f) D σ H): tD K f σ H fun x H1=>q6h i x σ H1 D.nx:=by
 obtain⟨F0,H0,F, ρ,fl, ρ',r,hf,q⟩:=h;obtain⟨d,h1,h2⟩:=gf.mp hf;cases h2;exact⟨F0,H0,F, ρ,d,r,h1,fun v F' H' g' r'=>q _ F' H' g'.ff ((r.grow g').set i r')⟩
theorem qn2{K:Frag}{i:Nat}{D:Ends}{σ : St}{H:Hp}(h:tDS K (q1v i fa) D σ H): tL K fa σ H fun x H1=>q6h i x σ H1 D.nx:=by
 obtain⟨F0,H0,F, ρ,fl, ρ',r,hf,q⟩:=h;obtain⟨ds,h1,h2⟩:=gf.mp hf;cases h2;refine⟨F0,H0,F, ρ,ds,r,h1,fun a xs F' H' g' fa' ha' hl r'=>q _ F' H' g'.ff ((r.grow g').setO i hl fa' (r.g.hh.free ha') r' (fun j es z1 z2=>?_) fun j kvs z1=>?_)⟩
 ·obtain⟨b,ys,e1,e2,_⟩:=r.ow j es z1
  rw [z2] at e1;obtain rfl:a=b:=by simpa using e1
  rw [ha'] at e2;cases e2
 ·obtain⟨b,bs,e1,e2,e3⟩:=r.od j kvs z1
  refine⟨b,bs,e1,e2.grow g',fun z=>?_,e3⟩;obtain⟨xs,f,_⟩:=e2.mem z;rw [ha'] at f;cases f
theorem zb{i:Nat}{x:Str}{px:Pos}(hN:X.N.Nodup)(hi:X.N[i]? = some x)(hx:Loc X.env.scope x)(he:PE X e (tD X.K f))(hs:swapsWith e (some (.Name x px)) pos.line X.env=pure false:=by rfl)(hf:X.fn x=true\/X.env.scope.names.lookup x=some .local:=by first|exact .inl rfl|exact .inr rfl|assumption):
  PS X (.Assign [.Name x px] e pos) (tDS X.K (zi i f)):=xy (qbr hN hi hx he hs hf) fun D σ H h=>qsj h
theorem q8b{i:Nat}{x:Str}{px:Pos}(hN:X.N.Nodup)(hi:X.N[i]? = some x)(hx:Loc X.env.scope x)(he:PE X e (tL X.K fa))(hs:swapsWith e (some (.Name x px)) pos.line X.env=pure false:=by rfl)(hf:X.fn x=true\/X.env.scope.names.lookup x=some .local:=by first|exact .inl rfl|exact .inr rfl|assumption):
  PS X (.Assign [.Name x px] e pos) (tDS X.K (q1v i fa)):=xy (qbr hN hi hx he hs hf) fun D σ H h=>qn2 h
def q7g(i:Nat)(ρ : Rho): Option (List D):=match ρ[i]? with
 | some (some (.ow ds))=>some ds
 | _=>none
theorem qaf{i:Nat}{ρ : Rho}{ds:List D}(h:q7g i ρ = some ds): ρ[i]? = some (some (.ow ds)):=by
 unfold q7g at h
 split at h
 ·rename_i e;rw [e,mi h]
 ·cases h
def q5k(i:Nat)(f:FE): FS:=fun ρ =>(q7g i ρ).bind fun ds=>(f ρ).bind fun d=>if ds.length<lim then some (.nx, ρ.set i (some (.ow (ds++[d])))) else none
theorem qc3{i:Nat}{x:Str}{px apos cpos:Pos}(hv:PE X (.Name x px) (q4a i))(he:PE X e (tD X.K f))
  (hbase:attributeBase (.Name x px) "append" X.env (eval (.Name x px) X.env)=eval (.Name x px) X.env:=by rfl)
  (hfew:((backTo cpos (starEach [e] X.env)).all (fun x=> !x.1)&&(backToKw cpos (keywordEach [] X.env)).all (fun x=>x.1.isSome)&&decide ([e].length+([]:List Keyword).length+(if([]:List Keyword).isEmpty then 0 else 1)<30))=true:=by rfl)
  (hline:(apos.endLine==cpos.line)=true:=by rfl) (hse:starEach [e] X.env=(false,eval e X.env) :: starEach [] X.env:=by rfl)
  (hs:swapsWith (.Call (.Attribute (.Name x px) "append" apos) [e] [] cpos) none pos.line X.env=pure false:=by rfl):PS X (.Expr (.Call (.Attribute (.Name x px) "append" apos) [e] [] cpos) pos) (tDS X.K (q5k i f)):=
 xy (q6g (qn0 g4i PySem.F.slot_list_append PySem.F.type_list_append qab hv (zr he yj hse) hbase hfew hline hse rfl) hs) fun D σ H ⟨F0,H0,F, ρ,fl, ρ',r,hf,q⟩=>by
  obtain⟨ds,h1,hf⟩:=g8.mp hf;obtain⟨d,h2,h3⟩:=g8.mp hf;have h1:=qaf h1
  split at h3
  ·rename_i hl
   cases h3;obtain⟨a,xs,e1,e2,e3,e4,e5⟩:=r.ow i ds h1;refine⟨.ref a,e1,.inl ⟨rfl,xs,SqL.of e2⟩,F0,H0,F, ρ,d,r,h2,fun v F' H' g' r'=>?_⟩;have r2:=r.grow g';refine⟨a,xs,v,rfl,rfl,g'.hh.lst _ _ e2,qad (by rw [<- e5.length];exact hl),?_⟩;exact q _ F' _ g'.ff (r2.wrt h1 e1 ((e5.mono g'.ff).append (.cons r' .nil)))
  ·cases h3
def frz(i:Nat)(ρ : Rho): Rho:=match ρ[i]? with
 | some (some (.ow ds))=> ρ.set i (some (.fz (.lst ds)))
 | _=> ρ
def q12(i:Nat)(u:FS): FS:=fun ρ =>u (frz i ρ)
theorem qqf{K:Frag}{F0 H0 F H:Hp}{σ : St}{ρ : Rho}(i:Nat)(r:RS K F0 H0 F H σ ρ): ∃F',Same F F'/\RS K F0 H0 F' H σ (frz i ρ):=by
 unfold frz
 split
 ·rename_i ds h
  exact r.freeze h
 ·exact⟨F,.refl _,r⟩
theorem q1g(i:Nat){sts:List Stmt}(h:PSs X sts (tDS X.K u)): PSs X sts (tDS X.K (q12 i u)):=q6i h fun D σ H ⟨F0,H0,F, ρ,fl, ρ',r,hf,q⟩=>by
 obtain⟨F',s',r'⟩:=qqf i r;exact⟨F0,H0,F',frz i ρ,fl, ρ',r',hf,q2m s' q⟩
end
def zj(n:Nat)(u:FS)(ds:List D): Option D:=match u (ds.map (fun d=>some (.fz d))++List.replicate (n-ds.length) none) with
 | some (.rt d,_)=>some d
 | some (.nx,_)=>some .non
 | _=>none
theorem qag{N:List Str}{vs:List V}{i:Nat}{v:V}(h:vs[i]? = some v): (L2.start N vs)[i]? = some (some v):=by
 unfold L2.start;have hi:i<vs.length:=(mj.mp h).1;rw [nt (by simpa using hi),gz,h];rfl
theorem qqg{P:Program}{w:World}{K:Frag}{H:Hp}{vs:List V}{Q:VK}{N:List Str}{u:FS}{ar:Nat}{E:XK}(hl:ar<=N.length)(h:spD K ar (zj N.length u) vs H Q E): tDS K u {nx:=fun _ H'=>Q .non H',rt:=Q} (L2.start N vs) H:=by
 obtain⟨F,ds,d,fh,rl,el,hd,q⟩:=h;have hlen:=rl.length;have r:RS K F H F H (L2.start N vs) (ds.map (fun d=>some (.fz d))++List.replicate (N.length-ds.length) none):={
  t0:=⟨fh.t,fh.f⟩
  g:=.refl fh.s
  len:=by unfold L2.start;simp only [mn,gr,g2l];omega
  fz :=fun i e h1=>by
   by_cases hi:i<ds.length
   ·rw [nt (by simpa using hi),gz] at h1
    cases z:ds[i]? with
    | none=>rw [z] at h1;cases h1
    | some d'=>
     rw [z] at h1;cases h1;obtain⟨v,e1,e2⟩:=rl.get z;exact⟨v,qag e1,e2⟩
   ·rw [p8 (by simpa using hi),pw] at h1
    split at h1 <;> cases h1
  ow:=fun i es h1=>by
   by_cases hi:i<ds.length
   ·rw [nt (by simpa using hi),gz] at h1
    cases z:ds[i]? with
    | none=>rw [z] at h1;cases h1
    | some d'=>rw [z] at h1;cases h1
   ·rw [p8 (by simpa using hi),pw] at h1
    split at h1 <;> cases h1
  dj:=fun i j us es a _ h1=>by
   by_cases hi:i<ds.length
   ·rw [nt (by simpa using hi),gz] at h1
    cases z:ds[i]? with
    | none=>rw [z] at h1;cases h1
    | some d'=>rw [z] at h1;cases h1
   ·rw [p8 (by simpa using hi),pw] at h1
    split at h1 <;> cases h1
  od:=fun i kvs h1=>by
   by_cases hi:i<ds.length
   ·rw [nt (by simpa using hi),gz] at h1
    cases z:ds[i]? with
    | none=>rw [z] at h1;cases h1
    | some d'=>rw [z] at h1;cases h1
   ·rw [p8 (by simpa using hi),pw] at h1
    split at h1 <;> cases h1
  o1:=fun i j k1 k2 h1=>by
   by_cases hi:i<ds.length
   ·rw [nt (by simpa using hi),gz] at h1
    cases z:ds[i]? with
    | none=>rw [z] at h1;cases h1
    | some d'=>rw [z] at h1;cases h1
   ·rw [p8 (by simpa using hi),pw] at h1
    split at h1 <;> cases h1}
 unfold zj at hd;cases z:u (ds.map (fun d=>some (.fz d))++List.replicate (N.length-ds.length) none) with
 | none=>rw [z] at hd;cases hd
 | some p=>
  obtain⟨fl, ρ'⟩:=p;rw [z] at hd;refine⟨F,H,F,_,fl, ρ',r,z,?_⟩;cases fl with
  | nx=>cases hd;exact fun σ' F' H' s' r'=>q .non F' H' r'.g (rep_non.mpr rfl)
  | bk=>cases hd
  | ct=>cases hd
  | rt d'=>cases hd;exact fun v σ' F' H' g' r'=>q v F' H' g'.g r'
theorem qsk{P:Program}{w:World}{K:Frag}{mg:Str->Option Value}{base:Heap}{k:Nat}{f:Addr}{name qual:Str}{params:Arguments}{body:List Stmt}{scope:Scope}{dV kV doc pm cdv ct oc:Value}{an od:Option Addr}
  {osl:Array (Option Value)} {N ps:List Str} {u:FS} (lk:K.lookup f=some ⟨oc,od,.func (PySem.W.fnOf name qual params body scope dV kV doc pm an cdv ct),osl⟩) (hcd:PySem.W.codeIn K cdv qual=true) (S:FnScope N ps scope)
  (hb:∀(A:Around) (outer:List Env) (s:Shared) (H:Hp) (E:XK),Room k (A.deeper (envOfC qual scope s.heap.objs.size f cdv))->PSs (z5 CX0 P w K mg base N qual scope f cdv A outer s H E).nox body (tDS K u)) :
  FnOk P w K mg base CX0 (k+1) f (PySem.W.fnOf name qual params body scope dV kV doc pm an cdv ct) ps (spD K ps.length (zj N.length u)):=by
 have hpl:ps.length<=N.length:=by have:=t4 List.length S.pre;rw [ni] at this;omega
 refine qga lk hcd S (fun vs H Q E h=>?_) fun A outer s H vs Q E hr hsp=>⟨_,(hb A outer s H E hr).nox,qqg (P:=P) (w:=w) hpl hsp⟩
 obtain⟨F,ds,d,_,rl,el,_⟩:=h;rw [<- rl.length];exact el
structure ItD(K:Frag)(F:Hp)(ds:List D)(J:It): Prop where
 go:∀(i:Nat) (F' H:Hp),Same F F'->Same F' H->i<ds.length->J.go i H
 yld:∀(i:Nat) (d:D) (F' H:Hp) (x:V) (H':Hp),Same F F'->Same F' H->ds[i]? = some d->J.yld i H x H'->∃F'',Grow F' H F'' H'/\Rep K F'' d x
 stop:∀(i:Nat) (F' H:Hp),Same F F'->Same F' H->ds.length<=i->J.stop i H
def tDI(K:Frag)(f:FA): TI:=fun σ H R=>∃F0 H0 F ρ ds,RS K F0 H0 F H σ ρ /\ f ρ = some ds/\∀J F' H',Grow F H F' H'->ItD K F' ds J->R J H'
abbrev FB:=D->Rho->Option Rho
abbrev FBs:=List D->Rho->Option Rho
def tDG(K:Frag)(b:FB): TG:=fun v σ H Q=>∃F0 H0 F ρ d ρ',RS K F0 H0 F H σ ρ /\ Rep K F d v/\b d ρ = some ρ'/\∀ σ',RS K F0 H0 F H σ' ρ'->Q σ' H
def qgg(K:Frag)(b:FBs): TGs:=fun vs σ H Q=>∃F0 H0 F ρ ds ρ',RS K F0 H0 F H σ ρ /\ RepL K F ds vs/\b ds ρ = some ρ'/\∀ σ',RS K F0 H0 F H σ' ρ'->Q σ' H
section
variable{X:Cx}{tg e:Expr}{es:List Expr}{pos:Pos}
theorem q8c{t t':TI}(h:PI X tg e t)(i:∀ σ H R,t' σ H R->t σ H R): PI X tg e t':=fun pins s σ H R I q=>h pins s σ H R I (i σ H R q)
theorem qiw{t t':TG}(h:PG X e t)(i:∀v σ H Q,t' v σ H Q->t v σ H Q): PG X e t':=fun pins s σ H v u Q I r q=>h pins s σ H v u Q I r (i v σ H Q q)
theorem qfc{t t':TGs}(h:PGs X es t)(i:∀v σ H Q,t' v σ H Q->t v σ H Q): PGs X es t':=fun pins s σ H v u Q I r q=>h pins s σ H v u Q I r (i v σ H Q q)
def bN(i:Nat): FB:=fun d ρ =>some (ρ.set i (some (.fz d)))
def q4f:FBs:=fun ds ρ =>if ds.isEmpty then some ρ else none
def q0o(b:FB)(bs:FBs): FBs:=fun ds ρ =>match ds with
 | d :: r=>(b d ρ).bind fun ρ'=>bs r ρ'
 | []=>none
def q4g(n:Nat)(bs:FBs): FB:=fun d ρ =>match d with
 | .tup ds=>if ds.length=n then bs ds ρ else none
 | _=>none
theorem zt{i:Nat}{x:Str}(hN:X.N.Nodup)(hi:X.N[i]? = some x)(hx:Loc X.env.scope x)(hf:X.fn x=true\/X.env.scope.names.lookup x=some .local:=by first|exact .inl rfl|exact .inr rfl|assumption): PG X (.Name x pos) (tDG X.K (bN i)):=
 qiw (qnh hN hi hx hf) fun v σ H Q ⟨F0,H0,F, ρ,d, ρ',r,hr,hb,q⟩=>by
  cases hb;exact q _ (r.set i hr)
theorem qix:PGs X [] (qgg X.K q4f):=qfc qni fun vs σ H Q ⟨F0,H0,F, ρ,ds, ρ',r,hr,hb,q⟩=>by
 unfold q4f at hb
 split at hb
 ·rename_i z
  cases hb;have z':ds=[]:=by simpa using z
  subst z';exact⟨hr.nil_inv,q σ r⟩
 ·cases hb
theorem q6l{b:FB}{bs:FBs}(h1:PG X e (tDG X.K b))(h2:PGs X es (qgg X.K bs))(hs:(assignEach (e :: es) X.env).map (·.2)=assign e X.env :: (assignEach es X.env).map (·.2):=by rfl): PGs X (e :: es) (qgg X.K (q0o b bs)):=
 qfc (qke h1 h2 hs) fun vs σ H Q ⟨F0,H0,F, ρ,ds, ρ',r,hr,hb,q⟩=>by
  cases ds with
  | nil=>cases hb
  | cons d ds=>
   obtain⟨v,vr,rfl,h3,h4⟩:=hr.cons_inv;obtain⟨ρ1,h5,h6⟩:=g8.mp hb;exact⟨v,vr,rfl,F0,H0,F, ρ,d, ρ1,r,h3,h5,fun σ' r'=>⟨F0,H0,F, ρ1,ds, ρ',r',h4,h6,q⟩⟩
theorem qiy{k n:Nat}{bs:FBs}(hc:X.calm=true)(h:PGs X es (qgg X.K bs))(hn:(assignEach es X.env).length=n:=by rfl)(hst:(assignEach es X.env).findIdx? (·.1)=none:=by rfl): PG X (.Tuple es k pos) (tDG X.K (q4g n bs)):=
 qiw (qpk hc h hn hst) fun v σ H Q ⟨F0,H0,F, ρ,d, ρ',r,hr,hb,q⟩=>by
  cases d <;> simp only [q4g] at hb <;> first|(cases hb;done)|skip
  rename_i ds
  split at hb
  ·rename_i hl
   obtain⟨a,xs,rfl,h1,h2⟩:=rep_tup.mp hr;exact⟨a,xs,rfl,qu r.fh h1,by rw [<- h2.length];exact hl,F0,H0,F, ρ,ds, ρ',r,h2,hb,q⟩
  ·cases hb
def qsl(f:FE)(b:FB): FS:=fun ρ =>(f ρ).bind fun d=>(b d ρ).map fun ρ'=>(.nx, ρ')
theorem ql1{K:Frag}{F:Hp}{a:Addr}{xs:List V}{ds:List D}(h:SqL K F a xs)(hd:RepL K F ds xs): ItD K F ds (Itl K a) where
 go:=fun i F' H s1 s2 hi=>⟨xs,xs[i]'(by rw [<- hd.length];exact hi),(s1.trans s2).seq h,by simp⟩
 yld:=fun i d F' H x H' s1 s2 hi ⟨e,y⟩=>by
  subst e;obtain⟨z,h1,h2⟩:=hd.get hi;have:=y xs ((s1.trans s2).seq h);rw [h1] at this;cases this;exact⟨F',.refl s2,h2.mono s1⟩
 stop:=fun i F' H s1 s2 hi=>⟨xs,(s1.trans s2).seq h,by rw [<- hd.length];exact hi⟩
theorem qnz{K:Frag}{F:Hp}{a:Addr}{xs:List V}{ds:List D}(h:SqT K F a xs)(hd:RepL K F ds xs): ItD K F ds (Itt K a) where
 go:=fun i F' H s1 s2 hi=>⟨xs,xs[i]'(by rw [<- hd.length];exact hi),qu (s1.trans s2) h,by simp⟩
 yld:=fun i d F' H x H' s1 s2 hi ⟨e,y⟩=>by
  subst e;obtain⟨z,h1,h2⟩:=hd.get hi;have:=y xs (qu (s1.trans s2) h);rw [h1] at this;cases this;exact⟨F',.refl s2,h2.mono s1⟩
 stop:=fun i F' H s1 s2 hi=>⟨xs,qu (s1.trans s2) h,by rw [<- hd.length];exact hi⟩
def zg(lo:Int)(n:Nat): List D:=(List.range n).map fun i:Nat=>.int (lo+i)
theorem qah{K:Frag}{F:Hp}(lo:Int)(n:Nat): ItD K F (zg lo n) (Itr lo n) where
 go:=fun i F' H s1 s2 hi=>by show i<n;simpa [zg] using hi
 yld:=fun i d F' H x H' s1 s2 hi ⟨e,y⟩=>by
  subst e y;simp only [zg,gz] at hi;cases q:(List.range n)[i]? with
  | none=>rw [q] at hi;cases hi
  | some j=>
   rw [q] at hi;cases hi;have:j=i:=by
    have h2:=mj.mp q;obtain⟨h3,h4⟩:=h2;rw [List.getElem_range] at h4;exact h4.symm
   subst this;exact⟨F',.refl s2,rep_int.mpr rfl⟩
 stop:=fun i F' H s1 s2 hi=>by show n<=i;simpa [zg] using hi
def qgh:D->Option (List D)
 | .tup ds=>some ds
 | .lst ds=>some ds
 | _=>none
def vi(f:FE): FA:=fun ρ =>(f ρ).bind qgh
theorem qsm{l:Expr}{tl:TE}(hl:PE X l tl): PI X tg l (fun σ H R=>tl σ H fun x H1=>(∃a,x=.ref a/\(∃xs,SqL X.K H1 a xs)/\R (Itl X.K a) H1)\/(∃a,x=.ref a/\(∃xs,SqT X.K H1 a xs)/\R (Itt X.K a) H1)):=by
 intro pins s σ H R I h;refine thn (hl pins s σ H _ I h) fun v s1 ⟨x,H1,I1,r1,q1⟩=>?_;rcases q1 with⟨a,e,⟨xs,hq⟩,q⟩|⟨a,e,⟨xs,hq⟩,q⟩
 ·subst e
  cases r1;obtain⟨its,rv,p,hz⟩:=I1.list hq;refine g13 p.isList ?_;refine⟨s1.heap.objs.size,[s1.heap.objs.size],_,_,H1,rfl,I1.kept (t':=s1.toks) fun b o e=>g9 _ e,qid a _,⟨_,gp _ rfl,rfl,rfl⟩,fun b hb=>?_,q⟩;have e:b=s1.heap.objs.size:=by simpa using hb
  subst e;exact I1.fpOk (gq _) (I1.hok.fresh (gq _))
 ·subst e
  cases r1;obtain⟨its,rv,p,hz⟩:=I1.tuple hq;refine g3a (show s1.heap.IsTuple a its.toArray from p) ?_;refine⟨s1.heap.objs.size,[s1.heap.objs.size],_,_,H1,rfl,I1.kept (t':=s1.toks) fun b o e=>g9 _ e,qg2 a _,⟨_,gp _ rfl,rfl,rfl⟩,fun b hb=>?_,q⟩;have e:b=s1.heap.objs.size:=by simpa using hb
  subst e;exact I1.fpOk (gq _) (I1.hok.fresh (gq _))
theorem xn{f:FE}(h:PE X e (tD X.K f)): PI X tg e (tDI X.K (vi f)):=q8c (qsm h) fun σ H R ⟨F0,H0,F, ρ,ds,r,hf,q⟩=>by
 obtain⟨d,h1,h2⟩:=g8.mp hf;refine⟨F0,H0,F, ρ,d,r,h1,fun v F' H' g' r'=>?_⟩;cases d <;> simp only [qgh] at h2 <;> first|(cases h2;done)|skip
 ·cases h2
  obtain⟨a,xs,rfl,h3,h4⟩:=rep_tup.mp r';exact .inr ⟨a,rfl,⟨xs,qu g'.fh h3⟩,q _ F' H' g' (qnz h3 h4)⟩
 ·cases h2
  obtain⟨a,xs,rfl,h3,h4⟩:=rep_lst.mp r';exact .inl ⟨a,rfl,⟨xs,g'.fh.seq h3⟩,q _ F' H' g' (ql1 h3 h4)⟩
def iR1(fa:FA): FA:=fun ρ =>(fa ρ).bind fun ds=>match ds with
 | [.int j]=>if decide (-(2 ^ 62)<=j)&&decide (j<2 ^ 62) then some (zg 0 j.toNat) else none
 | _=>none
def iR2(fa:FA): FA:=fun ρ =>(fa ρ).bind fun ds=>match ds with
 | [.int i,.int j]=>if(decide (-(2 ^ 62)<=i)&&decide (i<2 ^ 62))&&(decide (-(2 ^ 62)<=j)&&decide (j<2 ^ 62)) then some (zg i (j-i).toNat) else none
 | _=>none
theorem q1h{a:Expr}{fa:FA}{p:Pos}(hg:Gl X "range")(hm:X.mg "range" = none)(ha:PA X [a] (tDA X.K fa))(hs:starEach [a] X.env=[(false,eval a X.env)]:=by rfl): PI X tg (.Call (.Name "range" p) [a] [] pos) (tDI X.K (iR1 fa)):=
 q8c (qie hg hm ha hs) fun σ H R ⟨F0,H0,F, ρ,ds,r,hf,q⟩=>by
  obtain⟨es,h1,h2⟩:=g8.mp hf;refine⟨F0,H0,F, ρ,es,r,h1,fun vs F' H' g' r'=>?_⟩
  split at h2
  ·rename_i j
   split at h2
   ·rename_i z
    cases h2;obtain⟨x,t,rfl,h3,h4⟩:=r'.cons_inv;cases h4.nil_inv;obtain⟨z1,z2⟩:=q11 z;exact⟨j,by rw [rep_int.mp h3],z1,z2,q _ F' H' g' (qah 0 _)⟩
   ·cases h2
  ·cases h2
theorem qiz{a b:Expr}{fa:FA}{p:Pos}(hg:Gl X "range")(hm:X.mg "range" = none)(ha:PA X [a,b] (tDA X.K fa))(hs:starEach [a,b] X.env=[(false,eval a X.env),(false,eval b X.env)]:=by rfl)(hs2:starEach [b] X.env=[(false,eval b X.env)]:=by rfl):
  PI X tg (.Call (.Name "range" p) [a,b] [] pos) (tDI X.K (iR2 fa)):=
 q8c (qif hg hm ha hs hs2) fun σ H R ⟨F0,H0,F, ρ,ds,r,hf,q⟩=>by
  obtain⟨es,h1,h2⟩:=g8.mp hf;refine⟨F0,H0,F, ρ,es,r,h1,fun vs F' H' g' r'=>?_⟩
  split at h2
  ·rename_i i j
   split at h2
   ·rename_i z
    cases h2;obtain⟨x,t,rfl,h3,h4⟩:=r'.cons_inv;obtain⟨x2,t2,rfl,h5,h6⟩:=h4.cons_inv;cases h6.nil_inv;rw [mf] at z;obtain⟨z1,z2⟩:=q11 z.1;obtain⟨z3,z4⟩:=q11 z.2;exact⟨i,j,by rw [rep_int.mp h3,rep_int.mp h5],⟨z1,z2,z3,z4⟩,q _ F' H' g' (qah _ _)⟩
   ·cases h2
  ·cases h2
def runFor(b:FB)(body:FS): List D->Rho->Option (Fl×Rho)
 | [], ρ =>some (.nx, ρ)
 | d :: ds, ρ =>(b d ρ).bind fun ρ1=>(body ρ1).bind fun r=>match r with
  | (.nx, ρ2)=>runFor b body ds ρ2
  | (.ct, ρ2)=>runFor b body ds ρ2
  | (.bk, ρ2)=>some (.nx, ρ2)
  | (.rt v, ρ2)=>some (.rt v, ρ2)
def q3e(it:FA)(b:FB)(body:FS): FS:=fun ρ =>(it ρ).bind fun ds=>runFor b body ds ρ
theorem q3v{iter:Expr}{body:List Stmt}{it:FA}{b:FB}{u:FS}(hp:PassesOwn (model X.prog X.w) X.A X.env X.xe)(hc:X.calm=true)(hi:PI X tg iter (tDI X.K it))(hg:PG X tg (tDG X.K b))(hb:PSs X body (tDS X.K u))
  (hs:∀x,foldedSetIterable iter X.env x=pure x:=by intro _;rfl):PS X (.For tg iter body [] pos) (tDS X.K (q3e it b u)):=xy (qpn hp hc hi hg hb hs) fun D σ H ⟨F0,H0,F, ρ,fl, ρ',r,hf,q⟩=>by
 obtain⟨ds,h1,h2⟩:=g8.mp hf;refine⟨F0,H0,F, ρ,ds,r,h1,fun J F1 H1 g1 itd=>?_⟩;refine⟨fun i m σ H=>m=ds.length-i/\i<=ds.length/\∃F' ρi,Same F1 F'/\RS X.K F0 H0 F' H σ ρi/\runFor b u (ds.drop i) ρi=some (fl, ρ'),⟨ds.length,by simp,pj _,F1, ρ,.refl _,r.grow g1,by simpa using h2⟩,?_⟩
 rintro i m σ H ⟨rfl,hi,F', ρi,s1,r1,h3⟩
 by_cases hlt:i<ds.length
 ·have hd:ds.drop i=ds[i] :: ds.drop (i+1):=g1q hlt
  rw [hd] at h3;obtain⟨ρ1,h4,h5⟩:=g8.mp h3;obtain⟨⟨fl1, ρ2⟩,h6,h7⟩:=g8.mp h5;refine .inr ⟨itd.go i F' H s1 r1.fh hlt,fun σ' H'=>∃F',Same F1 F'/\RS X.K F0 H0 F' H' σ' ρ2/\runFor b u (ds.drop (i+1)) ρ2=some (fl, ρ'),fun σ' H' ⟨F',z1,z2,z3⟩=>⟨ds.length-(i+1),by omega,rfl,hlt,F', ρ2,z1,z2,z3⟩,fun x H' y=>?_⟩;obtain⟨F2,g2,r2⟩:=itd.yld i ds[i] F' H x H' s1 r1.fh (by simp [hlt]) y;refine⟨F0,H0,F2, ρi,ds[i], ρ1,r1.grow g2,r2,h4,fun σ' r3=>⟨F0,H0,F2, ρ1,fl1, ρ2,r3,h6,?_⟩⟩;cases fl1 with
  | nx=>exact fun σ2 F3 H3 s3 r4=>⟨F3,(s1.trans g2.ff).trans s3,r4,h7⟩
  | ct=>exact fun σ2 F3 H3 s3 r4=>⟨F3,(s1.trans g2.ff).trans s3,r4,h7⟩
  | bk=>cases h7;exact fun σ2 F3 H3 s3 r4=>q σ2 F3 H3 ((g1.ff.trans (s1.trans g2.ff)).trans s3) r4
  | rt d=>cases h7;exact q
 ·have e:i=ds.length:=by omega
  subst e;rw [g43] at h3;cases h3;exact .inl ⟨itd.stop _ F' H s1 r1.fh (gq _),q σ F' H (g1.ff.trans s1) r1⟩
def jn(t:FT)(body:FS): Nat->Rho->Option (Fl×Rho)
 | 0,_=>none
 | n+1, ρ =>(t ρ).bind fun c=>if c then(body ρ).bind fun r=>match r with
   | (.nx, ρ2)=>jn t body n ρ2
   | (.ct, ρ2)=>jn t body n ρ2
   | (.bk, ρ2)=>some (.nx, ρ2)
   | (.rt v, ρ2)=>some (.rt v, ρ2)
  else some (.nx, ρ)
theorem qc4{c:Expr}{body:List Stmt}{t:FT}{u:FS}(n:Nat)(hp:PassesOwn (model X.prog X.w) X.A X.env X.xe)(hc:PT X c (tDT X.K t))(hb:PSs X body (tDS X.K u)): PS X (.While c body [] pos) (tDS X.K (jn t u n)):=
 xy (qkf hp hc hb) fun D σ H ⟨F0,H0,F, ρ,fl, ρ',r,hf,q⟩=>by
  refine⟨fun m σ H=>∃F' ρi,Same F F'/\RS X.K F0 H0 F' H σ ρi/\jn t u m ρi=some (fl, ρ'),⟨n,F, ρ,.refl _,r,hf⟩,?_⟩
  rintro m σ H ⟨F', ρi,s1,r1,h1⟩
  cases m with
  | zero=>cases h1
  | succ m=>
   obtain⟨c,h2,h3⟩:=g8.mp h1;refine⟨F0,H0,F', ρi,c,r1,h2,fun F2 H2 g2=>?_⟩;cases c with
   | false=>rw [m8 gs] at h3 ⊢;cases h3;exact q σ F2 H2 (s1.trans g2.ff) (r1.grow g2)
   | true=>
    rw [gx rfl] at h3 ⊢;obtain⟨⟨fl1, ρ2⟩,h6,h7⟩:=g8.mp h3;refine⟨fun σ' H'=>∃F',Same F F'/\RS X.K F0 H0 F' H' σ' ρ2/\jn t u m ρ2=some (fl, ρ'),fun σ' H' ⟨F',z1,z2,z3⟩=>⟨m,g02 _,F', ρ2,z1,z2,z3⟩,F0,H0,F2, ρi,fl1, ρ2,r1.grow g2,h6,?_⟩;cases fl1 with
    | nx=>exact fun σ2 F3 H3 s3 r4=>⟨F3,(s1.trans g2.ff).trans s3,r4,h7⟩
    | ct=>exact fun σ2 F3 H3 s3 r4=>⟨F3,(s1.trans g2.ff).trans s3,r4,h7⟩
    | bk=>cases h7;exact fun σ2 F3 H3 s3 r4=>q σ2 F3 H3 ((s1.trans g2.ff).trans s3) r4
    | rt d=>cases h7;exact q
end
def qqh:Option B->Option B
 | some (.fz d)=>some (.fz d)
 | _=>none
def kx(cap:List (Option Nat))(ρ : Rho): Rho:=cap.map fun o=>o.bind fun j=>qqh (ρ[j]?).join
structure Sub(ρ ρ':Rho): Prop where
 len : ρ.length = ρ'.length
 sub:∀(i:Nat) (b:B), ρ[i]? = some (some b) -> ρ'[i]? = some (some b)
theorem RS.weak{K:Frag}{F0 H0 F H:Hp}{σ : St}{ρ ρ':Rho}(r:RS K F0 H0 F H σ ρ')(s:Sub ρ ρ'): RS K F0 H0 F H σ ρ where
 t0:=r.t0
 g:=r.g
 len:=by rw [s.len];exact r.len
 fz:=fun i d e=>r.fz i d (s.sub i _ e)
 ow:=fun i ds e=>r.ow i ds (s.sub i _ e)
 dj:=fun i j ds es a h e1 e2=>r.dj i j ds es a h (s.sub i _ e1) (s.sub j _ e2)
 od:=fun i kvs e=>let⟨a,bs,e1,e2,e3⟩:=r.od i kvs (s.sub i _ e); ⟨a,bs,e1,e2,fun j es b h=>e3 j es b (s.sub j _ h)⟩
 o1:=fun i j k1 k2 e1 e2=>r.o1 i j k1 k2 (s.sub i _ e1) (s.sub j _ e2)
def q23(ρ : Rho): Prop:=∀(i:Nat) (b:B), ρ[i]? = some (some b)->∃d,b=.fz d
theorem q4h{ρ : Rho}(no:q23 ρ){i:Nat}{ds:List D}(h : ρ[i]? = some (some (.ow ds))): False:=let⟨_,e⟩:=no i _ h;nomatch e
theorem q4i{ρ : Rho}(no:q23 ρ){i:Nat}{ds}(h : ρ[i]? = some (some (.od ds))): False:=let⟨_,e⟩:=no i _ h;nomatch e
theorem yt(cap:List (Option Nat))(ρ : Rho): q23 (kx cap ρ):=fun i ds h=>by
 unfold kx at h;rw [gz] at h;cases q:cap[i]? with
 | none=>rw [q] at h;cases h
 | some o=>
  rw [q] at h;cases o with
  | none=>cases h
  | some j=>
   simp only [mw,gb,g11] at h;generalize (ρ[j]?).join=z at h;cases z with
   | none=>cases h
   | some b=>cases b with
    | fz d=>cases h;exact⟨d,rfl⟩
    | ow _=>cases h
    | od _=>cases h
theorem qqi{K:Frag}{F0 H0 F H:Hp}{σ : St}{ρ : Rho}(cap:List (Option Nat))(r:RS K F0 H0 F H σ ρ): RS K F H F H (q9e cap σ) (kx cap ρ) where
 t0:=⟨r.tab,r.tabF⟩
 g:=.refl r.fh
 len:=by unfold q9e kx;rw [gr,gr]
 fz := fun i d h=>by
  unfold kx at h;rw [gz] at h;cases q:cap[i]? with
  | none=>rw [q] at h;cases h
  | some o=>
   rw [q] at h;cases o with
   | none=>cases h
   | some j=>
    simp only [mw,gb,g11] at h;have e : ρ[j]? = some (some (.fz d)):=by
     cases z : ρ[j]? with
     | none=>rw [z] at h;cases h
     | some b=>
      rw [z] at h;cases b with
      | none=>cases h
      | some b=>cases b with
       | fz d'=>cases h;rfl
       | ow _=>cases h
       | od _=>cases h
    obtain⟨v,e1,e2⟩:=r.fz j d e;refine⟨v,?_,e2⟩;unfold q9e;rw [gz,q];simp only [mw,gb,e1,g2h]
 ow:=fun i ds h=>(q4h (yt cap ρ) h).elim
 dj:=fun i j ds es a _ h=>(q4h (yt cap ρ) h).elim
 od:=fun i ds h=>(q4i (yt cap ρ) h).elim
 o1:=fun i j ds es h=>(q4i (yt cap ρ) h).elim
theorem RS.other{K:Frag}{F0 H0 F H:Hp}{σ : St}{ρ : Rho}(r:RS K F0 H0 F H σ ρ)(no:q23 ρ){p:Addr}{o:HO}(h1:F p=none)(h2:H0 p=none)(h3:H p=none\/∃xs,H p=some (.lst xs)): RS K F0 H0 F (upd H p o) σ ρ where
 t0:=r.t0
 g :=⟨r.g.ff,⟨fun b u e=>by rw [qy (fun z=>by subst z;rw [h2] at e;cases e)];exact r.g.hh.lst b u e,fun b u e=>by rw [qy (fun z=>by subst z;rw [h2] at e;cases e)];exact r.g.hh.ext b u e,fun {b} e=>by
   by_cases z:b=p
   ·subst z;exact h2
   ·rw [qy z] at e;exact r.g.hh.free e,fun t=>(r.g.hh.tb t).upd h3,fun b u e=>by rw [qy (fun z=>by subst z;rw [h2] at e;cases e)];exact r.g.hh.dk b u e⟩,fun b u e=>by rw [qy (fun z=>by subst z;rw [h1] at e;cases e)];exact r.g.fh b u e,r.g.nw⟩
 len:=r.len
 fz:=r.fz
 ow:=fun i ds h=>(q4h no h).elim
 dj:=fun i j ds es a _ h=>(q4h no h).elim
 od:=fun i ds h=>(q4i no h).elim
 o1:=fun i j ds es h=>(q4i no h).elim
theorem q5l{F H F' H':Hp}{p:Addr}(g:Grow F H F' H')(h1:F p=none){o:HO}(h2:H p=some o): F' p=none:=by
 cases q:F' p with
 | none=>rfl
 | some u=>
  rcases g.nw p (by rw [q];simp) with z|z
  ·exact absurd h1 z
  ·rw [h2] at z;cases z
def zd(b:FB)(c:FT)(f:FE)(ρ : Rho): List D->Option (List D)
 | []=>some []
 | d :: ds=>(b d ρ).bind fun ρ1=>(c ρ1).bind fun t=>if t then(f ρ1).bind fun y=>(zd b c f ρ ds).map fun ys=>y :: ys else zd b c f ρ ds
def zx:FT:=fun _=>some true
def zp(it:FA)(cap:List (Option Nat))(b:FB)(c:FT)(f:FE): FA:=fun ρ =>(it ρ).bind fun ds=>if ds.length<=lim then zd b c f (kx cap ρ) ds else none
def q8d(b:FB)(cap:List (Option Nat)): Prop:=∀ ρ d ρ',b d (kx cap ρ)=some ρ'->Sub (kx cap ρ) ρ'/\q23 ρ'
section
variable{X:Cx}
theorem ql2{ifs:List Expr}{t t':TT}(h:q1s X ifs t)(i:∀ σ H Q,t' σ H Q->t σ H Q): q1s X ifs t':=fun pins s σ H Q I q=>h pins s σ H Q I (i σ H Q q)
theorem yy:q1s X [] (tDT X.K zx):=ql2 qkt fun σ H Q ⟨F0,H0,F, ρ,b,r,hf,q⟩=>by cases hf;exact q F H (.refl r.fh)
theorem q1i{c:Expr}{t:FT}(h:PT X c (tDT X.K t)): q1s X [c] (tDT X.K t):=qku h
theorem qj0{K:Frag}{it:FA}{cap:List (Option Nat)}{b:FB}{c:FT}{f:FE}{σ : St}{H:Hp}{Q:VK}(fr:q8d b cap)(h:tL K (zp it cap b c f) σ H Q): qge (tDI K it) cap (tDG K b) (tDT K c) (tD K f) σ H Q:=by
 obtain⟨F0,H0,F, ρ,zs,r,hf,q⟩:=h;obtain⟨ds,h1,h2⟩:=g8.mp hf;have hlim:ds.length<=lim:=Decidable.byContradiction fun z=>by rw [m8 z] at h2;cases h2
 rw [gx hlim] at h2;refine⟨F0,H0,F, ρ,ds,r,h1,fun J F1 H1 g1 itd p hp=>?_⟩;have rc:=qqi cap (r.grow g1);have hF1:F1 p=none:=g1.fh.free hp;refine⟨fun i m σ H=>m=ds.length-i/\i<=ds.length/\∃F' xs ys us,Same F1 F'/\RS K F1 H1 F' H σ (kx cap ρ)/\H p=some (.lst xs)/\F' p=none/\RepL K F' ys xs/\zd b c f (kx cap ρ) (ds.drop i)=some us/\ys++us=zs/\ys.length<=i,
  ⟨ds.length,by simp,pj _,F1,[],[],zs,.refl _,rc.other (yt cap ρ) hF1 hp (.inl hp),z9,hF1,.nil,by simpa using h2,rfl,gq _⟩,?_⟩
 rintro i m σ' H' ⟨rfl,hi,F',xs,ys,us,s1,r1,hl,hn,ry,h3,h4,hyi⟩
 by_cases hlt:i<ds.length
 ·have hd:ds.drop i=ds[i] :: ds.drop (i+1):=g1q hlt
  rw [hd] at h3;obtain⟨ρ1,h5,h3⟩:=g8.mp h3;obtain⟨t,h6,h3⟩:=g8.mp h3;obtain⟨sb,no1⟩:=fr ρ _ _ h5;refine .inr ⟨itd.go i F' H' s1 r1.fh hlt,fun x H'' y=>?_⟩;obtain⟨F2,g2,r2⟩:=itd.yld i ds[i] F' H' x H'' s1 r1.fh (by simp [hlt]) y;refine⟨F1,H1,F2,kx cap ρ,ds[i], ρ1,r1.grow g2,r2,h5,fun σ2 r3=>⟨F1,H1,F2, ρ1,t,r3,h6,fun F3 H3 g3=>?_⟩⟩;have r4:=r3.grow g3;have hl2:=g2.hh.lst _ _ hl;have hn2:=q5l g2 hn hl;have hl3:=g3.hh.lst _ _ hl2;have hn3:=q5l g3 hn2 hl2;cases t with
  | false=>
   rw [m8 gs] at h3;exact qkr ⟨ds.length-(i+1),by omega,rfl,hlt,F3,xs,ys,us,(s1.trans g2.ff).trans g3.ff,r4.weak sb,hl3,hn3,ry.mono (g2.ff.trans g3.ff),h3,h4,Nat.le_succ_of_le hyi⟩
  | true=>
   rw [gx rfl] at h3;obtain⟨yd,h7,h3⟩:=g8.mp h3;obtain⟨us',h8,h9⟩:=gf.mp h3;refine qks ⟨F1,H1,F3, ρ1,yd,r4,h7,fun v F4 H4 g4 r5=>?_⟩;have hl4:=g4.hh.lst _ _ hl3;have hn4:=q5l g4 hn3 hl3;have ss:Same F' F4:=(g2.ff.trans g3.ff).trans g4.ff;refine⟨xs,hl4,qad (by have:=ry.length;omega),ds.length-(i+1),by omega,rfl,hlt,F4,xs++[v],ys++[yd],us',(s1.trans ss),?_,z9,hn4,(ry.mono ss).append (.cons r5 .nil),h8,?_,?_⟩
   ·exact((r4.grow g4).weak sb).other (yt cap ρ) hn4 hp (.inr ⟨_,hl4⟩)
   ·rw [g0h,List.singleton_append,h9];exact h4
   ·rw [mn,g2m];omega
 ·have e:i=ds.length:=by omega
  subst e;rw [g43] at h3;cases h3;rw [pk] at h4;subst h4;have gg:Grow F1 H1 F' H':=r1.g;exact .inl ⟨itd.stop _ F' H' s1 r1.fh (gq _),q p xs F' H' (g1.trans gg) hn (g1.hh.free hp) hl ry⟩
variable{N':List Str}{scope:Scope}{cap:List (Option Nat)}{tg iter elt:Expr}{ifs:List Expr}{it:FA}{b:FB}{c:FT}{f:FE}{pos:Pos}
theorem jr(hc:X.calm=true)(co:CapOk X N' scope cap)(fr:q8d b cap)(hi:PI X tg iter (tDI X.K it))
  (hg:∀cl C s₀ H₀ fp,PG (xc X N' scope cl C s₀ H₀ fp) tg (tDG X.K b)) (hcs:∀cl C s₀ H₀ fp,q1s (xc X N' scope cl C s₀ H₀ fp) ifs (tDT X.K c)) (he:∀cl C s₀ H₀ fp,PE (xc X N' scope cl C s₀ H₀ fp) elt (tD X.K f))
  (hs:∀x,foldedSetIterable iter X.env x=pure x:=by intro _;rfl):PE X (.ListComp elt [⟨tg,iter,ifs,0⟩] scope pos) (tL X.K (zp it cap b c f)):=
 je (qnt hc co hi hg hcs he hs) fun σ H Q h=>qj0 fr h
theorem qfd{i:Nat}{x:Str}{px pe:Pos}(hc:X.calm=true)(hN:X.N.Nodup)(hx0:X.N[i]? = some x)(hx:X.env.scope.names.lookup x=some .local)(co:CapOk X N' scope cap)(fr:q8d b cap)(hi:PI X tg iter (tDI X.K it))
  (hg:∀cl C s₀ H₀ fp,PG (xc X N' scope cl C s₀ H₀ fp) tg (tDG X.K b)) (hcs:∀cl C s₀ H₀ fp,q1s (xc X N' scope cl C s₀ H₀ fp) ifs (tDT X.K c)) (he:∀cl C s₀ H₀ fp,PE (xc X N' scope cl C s₀ H₀ fp) elt (tD X.K f))
  (hsw:swapsWith (.ListComp elt [⟨tg,iter,ifs,0⟩] scope pe) (some (.Name x px)) pos.line X.env=pure true:=by rfl)
  (hs:∀x,foldedSetIterable iter X.env x=pure x:=by intro _;rfl):PS X (.Assign [.Name x px] (.ListComp elt [⟨tg,iter,ifs,0⟩] scope pe) pos) (tDS X.K (q1v i (zp it cap b c f))):=
 xy (qgf hc hN hx0 hx co hi hg hcs he hsw hs) fun D σ H h=>qj0 fr (qn2 h)
end
theorem qc5{cap:List (Option Nat)}{ρ : Rho}{i:Nat}(h:cap[i]? = some none): (kx cap ρ)[i]? = some none:=by
 unfold kx;rw [gz,h];rfl
theorem qfe{ρ ρ':Rho}{i:Nat}{b:Option B}(s:Sub ρ ρ')(h : ρ[i]? = some none): Sub ρ (ρ'.set i b):=
 ⟨by rw [u6];exact s.len,fun j c e=>by
  by_cases q:j=i
  ·subst q;rw [h] at e;cases e
  ·rw [gc (m5 q)];exact s.sub j c e⟩
theorem qai{ρ : Rho}{i:Nat}{d:D}(h:q23 ρ): q23 (ρ.set i (some (.fz d))):=fun j ds e=>by
 by_cases q:j=i
 ·subst q
  obtain⟨z,_⟩:=za e;cases z;exact⟨d,rfl⟩
 ·rw [gc (m5 q)] at e;exact h j ds e
theorem Sub.refl(ρ : Rho): Sub ρ ρ :=⟨rfl,fun _ _ h=>h⟩
theorem zv{cap:List (Option Nat)}{i:Nat}(h:cap[i]? = some none): q8d (bN i) cap:=fun ρ d ρ' e=>by
 cases e;exact⟨qfe (.refl _) (qc5 h),qai (yt cap ρ)⟩
def q8e(bs:FBs)(cap:List (Option Nat)): Prop:=∀ ρ ds ρ1 ρ',Sub (kx cap ρ) ρ1->q23 ρ1->bs ds ρ1=some ρ'->Sub (kx cap ρ) ρ'/\q23 ρ'
theorem q8f{cap:List (Option Nat)}: q8e q4f cap:=fun ρ ds ρ1 ρ' s n e=>by
 unfold q4f at e
 split at e
 ·cases e;exact⟨s,n⟩
 ·cases e
theorem q1a{cap:List (Option Nat)}{i:Nat}{bs:FBs}(h:cap[i]? = some none)(t:q8e bs cap): q8e (q0o (bN i) bs) cap:=fun ρ ds ρ1 ρ' s n e=>by
 cases ds with
 | nil=>cases e
 | cons d ds=>exact t ρ ds _ ρ' (qfe s (qc5 h)) (qai n) e
theorem qaj{cap:List (Option Nat)}{n:Nat}{bs:FBs}(t:q8e bs cap): q8d (q4g n bs) cap:=fun ρ d ρ' e=>by
 cases d <;> simp only [q4g] at e <;> first|(cases e;done)|skip
 split at e
 ·exact t ρ _ _ ρ' (.refl _) (yt cap ρ) e
 ·cases e
def qqj (outer:List (Str×NameKind)) (N N':List Str) (scope:Scope) (cap:List (Option Nat)):Bool:=
 scope.names.all (fun y=> !(y.2 == .cell))&&(scope.names.all (fun y=> !(y.2 == .local) || (scope.names.lookup y.1==some .local))&&(scope.names.all (fun y=> !(y.2 == .free) || (outer.lookup y.1==some .cell) || (outer.lookup y.1==some .free)) &&
  (cap.length==N'.length&&(List.range cap.length).all fun i=>match(cap[i]?).join with
   | none=>true
   | some j=>match N'[i]? with
    | none=>false
    | some x=>N[j]? == some x&&scope.names.lookup x==some .free)))
theorem j6{X:Cx}{N':List Str}{scope:Scope}{cap:List (Option Nat)}(hk:scope.kind=.function)(h:qqj X.env.scope.names X.N N' scope cap=true): CapOk X N' scope cap:=by
 unfold qqj at h;simp only [mf,g03] at h;obtain⟨h1,h2,h3,h4,h5⟩:=h;refine⟨hk,fun y hy e=>?_,fun y hy e=>?_,fun y hy e=>?_,by simpa using h4,fun i j e=>?_⟩
 ·have:=h1 y hy;rw [e] at this;cases this
 ·have:=h2 y hy;rw [e] at this;simpa using this
 ·have:=h3 y hy
  rw [e] at this;simp only [g2g,pd,Bool.false_or,g1p,uc] at this;exact this
 ·have hi:i<cap.length:=(mj.mp e).1
  have:=h5 i (ti.mpr hi);rw [e] at this;simp only [g2h] at this
  split at this
  ·cases this
  ·rename_i x hx
   simp only [mf,uc] at this;exact⟨x,hx,this.1,this.2⟩
section
variable{X:Cx}{e:Expr}{es:List Expr}{pos:Pos}{f g:FE}{fa:FA}
inductive Ty where
 | int|bool|tuple|list|str|dict
def Ty.name:Ty->String
 | .int=>"int" | .bool=>"bool" | .tuple=>"tuple" | .list=>"list" | .str=>"str" | .dict=>"dict"
def zk:Ty->D->Bool
 | .int,.int _=>true
 | .int,.bl _=>true
 | .bool,.bl _=>true
 | .tuple,.tup _=>true
 | .list,.lst _=>true
 | .str,.str _=>true
 | .dict,.dct _ _=>true
 | .dict,.dtt _ _=>true
 | .dict,.dt2 _=>true
 | _,_=>false
theorem ql3{prog:Program}{w:World}{A:Around}{E:Value->Shared->Prop}{s:Shared}{Q:Value->Shared->Prop}{K:Frag}{T:String}{b:Bool}(hk:K.In s.heap)(h:∀tk,Q (.bool b) {s with toks:=tk})(hT:PySem.W.kitOne K (.type "NoneType") (.type T)=some b):
  wpAny (model prog w) A (call (.builtin "isinstance") [.none,.type T]) Q E s:=g2u PySem.W.kitx_none hk True.intro hT (fun z=>nomatch z) h
theorem ql4(T:Ty): xv X (.builtin "isinstance") (fun xs H Q=>∃x F d,xs=[x,.ty T.name]/\Same F H/\Rep X.K F d x/\Q (.bl (zk T d)) H):=by
 intro pins s σ H xs us Q I r h;obtain⟨x,F,d,rfl,fh,rd,q⟩:=h;obtain⟨u,w',rfl,rx,rt⟩:=r.two;obtain rfl:w'=Value.type T.name:=rt;have fin:∀ {b:Bool},Q (.bl b) H->EP X pins σ Q (.bool b) s:=fun q=>⟨.bl _,H,I,rfl,q⟩
 have fin1:∀ {b:Bool},Q (.bl b) H->EP X pins σ Q (.bool b) {s with toks:=s.toks+1}:=fun q=>⟨.bl _,H,I.tok _,rfl,q⟩
 cases d with
 | non=>
  cases rep_non.mp rd;cases rx;cases T <;> exact ql3 I.kIn (fun tk=>⟨.bl _,H,I.tok _,rfl,q⟩) (by rfl)
 | bl b=>
  cases rep_bl.mp rd;cases rx;cases T
  ·exact IsiPair.bool_int (fin q)
  ·exact IsiPair.bool_bool (fin q)
  ·exact IsiPair.bool_tuple (fin1 q)
  ·exact IsiPair.bool_list (fin1 q)
  ·exact IsiPair.bool_str (fin1 q)
  ·exact IsiPair.bool_dict (fin1 q)
 | int i=>
  cases rep_int.mp rd;obtain⟨t,rfl⟩:=rx;cases T
  ·exact IsiPair.int_int (fin q)
  ·exact IsiPair.int_bool (fin1 q)
  ·exact IsiPair.int_tuple (fin1 q)
  ·exact IsiPair.int_list (fin1 q)
  ·exact IsiPair.int_str (fin1 q)
  ·exact IsiPair.int_dict (fin1 q)
 | str z=>
  cases rep_str.mp rd;obtain⟨t,rfl⟩:=rx;cases T
  ·exact IsiPair.str_int (fin1 q)
  ·exact IsiPair.str_bool (fin1 q)
  ·exact IsiPair.str_tuple (fin1 q)
  ·exact IsiPair.str_list (fin1 q)
  ·exact IsiPair.str_str (fin q)
  ·exact IsiPair.str_dict (fin1 q)
 | tup ds=>
  obtain⟨a,ys,rfl,h1,h2⟩:=rep_tup.mp rd;cases rx;obtain⟨its,_,⟨o,ho,hc,_⟩,_⟩:=I.tuple (qu fh h1);cases T
  ·exact IsiPair.tuple_int ho hc (fin1 q)
  ·exact IsiPair.tuple_bool ho hc (fin1 q)
  ·exact IsiPair.tuple_tuple ho hc (fin q)
  ·exact IsiPair.tuple_list ho hc (fin1 q)
  ·exact IsiPair.tuple_str ho hc (fin1 q)
  ·exact IsiPair.tuple_dict ho hc (fin1 q)
 | lst ds=>
  obtain⟨a,ys,rfl,h1,h2⟩:=rep_lst.mp rd;cases rx;obtain⟨its,_,⟨o,n,ho,hc,_⟩,_⟩:=I.list (fh.seq h1);cases T
  ·exact IsiPair.list_int ho hc (fin1 q)
  ·exact IsiPair.list_bool ho hc (fin1 q)
  ·exact IsiPair.list_tuple ho hc (fin1 q)
  ·exact IsiPair.list_list ho hc (fin q)
  ·exact IsiPair.list_str ho hc (fin1 q)
  ·exact IsiPair.list_dict ho hc (fin1 q)
 | dct ks vs=>
  obtain⟨a,ys,rfl,h1,h2,h3⟩:=rep_dct.mp rd;cases rx;obtain⟨_,_,vs',_,o,es',ep,ho,hc,_⟩:=(show ObjOk X.prog X.w H s.heap a _ from I.hok a _ (fh _ _ h1))
  cases T
  ·exact g44 ho hc.1 (fin1 q)
  ·exact g3n ho hc.1 (fin1 q)
  ·exact g3b ho hc.1 (fin1 q)
  ·exact g3o ho hc.1 (fin1 q)
  ·exact g45 ho hc.1 (fin1 q)
  ·exact g3p ho hc.1 (fin q)
 | dtt ks vs=>
  obtain⟨a,xs',ys,ep,rfl,h1,_⟩:=rep_dtt.mp rd;cases rx;obtain⟨⟨o,es',ho,hc,_⟩,_,_⟩:=(show ObjOk X.prog X.w H s.heap a _ from I.hok a _ (fh _ _ h1))
  cases T
  ·exact g44 ho hc.1 (fin1 q)
  ·exact g3n ho hc.1 (fin1 q)
  ·exact g3b ho hc.1 (fin1 q)
  ·exact g3o ho hc.1 (fin1 q)
  ·exact g45 ho hc.1 (fin1 q)
  ·exact g3p ho hc.1 (fin q)
 | dt2 ks=>
  obtain⟨a,xs',ep,rfl,h1,_⟩:=rep_dt2.mp rd;cases rx;obtain⟨⟨o,es',ho,hc,_⟩,_,_⟩:=(show ObjOk X.prog X.w H s.heap a _ from I.hok a _ (fh _ _ h1))
  cases T
  ·exact g44 ho hc.1 (fin1 q)
  ·exact g3n ho hc.1 (fin1 q)
  ·exact g3b ho hc.1 (fin1 q)
  ·exact g3o ho hc.1 (fin1 q)
  ·exact g45 ho hc.1 (fin1 q)
  ·exact g3p ho hc.1 (fin q)
 | obj x=>
  obtain⟨a,dx,C,rfl,h1,_,c1,c2,c3,c4,c5,c6,c7⟩:=rep_obj.mp rd;cases rx;obtain⟨mA,O,_⟩:=qf4 I.hok (fh _ _ h1);obtain⟨od,J,_⟩:=O.look;cases T <;> exact g2u (PySem.W.kitx_own c1 c2 c3 c4 c5 c6) I.kIn J (c7 _ (by decide)) (fun z=>nomatch z) (fun tk=>⟨.bl _,H,I.tok _,rfl,q⟩)
 | exc x f=>
  obtain⟨a,C,rfl,⟨od,h1,_⟩,_,c1,c2⟩:=rep_exc.mp rd;cases rx;obtain⟨J,_,_⟩:=(show ObjOk X.prog X.w H s.heap a _ from I.hok a _ (fh _ _ h1))
  cases T <;> exact g2u (q7f c1) I.kIn J (c2 _ (by decide)) (fun z=>nomatch z) (fun tk=>⟨.bl _,H,I.tok _,rfl,q⟩)
def q1w(T:Ty)(f:FE): FE:=fun ρ =>(f ρ).map fun d=>.bl (zk T d)
theorem q4j:bootBuiltins "isinstance" = some (.builtin "isinstance"):=by decide +kernel
theorem q3w{x:Str}{p px:Pos}(T:Ty)(hg:Gl X "isinstance")(hm:X.mg "isinstance" = none)(hgT:Gl X x)(hmT:X.mg x=none)(hvT:bootBuiltins x=some (.type T.name))(ha:PE X e (tD X.K f))
  (hnT:x≠"__name__" :=by decide) (hdT:(x==("__debug__" : Str))=false:=by decide) (he2:starEach [e,.Name x px] X.env=(false,eval e X.env) :: starEach [.Name x px] X.env:=by rfl) :
  PE X (.Call (.Name "isinstance" p) [e,.Name x px] [] pos) (tD X.K (q1w T f)):=
 je (q0z (ql4 T) hg hm q4j (zr ha (zr (qf0 (v:=.ty T.name) hgT hmT hvT rfl hnT hdT) yj) he2) (by decide) (by decide) he2 rfl) fun σ H Q ⟨F0,H0,F, ρ,d,r,hf,q⟩=>by
  obtain⟨d',h1,h2⟩:=gf.mp hf;subst h2;exact⟨F0,H0,F, ρ,d',r,h1,fun v F' H' g' r'=>⟨v,F',d',rfl,g'.fh,r',q _ F' H' g' (rep_bl.mpr rfl)⟩⟩
def zy:List D->Option (List Int)
 | []=>some []
 | .int i :: r=>(zy r).map fun is=>i :: is
 | _ :: _=>none
def q2n:List D->Option (List Bool)
 | []=>some []
 | .bl i :: r=>(q2n r).map fun is=>i :: is
 | _ :: _=>none
theorem q8g:∀ {ds:List D} {ns:List Int},zy ds=some ns->ds=ns.map D.int
 | [],ns,h=>by cases h;rfl
 | d :: r,ns,h=>by
  cases d <;> simp only [zy] at h <;> first|(cases h;done)|skip
  obtain⟨is,h1,h2⟩:=gf.mp h;subst h2;rw [q8g h1];rfl
omit [Lam] [Pin] in
theorem v5:∀(ns:List Int),zy (ns.map D.int)=some ns
 | []=>rfl
 | n :: r=>by simp only [gh,zy,v5 r,mw]
theorem q3f:∀ {ds:List D} {bs:List Bool},q2n ds=some bs->ds=bs.map D.bl
 | [],ns,h=>by cases h;rfl
 | d :: r,ns,h=>by
  cases d <;> simp only [q2n] at h <;> first|(cases h;done)|skip
  obtain⟨is,h1,h2⟩:=gf.mp h;subst h2;rw [q3f h1];rfl
omit [Lam] [Pin] in
theorem q4k:∀(ns:List Bool),q2n (ns.map D.bl)=some ns
 | []=>rfl
 | n :: r=>by simp only [gh,q2n,q4k r,mw]
theorem RepL.bools{K:Frag}{H:Hp}: ∀ {bs:List Bool} {xs:List V},RepL K H (bs.map D.bl) xs->xs=bs.map V.bl
 | [],xs,h=>h.nil_inv
 | b :: bs,xs,h=>by
  obtain⟨x,r,rfl,h1,h2⟩:=h.cons_inv;rw [rep_bl.mp h1,RepL.bools h2];rfl
def o1L(z:List D->Option D): List D->Option D
 | [.lst ds]=>z ds
 | _=>none
theorem q7h{z:List D->Option D}{es:List D}{d:D}(h:o1L z es=some d): ∃ds,es=[.lst ds]/\z ds=some d:=by
 unfold o1L at h
 split at h
 ·exact⟨_,rfl,h⟩
 ·cases h
theorem rep1{K:Frag}{F:Hp}{d:D}{xs:List V}(h:RepL K F [d] xs): ∃x,xs=[x]/\Rep K F d x:=by
 obtain⟨x,r,rfl,h1,h2⟩:=h.cons_inv;cases h2.nil_inv;exact⟨x,rfl,h1⟩
abbrev qc6:List D->Option D:=o1L fun ds=>(zy ds).map fun ns=>.int ns.sum
abbrev q9g:List D->Option D:=o1L fun ds=>(q2n ds).map fun bs=>.bl (bs.all id)
abbrev qgi:List D->Option D:=o1L fun ds=>(q2n ds).map fun bs=>.bl (bs.any id)
theorem qj1(hc:X.calm=true): xv X (.builtin "sum") (rC X.K qc6):=by
 intro pins s σ H xs us Q I r h;obtain⟨F,ds,d,fh,rl,ho,q⟩:=h;obtain⟨es,rfl,h1⟩:=q7h ho;obtain⟨ns,h2,h3⟩:=gf.mp h1;subst h3;cases q8g h2;obtain⟨x,rfl,rx⟩:=rep1 rl;obtain⟨u,rfl,ru⟩:=r.one;obtain⟨a,ys,rfl,k1,k2⟩:=rep_lst.mp rx;cases ru;cases RepL.ints.mp k2;obtain⟨its,rv,pl,_⟩:=I.list (fh.seq k1);have hi:=intsAre_of rv;obtain⟨zs,hz⟩:=hi.allInts.items;have hl:s.heap.IsList a (intItems zs):=hz ▸ pl.isList;refine sum_intListG (I.ok.hd hc) hl fun h' tk t' hk=>?_;have e1:ns=zs.toList.map (·.1):=by
  rw [<- nums_intItems, <- hz];exact(show numsOf its.toArray.toList=ns from hi.numsOf).symm
 have e2:preSum (numAt zs) zs.size=ns.sum:=by
  rw [preSum_eq,u9 (by simp),e1]
 rw [e2];exact⟨.int ns.sum,H,I.kept hk,⟨_,rfl⟩,q _ F H (.refl fh) (rep_int.mpr rfl)⟩
theorem q4l:∀ {bs:List Bool} {us:List Value},Vals (bs.map V.bl) us->us=bs.map Value.bool
 | [],us,h=>by cases h;rfl
 | b :: bs,us,h=>by
  rw [gh] at h;cases h with
  | cons r t=>
   cases(show _=Value.bool b from r);rw [q4l t];rfl
theorem qqk(hc:X.calm=true): xv X (.builtin "all") (rC X.K q9g):=by
 intro pins s σ H xs us Q I r h;obtain⟨F,ds,d,fh,rl,ho,q⟩:=h;obtain⟨es,rfl,h1⟩:=q7h ho;obtain⟨bs,h2,h3⟩:=gf.mp h1;subst h3;cases q3f h2;obtain⟨x,rfl,rx⟩:=rep1 rl;obtain⟨u,rfl,ru⟩:=r.one;obtain⟨a,ys,rfl,k1,k2⟩:=rep_lst.mp rx;cases ru;cases k2.bools;obtain⟨its,rv,pl,_⟩:=I.list (fh.seq k1);cases q4l rv;have hlt:a<s.heap.objs.size:=by obtain⟨_,e,_⟩:=pl.isList;exact gi e
 refine call_all_walk (g13 pl.isList ?_);refine⟨s.heap.objs.size,[s.heap.objs.size,a],[s.heap.objs.size],(bs.map Value.bool).toArray.size,_,_,fun i=>(bs[i]?).getD true,rfl,Walks.list (A:=X.A.in1) (I.ok.hd hc) _ a (gw hlt) (bs.map Value.bool).toArray,
  ⟨⟨_,gp _ rfl,rfl,rfl⟩,pl.isList.push _⟩,fun i v s' Q' E' hP hQ=>?_,fun h' tk hk=>?_⟩
 ·have hP':(bs.map Value.bool)[i]? = some v:=by simpa using hP
  rw [gz] at hP';cases z:bs[i]? with
  | none=>rw [z] at hP';cases hP'
  | some b=>
   rw [z] at hP';cases hP';simp only [z,Option.getD_some] at hQ;exact um hQ
 ·have e:((List.range (bs.map Value.bool).toArray.size).all fun i=>(bs[i]?).getD true)=bs.all id:=by
   rw [gd,gr];exact LSm.range_all bs
  rw [e];exact⟨.bl _,H,I.kept (LSm.kept_iter hk),rfl,q _ F H (.refl fh) (rep_bl.mpr rfl)⟩
theorem qql(hc:X.calm=true): xv X (.builtin "any") (rC X.K qgi):=by
 intro pins s σ H xs us Q I r h;obtain⟨F,ds,d,fh,rl,ho,q⟩:=h;obtain⟨es,rfl,h1⟩:=q7h ho;obtain⟨bs,h2,h3⟩:=gf.mp h1;subst h3;cases q3f h2;obtain⟨x,rfl,rx⟩:=rep1 rl;obtain⟨u,rfl,ru⟩:=r.one;obtain⟨a,ys,rfl,k1,k2⟩:=rep_lst.mp rx;cases ru;cases k2.bools;obtain⟨its,rv,pl,_⟩:=I.list (fh.seq k1);cases q4l rv;have hlt:a<s.heap.objs.size:=by obtain⟨_,e,_⟩:=pl.isList;exact gi e
 refine call_any_walk (g13 pl.isList ?_);refine⟨s.heap.objs.size,[s.heap.objs.size,a],[s.heap.objs.size],(bs.map Value.bool).toArray.size,_,_,fun i=>(bs[i]?).getD false,rfl,Walks.list (A:=X.A.in1) (I.ok.hd hc) _ a (gw hlt) (bs.map Value.bool).toArray,
  ⟨⟨_,gp _ rfl,rfl,rfl⟩,pl.isList.push _⟩,fun i v s' Q' E' hP hQ=>?_,fun h' tk hk=>?_⟩
 ·have hP':(bs.map Value.bool)[i]? = some v:=by simpa using hP
  rw [gz] at hP';cases z:bs[i]? with
  | none=>rw [z] at hP';cases hP'
  | some b=>
   rw [z] at hP';cases hP';simp only [z,Option.getD_some] at hQ;exact um hQ
 ·have e:((List.range (bs.map Value.bool).toArray.size).any fun i=>(bs[i]?).getD false)=bs.any id:=by
   rw [gd,gr];exact LSm.range_any bs
  rw [e];exact⟨.bl _,H,I.kept (LSm.kept_iter hk),rfl,q _ F H (.refl fh) (rep_bl.mpr rfl)⟩
theorem boot_sum:bootBuiltins "sum" = some (.builtin "sum"):=by decide +kernel
theorem boot_all:bootBuiltins "all" = some (.builtin "all"):=by decide +kernel
theorem boot_any:bootBuiltins "any" = some (.builtin "any"):=by decide +kernel
theorem v7:bootBuiltins "len" = some (.builtin "len"):=by decide +kernel
theorem boot_tuple:bootBuiltins "tuple" = some (.type "tuple"):=by decide +kernel
theorem boot_int:bootBuiltins "int" = some (.type "int"):=by decide +kernel
theorem boot_bool:bootBuiltins "bool" = some (.type "bool"):=by decide +kernel
theorem boot_dict:bootBuiltins "dict" = some (.type "dict"):=by decide +kernel
def km:List D->Option D
 | [.tup ds]=>some (.int ds.length)
 | [.lst ds]=>some (.int ds.length)
 | [.str x]=>if x.length<=lim then some (.int x.length) else none
 | _=>none
theorem ky:xv X (.builtin "len") (rC X.K km):=qae qkk fun xs H Q ⟨F,ds,d,fh,rl,ho,q⟩=>by
 unfold km at ho
 split at ho
 ·cases ho
  obtain⟨x,rfl,rx⟩:=rep1 rl;obtain⟨a,ys,rfl,k1,k2⟩:=rep_tup.mp rx;exact⟨_,ys.length,rfl,.inr ⟨ys,qu fh k1,rfl⟩,by rw [<- k2.length];exact q _ F H (.refl fh) (rep_int.mpr rfl)⟩
 ·cases ho
  obtain⟨x,rfl,rx⟩:=rep1 rl;obtain⟨a,ys,rfl,k1,k2⟩:=rep_lst.mp rx;exact⟨_,ys.length,rfl,.inl ⟨ys,fh.seq k1,rfl⟩,by rw [<- k2.length];exact q _ F H (.refl fh) (rep_int.mpr rfl)⟩
 ·split at ho
  ·rename_i z
   cases ho;obtain⟨x,rfl,rx⟩:=rep1 rl;cases rep_str.mp rx;exact⟨_,_,rfl,⟨jt z,rfl⟩,q _ F H (.refl fh) (rep_int.mpr rfl)⟩
  ·cases ho
 ·cases ho
def yz:List D->Option D
 | [.tup ds]=>some (.tup ds)
 | [.lst ds]=>some (.tup ds)
 | _=>none
theorem kz:xv X (.type "tuple") (rC X.K yz):=qae qb6 fun xs H Q ⟨F,ds,d,fh,rl,ho,q⟩=>by
 unfold yz at ho
 split at ho
 ·cases ho
  obtain⟨x,rfl,rx⟩:=rep1 rl;obtain⟨a,ys,rfl,k1,k2⟩:=rep_tup.mp rx;exact⟨a,ys,rfl,.inr ⟨qu fh k1,q _ F H (.refl fh) rx⟩⟩
 ·cases ho
  obtain⟨x,rfl,rx⟩:=rep1 rl;obtain⟨a,ys,rfl,k1,k2⟩:=rep_lst.mp rx;refine⟨a,ys,rfl,.inl ⟨fh.seq k1,fun l hl=>?_⟩⟩;have gn:Grow F H (upd F l (.tup ys)) (upd H l (.tup ys)):=Grow.new fh hl;exact q _ _ _ gn (rep_tup.mpr ⟨l,ys,rfl,SqT.of z9,k2.mono gn.ff⟩)
 ·cases ho
def qsn(op:List D->Option (List D))(fa:FA): FA:=fun ρ =>(fa ρ).bind op
def qn3:List D->Option (List D)
 | [.tup ds]=>some ds
 | [.lst ds]=>some ds
 | _=>none
theorem qff{K:Frag}{H:Hp}{ds:List D}{xs:List V}{i:Int}{d:D}(h:RepL K H ds xs)(e:atI ds i=some d): ∃x,atI xs i=some x/\Rep K H d x:=by
 unfold atI at e ⊢;rw [<- h.length];cases q:ixN ds.length i with
 | none=>rw [q] at e;cases e
 | some j=>
  rw [q] at e;exact h.get e
def oIx:D->D->Option D
 | .tup ds,.int i=>atI ds i
 | .lst ds,.int i=>atI ds i
 | _,_=>none
theorem j8{a b:Expr}(ha:PE X a (tD X.K f))(hb:PE X b (tD X.K g))(hs:q9d b:=by intro _ _;rfl): PE X (.Subscript a b pos) (tD X.K (eOp oIx f g)):=je (qmz qq3 ha hb hs) fun σ H Q h=>by
 have h':=two h;obtain⟨F0,H0,F, ρ,d,r,hf,q⟩:=h';refine⟨F0,H0,F, ρ,d,r,hf,fun v F1 H1 g1 r1=>?_⟩;obtain⟨F0',H0',F', ρ',d',r',hf',q'⟩:=q v F1 H1 g1 r1;refine⟨F0',H0',F', ρ',d',r',hf',fun v2 F2 H2 g2 r2=>?_⟩;obtain⟨F3,d1,d2,d3,fh,k1,k2,k3,k4⟩:=q' v2 F2 H2 g2 r2;unfold oIx at k3
 split at k3
 ·obtain⟨p,ys,rfl,z1,z2⟩:=rep_tup.mp k1
  obtain⟨y,z3,z4⟩:=qff z2 k3;exact .inr (.inl ⟨p,ys,_,y,rfl,rep_int.mp k2,qu fh z1,z3,k4 y F3 H2 (.refl fh) z4⟩)
 ·obtain⟨p,ys,rfl,z1,z2⟩:=rep_lst.mp k1
  obtain⟨y,z3,z4⟩:=qff z2 k3;exact .inl ⟨p,ys,_,y,rfl,rep_int.mp k2,fh.seq z1,z3,k4 y F3 H2 (.refl fh) z4⟩
 ·cases k3
def eUn(o:D->Option D)(f:FE): FE:=fun ρ =>(f ρ).bind o
end
section
variable{prog:Program}{w:World}{A:Around}{E:Value->Shared->Prop}{s:Shared}
theorem qb7{t sl:Addr}{items:Array Value}{vl vu:Value}{lo hi:Option Int}{Q:Value->Shared->Prop}(ht:IsTup s.heap t items)(hs:s.heap.IsSliceOf sl vl vu .none)
  (pl:IsPart vl lo) (pu:IsPart vu hi) (w1:HT.sIx items.size 0 lo=0) (w2:HT.sIx items.size items.size hi=items.size) (h:Q (.ref t) s) :
  wpAny (model prog w) A (getItem (.ref t) (.ref sl)) Q E s:=by
 obtain⟨os,hos,hcs,hds⟩:=id hs;have hTs:s.TypeIs (.ref sl) "slice" :=⟨os,hos,hcs⟩
 unfold getItem
 try with_reducible refine mq ?_
 first|refine g0 (g7 ?_)|skip
 refine g0 (wpAny_sequenceKey ht.typeIs (by decide) (g0 (tx (name:=Str.ofString "__getitem__") ht.typeIs p6
  (n6 p6 ht.typeIs entry_tuple_getitem ?_ (args_tuple_getitem _ _)))))
 show wpAny _ _ (Builtin.Tuple.tupleItemsOf (.ref t) >>= _) _ _ s;refine g0 (tupleItemsOf_ ht (g0 (td hTs ?_)));rw [gx (by decide)];refine g0 (HT.sliceApplied_gen hs pl pu ?_);rw [w1,w2];show wpAny _ _ (if(((0:Nat):Int)==0&&(1:Int)==1&&(items.size-0)==items.size)=true then _ else _) _ _ s;rw [gx (by simp)];refine g0 ?_;unfold Builtin.Tuple.tupleIsExact;refine g0 (td ht.typeIs (g7 ?_))
 first
  | rw [gx (by decide)]
  | skip
 first
  | exact g0 (g07 (g0 (g7 (g7 ⟨_,rfl,g7 h⟩))))
  | exact g0 (g07 (g7 ⟨_,rfl,g7 h⟩))
  | exact g0 (g0 (g07 (g7 (g7 ⟨_,rfl,g7 h⟩))))
end
section
variable{X:Cx}{e:Expr}{es:List Expr}{pos:Pos}{f g:FE}{fa:FA}
def qtr(K:Frag): V->Option Int->Option Int->Hp->VK->Prop:=fun x lo hi H Q=>∃a xs,x=.ref a/\SqT K H a xs/\HT.sIx xs.length 0 lo=0/\HT.sIx xs.length xs.length hi=xs.length/\Q (.ref a) H
theorem ql5:SlR X (qtr X.K):=by
 intro pins s σ H x v vl vu lo hi sl Q I rx hs pl pu h;obtain⟨a,xs,rfl,hx,w1,w2,q⟩:=h;cases rx;obtain⟨its,r,ht,hz⟩:=I.tuple hx;have hlen:its.toArray.size=xs.length:=by rw [gd];exact r.length.symm
 exact⟨"tuple",_,p6.lookup,ht.typeIs,qb7 ht hs pl pu (by rw [hlen];exact w1) (by rw [hlen];exact w2) ⟨.ref a,H,I,rfl,q⟩⟩
def cutD(ds:List D)(lo hi:Option Int): List D:=(ds.drop (HT.sIx ds.length 0 lo)).take (HT.sIx ds.length ds.length hi-HT.sIx ds.length 0 lo)
def oSl:D->Option Int->Option Int->Option D
 | .tup ds,lo,hi=>some (.tup (cutD ds lo hi))
 | .lst ds,lo,hi=>some (.lst (cutD ds lo hi))
 | _,_,_=>none
abbrev FO:=Rho->Option (Option Int)
def oNo:FO:=fun _=>some none
def oAt(f:FE): FO:=fun ρ =>(f ρ).bind fun d=>match d with
 | .int i=>some (some i)
 | _=>none
def tDO(K:Frag)(f:FO): TO:=fun σ H Q=>∃F0 H0 F ρ i,RS K F0 H0 F H σ ρ /\ f ρ = some i/\∀F' H',Grow F H F' H'->Q i H'
theorem qj2{o:Option Expr}{t t':TO}(h:PO X o t)(i:∀ σ H Q,t' σ H Q->t σ H Q): PO X o t':=fun pins s σ H Q I q=>h pins s σ H Q I (i σ H Q q)
theorem qc7:PO X none (tDO X.K oNo):=qj2 qno fun σ H Q ⟨F0,H0,F, ρ,i,r,hf,q⟩=>by cases hf;exact q F H (.refl r.fh)
theorem q4m(h:PE X e (tD X.K f)): PO X (some e) (tDO X.K (oAt f)):=qj2 (qnp h) fun σ H Q ⟨F0,H0,F, ρ,i,r,hf,q⟩=>by
 obtain⟨d,h1,h2⟩:=g8.mp hf;cases d <;> simp only at h2 <;> first|(cases h2;done)|skip
 cases h2;exact⟨F0,H0,F, ρ,_,r,h1,fun v F' H' g' r'=>⟨_,rep_int.mp r',q F' H' g'⟩⟩
def eSl(f:FE)(lo hi:FO): FE:=fun ρ =>(f ρ).bind fun d=>(lo ρ).bind fun l=>(hi ρ).bind fun h=>oSl d l h
theorem q7i{a:Expr}{lo hi:Option Expr}{fl fh:FO}{p2:Pos}(ha:PE X a (tD X.K f))(hl:PO X lo (tDO X.K fl))(hh:PO X hi (tDO X.K fh)): PE X (.Subscript a (.Slice lo hi none p2) pos) (tD X.K (eSl f fl fh)):=
 je (qkn (sl_list.or (sl_tup.or ql5)) ha hl hh) fun σ H Q ⟨F0,H0,F, ρ,d,r,hf,q⟩=>by
  obtain⟨x,h1,hf⟩:=g8.mp hf;obtain⟨l,h2,hf⟩:=g8.mp hf;obtain⟨u,h3,h4⟩:=g8.mp hf;refine⟨F0,H0,F, ρ,x,r,h1,fun v F1 H1 g1 r1=>⟨F0,H0,F1, ρ,l,r.grow g1,h2,fun F2 H2 g2=>⟨F0,H0,F2, ρ,u,(r.grow g1).grow g2,h3,fun F3 H3 g3=>?_⟩⟩⟩;have gg:=g1.trans (g2.trans g3);have r3:Rep X.K F3 x v:=r1.mono (g2.ff.trans g3.ff);cases x with
  | tup ds=>
   cases h4;obtain⟨p,xs,rfl,k1,k2⟩:=rep_tup.mp r3;have hlen:=k2.length
   by_cases wh:HT.sIx xs.length 0 l=0/\HT.sIx xs.length xs.length u=xs.length
   ·refine .inr (.inr ⟨p,xs,rfl,qu g3.fh k1,wh.1,wh.2,q _ F3 H3 gg ?_⟩)
    have e:cutD ds l u=ds:=by
     unfold cutD;rw [hlen,wh.1,wh.2,g50,Nat.sub_zero, <- hlen,List.take_length]
    rw [e];exact r3
   ·refine .inr (.inl ⟨p,xs,rfl,qu g3.fh k1,wh,fun p' hp=>?_⟩)
    have gn:Grow F3 H3 (upd F3 p' (.tup (q1r xs l u))) (upd H3 p' (.tup (q1r xs l u))):=Grow.new g3.fh hp;refine q _ _ _ (gg.trans gn) (rep_tup.mpr ⟨p',_,rfl,SqT.of z9,?_⟩);unfold cutD q1r;rw [hlen];exact((k2.mono gn.ff).drop _).take _
  | lst ds=>
   cases h4;obtain⟨p,xs,rfl,k1,k2⟩:=rep_lst.mp r3;have hlen:=k2.length;refine .inl ⟨p,xs,rfl,g3.fh.seq k1,fun p' hp=>?_⟩;have gn:Grow F3 H3 (upd F3 p' (.lst (q1r xs l u))) (upd H3 p' (.lst (q1r xs l u))):=Grow.new g3.fh hp;refine q _ _ _ (gg.trans gn) (rep_lst.mpr ⟨p',_,rfl,SqL.of z9,?_⟩);unfold cutD q1r;rw [hlen];exact((k2.mono gn.ff).drop _).take _
  | _=>cases h4
def qc8:D->D->Option D
 | .tup xs,.tup ys=>if xs.length+ys.length<=lim then some (.tup (xs++ys)) else none
 | .lst xs,.lst ys=>if xs.length+ys.length<=lim then some (.lst (xs++ys)) else none
 | _,_=>none
theorem qqm:OpR X (binaryOp .Add) (rD X.K qc8):=by
 intro pins s σ H x y v u Q I rx ry h;obtain⟨F,d1,d2,d,fh,r1,r2,ho,q⟩:=h;unfold qc8 at ho
 split at ho
 ·rename_i ds es
  split at ho
  ·rename_i hl
   cases ho;obtain⟨a,xs,rfl,k1,k2⟩:=rep_tup.mp r1;obtain⟨b,ys,rfl,k3,k4⟩:=rep_tup.mp r2
   by_cases hd:ds=[]
   ·subst hd
    cases k2.nil_inv;cases rx;cases ry;obtain⟨i1,v1,⟨⟨c1,dd1,dt1,sl1⟩,o1,e1,n1,t1⟩,_⟩:=I.tuple (qu fh k1);obtain⟨i2,v2,⟨⟨c2,dd2,dt2,sl2⟩,o2,e2,n2,t2⟩,_⟩:=I.tuple (qu fh k3);simp only at e1 t1 e2 t2;subst e1 t1 e2 t2;cases v1;exact g41 ⟨_,o1,rfl⟩ ⟨_,o2,rfl⟩ g42 seq_tuple_add g2e g27 (g1v _ _)
     (tuple_addW0 a b #[] i2.toArray n1 n2 dd1 dd2 sl1 sl2 rfl) ⟨o1,o2,⟨.ref b,H,I,rfl,q _ F H (.refl fh) (by simpa using r2)⟩⟩
   ·refine qnq pins s σ H _ _ v u Q I rx ry ⟨a,b,xs,ys,rfl,rfl,qu fh k1,qu fh k3,fun z=>hd ?_,jt (by rw [<- k2.length, <- k4.length];exact hl),fun z=>?_,fun z p hp=>?_⟩
    ·have:=k2.length;rw [z] at this;exact g32 this
    ·have e:es=[]:=by have:=k4.length;rw [z] at this;exact g32 this
     subst e;rw [pk] at q;exact q _ F H (.refl fh) r1
    ·have gn:Grow F H (upd F p (.tup (xs++ys))) (upd H p (.tup (xs++ys))):=Grow.new fh hp
     exact q _ _ _ gn (rep_tup.mpr ⟨p,_,rfl,SqT.of z9,(k2.mono gn.ff).append (k4.mono gn.ff)⟩)
  ·cases ho
 ·rename_i ds es
  split at ho
  ·rename_i hl
   cases ho;obtain⟨a,xs,rfl,k1,k2⟩:=rep_lst.mp r1;obtain⟨b,ys,rfl,k3,k4⟩:=rep_lst.mp r2;cases rx;cases ry;obtain⟨i1,v1,⟨⟨c1,dd1,dt1,sl1⟩,n1,o1,e1,g1,t1⟩,_⟩:=I.list (fh.seq k1);obtain⟨i2,v2,⟨⟨c2,dd2,dt2,sl2⟩,n2,o2,e2,g2,t2⟩,_⟩:=I.list (fh.seq k3);simp only at e1 t1 e2 t2;subst e1 t1 e2 t2;have hz:xs.length+ys.length<=sizeLine:=jt (by rw [<- k2.length, <- k4.length];exact hl);refine g41 ⟨_,o1,rfl⟩ ⟨_,o2,rfl⟩ noFill_list_add seq_list_add PySem.F.slot_list_add PySem.F.entry_list_add (PySem.F.args_list_add_2 _ _)
    (list_addW a b i1.toArray i2.toArray n1 n2 dd1 dd2 sl1 sl2 (by rw [gd,gd, <- v1.length, <- v2.length];exact hz)) ⟨o1,o2,?_⟩
   have ea:i1.toArray++i2.toArray=(i1++i2).toArray:=by simp
   rw [ea];have gn:Grow F H (upd F s.heap.objs.size (.lst (xs++ys))) (upd H s.heap.objs.size (.lst (xs++ys))):=Grow.new fh I.fresh;exact⟨.ref _,_,I.lnew (t':=s.toks) (v1.append v2) (by rw [mn];exact hz),rfl,q _ _ _ gn (rep_lst.mpr ⟨_,_,rfl,SqL.of z9,(k2.mono gn.ff).append (k4.mono gn.ff)⟩)⟩
  ·cases ho
 ·cases ho
abbrev zq:D->D->Option D:=fun x y=>(oAdd x y).or (qc8 x y)
theorem jb:OpR X (binaryOp .Add) (rD X.K zq):=q5g qq8 qqm
def flat(d:D): Bool:=(flD d).isSome
def eqF:D->D->Bool
 | .non,.non=>true
 | .bl a,.bl b=>a==b
 | .bl a,.int b=>(if a then 1 else 0)==b
 | .int a,.bl b=>a==(if b then 1 else 0)
 | .int a,.int b=>a==b
 | .str a,.str b=>a==b
 | _,_=>false
def inF(d:D)(ds:List D): Bool:=ds.any fun e=>eqF e d
theorem qbe{K:Frag}{H:Hp}{d e:D}{x y:V}(h1:flat d=true)(h2:flat e=true)(r1:Rep K H d x)(r2:Rep K H e y): eqV x y=eqF d e/\q06 x=true/\q06 y=true:=by
 cases d <;> first|(cases h1;done)|skip
 all_goals (cases e <;> first|(cases h2;done)|skip)
 all_goals (first|(cases rep_non.mp r1)|(cases rep_bl.mp r1)|(cases rep_int.mp r1)|(cases rep_str.mp r1))
 all_goals (first|(cases rep_non.mp r2)|(cases rep_bl.mp r2)|(cases rep_int.mp r2)|(cases rep_str.mp r2))
 all_goals exact⟨rfl,rfl,rfl⟩
theorem qgj{K:Frag}{H:Hp}{d:D}{x:V}(h1:flat d=true)(r1:Rep K H d x): ∀ {ds:List D} {xs:List V},ds.all flat=true->RepL K H ds xs->inV x xs=inF d ds/\q06 x=true/\xs.all q06=true
 | [],xs,_,r=>by cases r.nil_inv;exact⟨rfl,(qbe h1 h1 r1 r1).2.1,rfl⟩
 | e :: ds,xs,h2,r=>by
  obtain⟨y,ys,rfl,k1,k2⟩:=r.cons_inv;rw [g2f,mf] at h2;obtain⟨z1,z2,z3⟩:=qgj h1 r1 h2.2 k2;obtain⟨w1,w2,w3⟩:=qbe h2.1 h1 k1 r1;refine⟨?_,z2,?_⟩
  ·show(eqV y x || inV x ys)=(eqF e d || inF d ds)
   rw [w1,z1]
  ·rw [g2f,w2,z3];rfl
def oIn(neg:Bool): D->D->Option D
 | d,.tup ds=>if flat d&&ds.all flat then some (.bl (if neg then !inF d ds else inF d ds)) else none
 | d,.lst ds=>if flat d&&ds.all flat then some (.bl (if neg then !inF d ds else inF d ds)) else none
 | _,_=>none
theorem qn4{K:Frag}{neg:Bool}{x y:V}{H:Hp}{Q:VK}(h:rD K (oIn neg) x y H Q): rIn K neg x y H Q:=by
 obtain⟨F,d1,d2,d,fh,r1,r2,ho,q⟩:=h;cases d2 <;> simp only [oIn] at ho <;> first|(cases ho;done)|skip
 ·split at ho
  ·rename_i hc
   cases ho;rw [mf] at hc;obtain⟨p,xs,rfl,k1,k2⟩:=rep_tup.mp r2;obtain⟨z1,z2,z3⟩:=qgj hc.1 r1 hc.2 k2;exact⟨p,xs,rfl,.inr (qu fh k1),z2,z3,by rw [z1];exact q _ F H (.refl fh) (rep_bl.mpr rfl)⟩
  ·cases ho
 ·split at ho
  ·rename_i hc
   cases ho;rw [mf] at hc;obtain⟨p,xs,rfl,k1,k2⟩:=rep_lst.mp r2;obtain⟨z1,z2,z3⟩:=qgj hc.1 r1 hc.2 k2;exact⟨p,xs,rfl,.inl (fh.seq k1),z2,z3,by rw [z1];exact q _ F H (.refl fh) (rep_bl.mpr rfl)⟩
  ·cases ho
theorem qso:OpR X (compareOp .In) (rD X.K (oIn false)):=q10 qin fun x y H Q h=>qn4 h
theorem ql6:OpR X (compareOp .NotIn) (rD X.K (oIn true)):=q10 qbv fun x y H Q h=>qn4 h
end
mutual
def eqD:D->D->Bool
 | .tup ds,.tup es=>eqL ds es
 | .lst ds,.lst es=>eqL ds es
 | d,e=>eqF d e
def eqL:List D->List D->Bool
 | [],[]=>true
 | d :: ds,e :: es=>eqD d e&&eqL ds es
 | _,_=>false
end
mutual
def okE:D->D->Bool
 | .tup ds,.tup es=>yu ds es
 | .lst ds,.lst es=>yu ds es
 | d,e=>flat d&&flat e
def yu:List D->List D->Bool
 | d :: ds,e :: es=>okE d e&&yu ds es
 | _,_=>true
end
mutual
def q9h:D->Nat
 | .tup ds=>y6 ds+1
 | .lst ds=>y6 ds+1
 | _=>0
def y6:List D->Nat
 | []=>0
 | d :: ds=>max (q9h d) (y6 ds)
end
def eqJ(ds es:List D)(j:Nat): Bool:=match ds[j]?,es[j]? with
 | some d,some e=>eqD d e
 | _,_=>true
theorem vn:∀(ds es:List D),((List.range (min ds.length es.length)).all (eqJ ds es)&&ds.length==es.length)=eqL ds es
 | [],[]=>by simp [eqL]
 | [],e :: es=>by simp [eqL]
 | d :: ds,[]=>by simp [eqL]
 | d :: ds,e :: es=>by
  have ih:=vn ds es;have e1:min (d :: ds).length (e :: es).length=min ds.length es.length+1:=by simp only [nj];lia
  rw [e1,g10,g2f,g56];have e2:(eqJ (d :: ds) (e :: es) ∘ Nat.succ)=eqJ ds es:=by funext j;simp [eqJ]
  have e3:eqJ (d :: ds) (e :: es) 0=eqD d e:=by simp [eqJ]
  have e4:((d :: ds).length==(e :: es).length)=(ds.length==es.length):=by simp
  rw [e2,e3,e4,Bool.and_assoc,ih];simp only [eqL]
theorem qc9{d e:D}(h1:flat d=true)(h2:flat e=true): eqD d e=eqF d e:=by
 cases d <;> first|(cases h1;done)|skip
 all_goals (cases e <;> first|(cases h2;done)|skip)
 all_goals simp only [eqD]
section
variable{X:Cx}{pins:List (Addr×Obj)}{σ : St}{F H:Hp}{s:Shared}
theorem qj3{A:Around}{d e:D}{x y:V}{u v:Value}(h1:flat d=true)(h2:flat e=true)(r1:Rep X.K F d x)(r2:Rep X.K F e y)(q1:RelV x u)(q2:RelV y v): SeqAt.EqAt A s u v (eqD d e):=by
 obtain⟨z1,z2,z3⟩:=qbe h1 h2 r1 r2;rw [qc9 h1 h2, <- z1];exact qil q1 q2 z2 z3
theorem qca{d e:D}(h:okE d e=true): (∃ds es,d=.tup ds/\e=.tup es/\yu ds es=true)\/(∃ds es,d=.lst ds/\e=.lst es/\yu ds es=true)\/(flat d=true/\flat e=true):=by
 cases d <;> cases e <;> simp only [okE,mf] at h <;> first
  | exact .inl ⟨_,_,rfl,rfl,h⟩
  | exact .inr (.inl ⟨_,_,rfl,rfl,h⟩)
  | exact .inr (.inr h)
theorem qfg(I:Inv X pins σ H s)(fh:Same F H): ∀ {d e:D} {x:V},okE d e=true->Rep X.K F d x->Rep X.K F e x->eqD d e=true:=by
 suffices hh:∀n,(∀d e x,sizeOf d<n->okE d e=true->Rep X.K F d x->Rep X.K F e x->eqD d e=true) from fun {d e x}=>hh (sizeOf d+1) d e x (g02 _)
 intro n
 induction n with
 | zero=>intro d e x h;exact absurd h (uh _)
 | succ n ih=>
  intro d e x hn ok r1 r2;have seq:∀(ds es:List D) (xs:List V),sizeOf ds<n->yu ds es=true->RepL X.K F ds xs->RepL X.K F es xs->eqL ds es=true:=by
   intro ds
   induction ds with
   | nil=>
    intro es xs _ _ k1 k2;cases k1.nil_inv;cases es with
    | nil=>simp only [eqL]
    | cons e es=>obtain⟨_,_,z,_⟩:=k2.cons_inv;cases z
   | cons d ds ihd=>
    intro es xs hs ho k1 k2;obtain⟨x,r,rfl,a1,a2⟩:=k1.cons_inv;cases es with
    | nil=>cases k2.nil_inv
    | cons e es=>
     obtain⟨x',r',z,b1,b2⟩:=k2.cons_inv;cases z;simp only [yu,mf] at ho;have hs1:sizeOf d<n:=by simp only [g18] at hs;lia
     have hs2:sizeOf ds<n:=by simp only [g18] at hs;lia
     simp only [eqL,mf];exact⟨ih d e x hs1 ho.1 a1 b1,ihd es r hs2 ho.2 a2 b2⟩
  rcases qca ok with⟨ds,es,rfl,rfl,ho⟩|⟨ds,es,rfl,rfl,ho⟩|⟨h1,h2⟩
  ·obtain⟨a,xs,rfl,k1,k2⟩:=rep_tup.mp r1
   obtain⟨b,ys,z,k3,k4⟩:=rep_tup.mp r2;cases z;cases I.tuple_inj (qu fh k1) (qu fh k3);simp only [eqD];exact seq ds es xs (by simp only [D.tup.sizeOf_spec] at hn;lia) ho k2 k4
  ·obtain⟨a,xs,rfl,k1,k2⟩:=rep_lst.mp r1
   obtain⟨b,ys,z,k3,k4⟩:=rep_lst.mp r2;cases z;cases I.list_inj (fh.seq k1) (fh.seq k3);simp only [eqD];exact seq ds es xs (by simp only [D.lst.sizeOf_spec] at hn;lia) ho k2 k4
  ·obtain⟨z1,_⟩:=qbe h1 h2 r1 r2
   rw [qc9 h1 h2, <- z1];cases d <;> first|(cases h1;done)|skip
   ·cases rep_non.mp r1;rfl
   ·cases rep_bl.mp r1;simp [eqV]
   ·cases rep_int.mp r1;simp [eqV]
   ·cases rep_str.mp r1;simp [eqV]
theorem qj4 (I:Inv X pins σ H s) (fh:Same F H):∀ {d e:D} {x y:V} {u v:Value} (A:Around),okE d e=true->A.units+q9h d<cLine->Rep X.K F d x->Rep X.K F e y->RelV x u->RelV y v->SeqAt.EqAt A s u v (eqD d e):=by
 suffices hh:∀n,(∀d e x y u v (A:Around),sizeOf d<n->okE d e=true->A.units+q9h d<cLine->Rep X.K F d x->Rep X.K F e y->RelV x u->RelV y v->SeqAt.EqAt A s u v (eqD d e)) from
  fun {d e x y u v} A=>hh (sizeOf d+1) d e x y u v A (g02 _)
 intro n
 induction n with
 | zero=>intro d e x y u v A h;exact absurd h (uh _)
 | succ n ih=>
  intro d e x y u v A hn ok hu r1 r2 q1 q2;have seq:∀(ds es:List D) (xs ys:List V) (us vs:List Value) (A:Around),sizeOf ds<n->yu ds es=true->A.units+y6 ds<cLine->RepL X.K F ds xs->RepL X.K F es ys->Vals xs us->Vals ys vs ->
    ∀j (h1:j<us.length) (h2:j<vs.length),SeqAt.EqAt A s us[j] vs[j] (eqJ ds es j):=by
   intro ds
   induction ds with
   | nil=>
    intro es xs ys us vs A _ _ _ k1 _ w1 _ j h1;cases k1.nil_inv;cases w1;exact absurd h1 (uh _)
   | cons d ds ihd=>
    intro es xs ys us vs A hs ho hu k1 k2 w1 w2 j h1 h2;obtain⟨x,r,rfl,a1,a2⟩:=k1.cons_inv;cases w1 with
    | cons p1 p2=>
     cases es with
     | nil=>cases k2.nil_inv;cases w2;exact absurd h2 (uh _)
     | cons e es=>
      obtain⟨y,r',rfl,b1,b2⟩:=k2.cons_inv;cases w2 with
      | cons p3 p4=>
       simp only [yu,mf] at ho;have hs1:sizeOf d<n:=by simp only [g18] at hs;lia
       have hs2:sizeOf ds<n:=by simp only [g18] at hs;lia
       simp only [y6] at hu;cases j with
       | zero=>
        have e0:eqJ (d :: ds) (e :: es) 0=eqD d e:=by simp [eqJ]
        rw [e0];exact ih d e x y _ _ A hs1 ho.1 (by lia) a1 b1 p1 p3
       | succ j=>
        have e0:eqJ (d :: ds) (e :: es) (j+1)=eqJ ds es j:=by simp [eqJ]
        rw [e0];exact ihd es r r' _ _ A hs2 ho.2 (by lia) a2 b2 p2 p4 j (by simpa using h1) (by simpa using h2)
  rcases qca ok with⟨ds,es,rfl,rfl,ho⟩|⟨ds,es,rfl,rfl,ho⟩|⟨h1,h2⟩
  ·have rr:=qfg I fh ok r1
   obtain⟨a,xs,rfl,k1,k2⟩:=rep_tup.mp r1;obtain⟨b,ys,rfl,k3,k4⟩:=rep_tup.mp r2;cases q1;cases q2
   by_cases hab:a=b
   ·subst hab
    rw [rr r2];exact g4m _
   ·obtain⟨i1,v1,t1,_⟩:=I.tuple (qu fh k1)
    obtain⟨i2,v2,t2,_⟩:=I.tuple (qu fh k3);simp only [q9h] at hu;refine SeqAt.EqAt.of_refs hab ?_;have hq:=seq ds es xs ys i1 i2 A.in1 (by simp only [D.tup.sizeOf_spec] at hn;lia) ho (by show A.units+1+y6 ds<cLine;lia) k2 k4 v1 v2;have:=SeqAt.RcAt.tuples (A:=A) (e:=eqJ ds es) (show s.heap.IsTuple a i1.toArray from t1) (show s.heap.IsTuple b i2.toArray from t2) (by lia) (fun j h1 h2=>by simpa using hq j (by simpa using h1) (by simpa using h2));simp only [gd, <- v1.length, <- v2.length, <- k2.length, <- k4.length,vn] at this
    simpa only [eqD] using this
  ·have rr:=qfg I fh ok r1
   obtain⟨a,xs,rfl,k1,k2⟩:=rep_lst.mp r1;obtain⟨b,ys,rfl,k3,k4⟩:=rep_lst.mp r2;cases q1;cases q2
   by_cases hab:a=b
   ·subst hab
    rw [rr r2];exact g4m _
   ·obtain⟨i1,v1,t1,_⟩:=I.list (fh.seq k1)
    obtain⟨i2,v2,t2,_⟩:=I.list (fh.seq k3);simp only [q9h] at hu;refine SeqAt.EqAt.of_refs hab ?_;have hq:=seq ds es xs ys i1 i2 A.in1 (by simp only [D.lst.sizeOf_spec] at hn;lia) ho (by show A.units+1+y6 ds<cLine;lia) k2 k4 v1 v2;have hl1:i1.length=ds.length:=by rw [<- v1.length, <- k2.length]
    have hl2:i2.length=es.length:=by rw [<- v2.length, <- k4.length]
    simp only [eqD]
    by_cases hl:ds.length=es.length
    ·have:=SeqAt.RcAt.lists (A:=A) (e:=eqJ ds es) t1.isList t2.isList (by rw [gd,gd,hl1,hl2];exact hl) (by lia) (fun j h1 h2=>by simpa using hq j (by simpa using h1) (by simpa using h2))
     have e1:(List.range i1.toArray.size).all (eqJ ds es)=eqL ds es:=by
      rw [<- vn,gd,hl1, <- hl,g57];simp
     rw [e1] at this;exact this
    ·have e1:eqL ds es=false:=by rw [<- vn];simp [hl]
     rw [e1];exact SeqAt.RcAt.lists_lengths t1.isList t2.isList (by rw [gd,gd,hl1,hl2];simpa using hl) (by lia)
  ·exact qj3 h1 h2 r1 r2 q1 q2
def qcb:D->D->Option D
 | .tup ds,.tup es=>if yu ds es&&decide (y6 ds<=60) then some (.bl (eqL ds es)) else none
 | .lst ds,.lst es=>if yu ds es&&decide (y6 ds<=60) then some (.bl (eqL ds es)) else none
 | _,_=>none
theorem qqn(hu:X.A.units+64<cLine): OpR X (compareOp .Eq) (rD X.K qcb):=by
 intro pins s σ H x y v u Q I rx ry h;obtain⟨F,d1,d2,d,fh,r1,r2,ho,q⟩:=h;have part:∀ {ds es:List D} {xs ys:List V} {us vs:List Value},yu ds es=true->y6 ds<=60->RepL X.K F ds xs->RepL X.K F es ys->Vals xs us->Vals ys vs ->
   ∀j (h1:j<us.length) (h2:j<vs.length),SeqAt.EqAt X.A.in1 s us[j] vs[j] (eqJ ds es j):=by
  intro ds
  induction ds with
  | nil=>
   intro es xs ys us vs _ _ k1 _ w1 _ j h1;cases k1.nil_inv;cases w1;exact absurd h1 (uh _)
  | cons d ds ihd=>
   intro es xs ys us vs ho hd k1 k2 w1 w2 j h1 h2;obtain⟨x,r,rfl,a1,a2⟩:=k1.cons_inv;cases w1 with
   | cons p1 p2=>
    cases es with
    | nil=>cases k2.nil_inv;cases w2;exact absurd h2 (uh _)
    | cons e es=>
     obtain⟨y,r',rfl,b1,b2⟩:=k2.cons_inv;cases w2 with
     | cons p3 p4=>
      simp only [yu,mf] at ho;simp only [y6] at hd;cases j with
      | zero=>
       have e0:eqJ (d :: ds) (e :: es) 0=eqD d e:=by simp [eqJ]
       rw [e0];exact qj4 I fh _ ho.1 (by show X.A.units+1+q9h d<cLine;lia) a1 b1 p1 p3
      | succ j=>
       have e0:eqJ (d :: ds) (e :: es) (j+1)=eqJ ds es j:=by simp [eqJ]
       rw [e0];exact ihd ho.2 (by lia) a2 b2 p2 p4 j (by simpa using h1) (by simpa using h2)
 unfold qcb at ho
 split at ho
 ·rename_i ds es
  split at ho
  ·rename_i hc
   cases ho;rw [mf] at hc;obtain⟨a,xs,rfl,k1,k2⟩:=rep_tup.mp r1;obtain⟨b,ys,rfl,k3,k4⟩:=rep_tup.mp r2;cases rx;cases ry;obtain⟨i1,v1,t1,_⟩:=I.tuple (qu fh k1);obtain⟨i2,v2,t2,_⟩:=I.tuple (qu fh k3);have hq:=part hc.1 (uo hc.2) k2 k4 v1 v2;refine SeqAt.eq_tupleAt (e:=eqJ ds es) (show s.heap.IsTuple a i1.toArray from t1) (show s.heap.IsTuple b i2.toArray from t2) (by lia) (fun j h1 h2=>by simpa using hq j (by simpa using h1) (by simpa using h2)) ?_;simp only [gd, <- v1.length, <- v2.length, <- k2.length, <- k4.length,vn];exact⟨.bl _,H,I,rfl,q _ F H (.refl fh) (rep_bl.mpr rfl)⟩
  ·cases ho
 ·rename_i ds es
  split at ho
  ·rename_i hc
   cases ho;rw [mf] at hc;obtain⟨a,xs,rfl,k1,k2⟩:=rep_lst.mp r1;obtain⟨b,ys,rfl,k3,k4⟩:=rep_lst.mp r2;cases rx;cases ry;obtain⟨i1,v1,t1,_⟩:=I.list (fh.seq k1);obtain⟨i2,v2,t2,_⟩:=I.list (fh.seq k3);have hq:=part hc.1 (uo hc.2) k2 k4 v1 v2;have hl1:i1.length=ds.length:=by rw [<- v1.length, <- k2.length]
   have hl2:i2.length=es.length:=by rw [<- v2.length, <- k4.length]
   by_cases hl:ds.length=es.length
   ·refine SeqAt.eq_listAt (e:=eqJ ds es) t1.isList t2.isList (by rw [gd,gd,hl1,hl2];exact hl) (by lia) (fun j h1 h2=>by simpa using hq j (by simpa using h1) (by simpa using h2)) ?_
    have e1:(List.range i1.toArray.size).all (eqJ ds es)=eqL ds es:=by
     rw [<- vn,gd,hl1, <- hl,g57];simp
    rw [e1];exact⟨.bl _,H,I,rfl,q _ F H (.refl fh) (rep_bl.mpr rfl)⟩
   ·have e1:eqL ds es=false:=by rw [<- vn];simp [hl]
    rw [e1] at q;exact SeqAt.eq_list_lengthsAt t1.isList t2.isList (by rw [gd,gd,hl1,hl2];simpa using hl) (by lia) ⟨.bl _,H,I,rfl,q _ F H (.refl fh) (rep_bl.mpr rfl)⟩
  ·cases ho
 ·cases ho
abbrev oEq:D->D->Option D:=fun x y=>(ql0 x y).or (qcb x y)
theorem wg(hu:X.A.units+64<cLine): OpR X (compareOp .Eq) (rD X.K oEq):=q5g qqc (qqn hu)
end
def itN:Bool->String
 | true=>"list_iterator"
 | false=>"tuple_iterator"
def SI(b:Bool)(h:Heap)(it l:Addr)(k:Nat): Prop:=∃o,h.get? it=some o/\o.cls=.type (itN b)/\o.data=.fields #[.ref l,.int k 0]
theorem SI.keep{b:Bool}{h h':Heap}{it l:Addr}{k:Nat}(x:SI b h it l k)(e:∀o,h.get? it=some o->h'.get? it=some o): SI b h' it l k:=let⟨o,ho,r⟩:=x; ⟨o,e o ho,r⟩
section
variable{prog:Program}{w:World}{A:Around}{E:Value->Shared->Prop}{s:Shared}
end
section
variable{X:Cx}{pins:List (Addr×Obj)}{σ : St}{H:Hp}{s:Shared}{h':Heap}
end
section
variable{X:Cx}{pos:Pos}{elts:List Expr}{x1:Nat}{tp:Pos}
end
section
variable{X:Cx}{e:Expr}{es:List Expr}{kws:List Keyword}{pos:Pos}{f g:FE}{fa fk:FA}
def qts(n m:Nat)(fa fk:FA): FA:=fun ρ =>(fa ρ).bind fun ds=>(fk ρ).bind fun es=>if ds.length=n/\es.length=m then some (ds++es) else none
theorem qsp{K:Frag}{fd:FuncData}{ps:List Str}{dv:List Value}(n:Nat)(hn:n+dv.length=ps.length)(h:∀(s:Shared) (us:List Value),K.In s.heap->us.length=n->BindsTo s fd ⟨us,[]⟩ (ps.zip (us++dv))): Binds K fd ps dv:=
 fun s us hk hl=>h s us hk (by rw [mn] at hl;omega)
def qsq(ar:Nat)(op:List D->Option D): List D->Option D:=fun ds=>if ds.length=ar then op ds else none
end
structure Cal(P:Program)(w:World)(K:Frag)(mg:Str->Option Value)(base:Heap)(x:Str)(k:Nat)(ps:List Str)(ar:Nat)(op:List D->Option D)(fn:Addr)(fd:FuncData): Prop where
 ok:FnOk P w K mg base CX0 k fn fd ps (spD K ar op)
 mg:mg x=some (.ref fn)
 kp:PySem.W.keepIn K (.ref fn)=true
section
variable{X:Cx}{e:Expr}{es:List Expr}{kws:List Keyword}{pos p:Pos}{fa fk:FA}{k ar k':Nat}{fn:Addr}{fd:FuncData}{ps ks:List Str}{op:List D->Option D}{x:Str}
theorem qz(C:Cal X.prog X.w X.K X.mg X.base x k ps ar op fn fd)(b:Binds X.K fd ps [])(hr:Room k' X.A)(hk:k<=k')(hg:Gl X x)(ha:PA X (e :: es) (tDA X.K fa))(hdb:(x==("__debug__" : Str))=false:=by decide)
  (he:starEach (e :: es) X.env=(false,eval e X.env) :: starEach es X.env:=by rfl) (hpl:(backTo pos (starEach es X.env)).any (·.1)=false:=by rfl):PE X (.Call (.Name x p) (e :: es) [] pos) (tD X.K (ql (qp ar [] op) fa)):=
 qfa C.ok (hr.mono hk) hg C.mg C.kp b .nil (fun H=>.nil) ha hdb he hpl
theorem qfh{dvs:List V}{dds:List D}{dv:List Value}(C:Cal X.prog X.w X.K X.mg X.base x k ps ar op fn fd)(b:Binds X.K fd ps dv)(hd:Vals dvs dv)(hdd:∀H,RepL X.K H dds dvs)(hr:Room k' X.A)(hk:k<=k')(hg:Gl X x)(ha:PA X (e :: es) (tDA X.K fa))(hdb:(x==("__debug__" : Str))=false:=by decide)
  (he:starEach (e :: es) X.env=(false,eval e X.env) :: starEach es X.env:=by rfl) (hpl:(backTo pos (starEach es X.env)).any (·.1)=false:=by rfl):PE X (.Call (.Name x p) (e :: es) [] pos) (tD X.K (ql (qp ar dds op) fa)):=
 qfa C.ok (hr.mono hk) hg C.mg C.kp b hd hdd ha hdb he hpl
theorem q6m{i:Int}(hg:Gl X x)(hm:∃t,X.mg x=some (.int i t))(hdb:(x==("__debug__" : Str))=false:=by decide): PE X (.Name x p) (tD X.K (eC (.int i))):=by
 obtain⟨t,hm⟩:=hm;exact q2i (vv hg hm (v:=.int i) ⟨t,rfl⟩ hdb) fun _=>rep_int.mpr rfl
def q5m:D->Option D
 | .int i=>some (.int (-i))
 | _=>none
theorem qcc{f:FE}(ha:PE X e (tD X.K f)): PE X (.UnaryOp .USub e pos) (tD X.K (eUn q5m f)):=by
 intro pins s σ H Q I h;obtain⟨F0,H0,F, ρ,d,r,hf,q⟩:=h;obtain⟨d',h1,h2⟩:=g8.mp hf;cases d' <;> simp only [q5m] at h2 <;> first|(cases h2;done)|skip
 cases h2;refine UnaryOp_ (thn (ha pins s σ H (fun v H'=>∃F',Grow F H F' H'/\Rep X.K F' (.int _) v) I ⟨F0,H0,F, ρ,_,r,h1,fun v F' H' g' r'=>⟨F',g',r'⟩⟩) fun v s1 ⟨x,H1,I1,r1,F',g',r'⟩=>?_);cases rep_int.mp r';obtain⟨t,rfl⟩:=r1;exact neg_int ⟨.int _,H1,I1.tok _,⟨_,rfl⟩,q _ F' H1 g' (rep_int.mpr rfl)⟩
end
structure Fun2(K:Frag)(x qual:Str)(st:Stmt)(dV:Value)(f:Addr)(fd:FuncData): Prop where
 ex:∃(oc:Value) (od:Option Addr) (kV doc pm:Value) (an:Option Addr) (cdv ct:Value) (osl:Array (Option Value)),
  fd=PySem.W.fnOf x qual (we st) (qx st) (qh st) dV kV doc pm an cdv ct/\K.lookup f=some ⟨oc,od,.func fd,osl⟩/\PySem.W.codeIn K cdv qual=true
 kp:PySem.W.keepIn K (.ref f)=true
section
variable{P:Program}{w:World}{K:Frag}{mg:Str->Option Value}{base:Heap}{x qual:Str}{st:Stmt}{dV:Value}{f:Addr}{fd:FuncData}{N ps:List Str}
theorem Fun2.ok{k:Nat}{u:FS}(F:Fun2 K x qual st dV f fd)(S:FnScope N ps (qh st))
  (hb:∀(cdv:Value) (A:Around) (outer:List Env) (s:Shared) (H:Hp) (E:XK),Room k (A.deeper (envOfC qual (qh st) s.heap.objs.size f cdv))->PSs (z5 CX0 P w K mg base N qual (qh st) f cdv A outer s H E).nox (qx st) (tDS K u)) :
  FnOk P w K mg base CX0 (k+1) f fd ps (spD K ps.length (zj N.length u)):=by
 obtain⟨oc,od,kV,doc,pm,an,cdv,ct,osl,rfl,lk,hcd⟩:=F.ex;exact qsk lk hcd S fun A outer s H E hr=>hb cdv A outer s H E hr
theorem Fun2.okn{k n ar k1:Nat}{u:FS}(F:Fun2 K x qual st dV f fd)(S:FnScope N ps (qh st))(hn:N.length=n)(ha:ps.length=ar)(hk:k+1=k1)
  (hb:∀(cdv:Value) (A:Around) (outer:List Env) (s:Shared) (H:Hp) (E:XK),Room k (A.deeper (envOfC qual (qh st) s.heap.objs.size f cdv))->PSs (z5 CX0 P w K mg base N qual (qh st) f cdv A outer s H E).nox (qx st) (tDS K u)) :
  FnOk P w K mg base CX0 k1 f fd ps (spD K ar (zj n u)):=by
 subst hn ha hk;exact F.ok S hb
theorem q3x{oc:Value}{od an:Option Addr}{osl:Array (Option Value)}{kV doc pm cdv ct:Value}(l:K.lookup f=some ⟨oc,od,.func (PySem.W.fnOf x qual (we st) (qx st) (qh st) dV kV doc pm an cdv ct),osl⟩)
  (c:PySem.W.codeIn K cdv qual=true) (k:PySem.W.keepIn K (.ref f)=true):Fun2 K x qual st dV f (PySem.W.fnOf x qual (we st) (qx st) (qh st) dV kV doc pm an cdv ct):=⟨⟨oc,od,kV,doc,pm,an,cdv,ct,osl,rfl,l,c⟩,k⟩
theorem Fun2.bindsTo(F:Fun2 K x qual st dV f fd){P:FuncData->Prop}(h:∀(kV doc pm:Value) (an:Option Addr) (cdv ct:Value),P (PySem.W.fnOf x qual (we st) (qx st) (qh st) dV kV doc pm an cdv ct)): P fd:=by
 obtain⟨oc,od,kV,doc,pm,an,cdv,ct,osl,rfl,lk,hcd⟩:=F.ex;exact h kV doc pm an cdv ct
end
def qbf(K:Frag): Sp:=fun vs H Q _=>∃(a:Addr) (ns:List Int) (F:Hp),vs=[.ref a]/\SameT F H/\SqL K F a (ns.map V.int)/\ns.length<=63/\∀H',Q (.bl true) H'
theorem qqo{P:Program}{w:World}{K:Frag}{mg:Str->Option Value}{base:Heap}{k:Nat}{f:Addr}{fd:FuncData}{x:Str}{op:List D->Option D}(F:FnOk P w K mg base CX0 k f fd [x] (spD K 1 op))(h:∀ns:List Int,ns.length<=63->op [.lst (ns.map .int)]=some (.bl true)):
  FnOk P w K mg base CX0 k f fd [x] (qbf K):=F.imp fun vs H Q E ⟨a,ns,Fz,e,fz,hS,hl,q⟩=>by
 subst e;exact⟨Fz,[.lst (ns.map .int)],.bl true,fz,.cons (rep_lst.mpr ⟨a,_,rfl,hS,RepL.ints.mpr rfl⟩) .nil,rfl,h ns hl,fun v F' H' g' r'=>by rw [rep_bl.mp r'];exact q H'⟩
theorem qqp(ht:Lam.tab=[]){l:PySem.W.OpenLaw}{k:Nat}{x:Str}{q:Program}{loose:List Str}{XP:(Str->Option Value)->Heap->Prop}{YP:World->Heap->Prop}{d:DefRec}{K:Params->Frag}(hn:l.most=some 63)(hdf:d.params.defaults=[])(hk:Room k callerA)
  (hY:∀(w:World) (h:Heap),YP w h->(K w.params).In h)
  (F:∀(w:World) (mg:Str->Option Value) (fa:Addr) (h:Heap),(K w.params).In h->h.Ns mainGlobals mg->mg d.name=some (.ref fa) ->
   ∃fd:FuncData,(∀(s:Shared) (u:Value),BindsTo s fd ⟨[u],[]⟩ [(x,u)])/\∀base:Heap,(K w.params).In base->base.Ns mainGlobals mg->FnOk l.prog w (K w.params) mg base CX0 k fa fd [x] (qbf (K w.params))) :
  PySem.W.WalkO q loose XP YP l.row.toRowW d [] (fun f vs=>PySem.call f vs):=
 L2.qns (n:=63) (k:=k) (x:=x) (CX:=fun _=>CX0) (sp:=fun w=>qbf (K w.params)) hn (by decide) hdf hk hY F (fun _ H a ns hl _ hS=>⟨a,ns,H,rfl,⟨.refl _,fun p hp=>(by rw [ht] at hp;cases hp),fun p hp=>(by rw [ht] at hp;cases hp)⟩,hS,hl,fun _=>rfl⟩) fun _ _ _ _ _ z=>z
section
variable{X:Cx}{pos:Pos}{f g:FE}{a b:Expr}
abbrev oLt':=oLt
theorem qj5:OpR X (compareOp .Lt) (rD X.K oLt'):=qsg
end
section
variable{X:Cx}{pos:Pos}{f g k:FE}{a b c:Expr}
theorem q6n{pins:List (Addr×Obj)}{σ : St}{H:Hp}{s:Shared}(I:Inv X pins σ H s): sysModules<s.heap.objs.size:=
 g46 (by decide) (I.mod.glob.keeps I.bk).lt
def qqq:FE:=fun _=>some (.dct [] [])
theorem qqr:PE X (.Dict [] [] pos) (tD X.K qqq):=fun pins s σ H Q I ⟨F0,H0,F, ρ,d,r,hf,q⟩=>by
 cases hf;refine wpAny_Dict_empty ⟨.ref s.heap.objs.size,_,I.laid (a:=s.heap.objs.size) (o:=.dK []) (t':=s.toks) (fun _ _ z=>g9 _ z) (gq _)
  ⟨pj _,ur.mpr (m5 (gw (q6n I))),[],.nil,Heap.DictOf.new s.heap⟩,rfl,?_⟩
 have hn:H s.heap.objs.size=none:=I.hok.fresh (gq _);exact q _ _ _ (Grow.new r.fh hn) (rep_dct.mpr ⟨_,[],rfl,z9,rfl,.nil⟩)
def q6o:D->D->Bool
 | .non,.non=>true
 | .bl a,.bl b=>a==b
 | _,_=>false
def oIs(neg:Bool): D->D->Option D
 | x,.non=>some (.bl (if neg then !q6o x .non else q6o x .non))
 | x,.bl b=>some (.bl (if neg then !q6o x (.bl b) else q6o x (.bl b)))
 | _,_=>none
theorem qsr{M:Model}{A:Around}{E:Value->Shared->Prop}{s:Shared}{Q:Value->Shared->Prop}{v:Value}{c:Bool}(hv:∀id,v ≠ .builtin id)(h:Q (.bool (v == .bool c)) s): wpAny M A (compareOp .Is v (.bool c)) Q E s:=by
 cases v <;> first|exact g7 h|exact absurd rfl (hv _)
theorem qqs{K:Frag}{F:Hp}{d:D}{x:V}{v:Value}(r:Rep K F d x)(rv:RelV x v): ∀id,v ≠ .builtin id:=by
 intro id;cases d with
 | non=>cases rep_non.mp r;cases rv;intro z;cases z
 | bl b=>cases rep_bl.mp r;cases rv;intro z;cases z
 | int i=>cases rep_int.mp r;obtain⟨t,rfl⟩:=rv;intro z;cases z
 | str i=>cases rep_str.mp r;obtain⟨t,rfl⟩:=rv;intro z;cases z
 | tup ds=>obtain⟨p,xs,rfl,_⟩:=rep_tup.mp r;cases rv;intro z;cases z
 | lst ds=>obtain⟨p,xs,rfl,_⟩:=rep_lst.mp r;cases rv;intro z;cases z
 | dct ks vs=>obtain⟨p,xs,rfl,_⟩:=rep_dct.mp r;cases rv;intro z;cases z
 | dtt ks vs=>obtain⟨p,xs,ys,ep,rfl,_⟩:=rep_dtt.mp r;cases rv;intro z;cases z
 | dt2 ks=>obtain⟨p,xs,ep,rfl,_⟩:=rep_dt2.mp r;cases rv;intro z;cases z
 | obj C=>obtain⟨p,dx,_,rfl,_⟩:=rep_obj.mp r;cases rv;intro z;cases z
 | exc C _=>obtain⟨p,_,rfl,_⟩:=rep_exc.mp r;cases rv;intro z;cases z
theorem ql7{K:Frag}{F:Hp}{d:D}{x:V}{v:Value}(r:Rep K F d x)(rv:RelV x v): (v==Value.none)=q6o d .non:=by
 cases d with
 | non=>cases rep_non.mp r;cases rv;rfl
 | bl b=>cases rep_bl.mp r;cases rv;rfl
 | int i=>cases rep_int.mp r;obtain⟨t,rfl⟩:=rv;rfl
 | str i=>cases rep_str.mp r;obtain⟨t,rfl⟩:=rv;rfl
 | tup ds=>obtain⟨p,xs,rfl,_⟩:=rep_tup.mp r;cases rv;rfl
 | lst ds=>obtain⟨p,xs,rfl,_⟩:=rep_lst.mp r;cases rv;rfl
 | dct ks vs=>obtain⟨p,xs,rfl,_⟩:=rep_dct.mp r;cases rv;rfl
 | dtt ks vs=>obtain⟨p,xs,ys,ep,rfl,_⟩:=rep_dtt.mp r;cases rv;rfl
 | dt2 ks=>obtain⟨p,xs,ep,rfl,_⟩:=rep_dt2.mp r;cases rv;rfl
 | obj C=>obtain⟨p,dx,_,rfl,_⟩:=rep_obj.mp r;cases rv;rfl
 | exc C _=>obtain⟨p,_,rfl,_⟩:=rep_exc.mp r;cases rv;rfl
theorem qo0{K:Frag}{F:Hp}{d:D}{x:V}{v:Value}{c:Bool}(r:Rep K F d x)(rv:RelV x v): (v==Value.bool c)=q6o d (.bl c):=by
 cases d with
 | non=>cases rep_non.mp r;cases rv;rfl
 | bl b=>cases rep_bl.mp r;cases rv;cases b <;> cases c <;> rfl
 | int i=>cases rep_int.mp r;obtain⟨t,rfl⟩:=rv;rfl
 | str i=>cases rep_str.mp r;obtain⟨t,rfl⟩:=rv;rfl
 | tup ds=>obtain⟨p,xs,rfl,_⟩:=rep_tup.mp r;cases rv;rfl
 | lst ds=>obtain⟨p,xs,rfl,_⟩:=rep_lst.mp r;cases rv;rfl
 | dct ks vs=>obtain⟨p,xs,rfl,_⟩:=rep_dct.mp r;cases rv;rfl
 | dtt ks vs=>obtain⟨p,xs,ys,ep,rfl,_⟩:=rep_dtt.mp r;cases rv;rfl
 | dt2 ks=>obtain⟨p,xs,ep,rfl,_⟩:=rep_dt2.mp r;cases rv;rfl
 | obj C=>obtain⟨p,dx,_,rfl,_⟩:=rep_obj.mp r;cases rv;rfl
 | exc C _=>obtain⟨p,_,rfl,_⟩:=rep_exc.mp r;cases rv;rfl
theorem qbg(_hc:X.calm=true): OpR X (compareOp .Is) (rD X.K (oIs false)):=fun pins s σ H x y v u Q I rx ry ⟨F,d1,d2,d,q1,q2,q3,q4,q5⟩=>by
 cases d2 <;> simp only [oIs] at q4 <;> first|(cases q4;done)|skip
 ·cases rep_non.mp q3
  cases ry;refine is_none_gen ⟨.bl _,H,I,rfl,?_⟩;rw [ql7 q2 rx];cases q4;exact q5 _ F H (.refl q1) (rep_bl.mpr rfl)
 ·cases rep_bl.mp q3
  cases ry;refine qsr (qqs q2 rx) ⟨.bl _,H,I,rfl,?_⟩;rw [qo0 q2 rx];cases q4;exact q5 _ F H (.refl q1) (rep_bl.mpr rfl)
end
theorem q9i:fillsNumberSlot (.type "tuple") "mul" = pure false:=
 PySem.fillsNumberSlot_seq (id:="tuple.__mul__") (r:=some (.builtin "tuple.__rmul__")) g1j.lookup (by decide +kernel) F.slot_tuple_rmul.lookup (by decide +kernel)
theorem qgk:seqRepeat? (.type "tuple")=pure (some (.builtin "tuple.__mul__")):=by
 unfold seqRepeat?;rw [PySem.seqSlot_of (T:="tuple") (name:="__mul__") g1j.lookup (by decide +kernel),PySem.seqSlot_of (T:="tuple") (name:="__rmul__") F.slot_tuple_rmul.lookup (by decide +kernel)]
 rfl
theorem ql8(i:Int)(t:Tok)(l:Addr)(xs:Array Value)(n:Nat)(dd:Option Addr)(sl:Array (Option Value)):
  Meets (Builtin.«int.__rmul__» ⟨[.int i t,.ref l],[]⟩) (fun _ R s=>s.heap.get? l=some {cls:=.type "tuple",dict:=dd,data:=.seq xs n,slots:=sl}/\R (.ok (.ret Value.notImplemented)) s):=
 .of_wp fun prog w A R s h=>by
  obtain⟨hp,g,d,tk,os⟩:=s;obtain⟨hl,h⟩:=h
  wp_walk
  exact⟨_,rfl,h⟩
theorem qcd(i:Int)(t:Tok)(l:Addr)(xs:Array Value)(n:Nat)(dd:Option Addr)(sl:Array (Option Value))(h0:¬(decide (i < -(2 ^ 63)) || decide (i>=2 ^ 63))=true)(h1:(xs.isEmpty || i==1)=true):
  Meets (Builtin.«tuple.__mul__» ⟨[.ref l,.int i t],[]⟩) (fun _ R s=>s.heap.get? l=some {cls:=.type "tuple",dict:=dd,data:=.seq xs n,slots:=sl}/\R (.ok (.ret (.ref l))) s):=
 .of_wp fun prog w A R s h=>by
  obtain⟨hp,g,d,tk,os⟩:=s;obtain⟨hl,h⟩:=h;have f1:=g47;have f2:=g1y
  wp_walk using pf hl
  refine g2v (m6 h0) ?_
  wp_walk using pf hl
  exact⟨_,rfl,h⟩
theorem qce(i:Int)(t:Tok)(l:Addr)(xs:Array Value)(n:Nat)(dd:Option Addr)(sl:Array (Option Value))(h0:¬(decide (i < -(2 ^ 63)) || decide (i>=2 ^ 63))=true)(h1:¬(xs.isEmpty || i==1)=true)(h2:(decide (i<=0) || xs.isEmpty)=true):
  Meets (Builtin.«tuple.__mul__» ⟨[.ref l,.int i t],[]⟩) (fun _ R s=>s.heap.get? l=some {cls:=.type "tuple",dict:=dd,data:=.seq xs n,slots:=sl}/\R (.ok (.ret (.ref s.heap.objs.size))) {s with heap:=s.heap.push {cls:=.type "tuple",data:=.seq #[]} }):=
 .of_wp fun prog w A R s h=>by
  obtain⟨hp,g,d,tk,os⟩:=s;obtain⟨hl,h⟩:=h;have f1:=g47;have f2:=g1y
  wp_walk using pf hl
  refine g2v (m6 h0) ?_
  wp_walk using pf hl
  exact⟨_,rfl,h⟩
theorem qcf(i:Int)(t:Tok)(l:Addr)(xs:Array Value)(n:Nat)(dd:Option Addr)(sl:Array (Option Value))(h0:¬(decide (i < -(2 ^ 63)) || decide (i>=2 ^ 63))=true)(h1:¬(xs.isEmpty || i==1)=true)(h2:¬(decide (i<=0) || xs.isEmpty)=true)
  (h3:¬((xs.size:Int)*i>(2 ^ 63-1) / 8)) (h4:¬Builtin.Tuple.tupleTooMany ((xs.size:Int)*i)=true) (h5:((List.replicate i.toNat xs).foldl (· ++ ·) #[]).size<=sizeLine) :
  Meets (Builtin.«tuple.__mul__» ⟨[.ref l,.int i t],[]⟩) (fun _ R s=>s.heap.get? l=some {cls:=.type "tuple",dict:=dd,data:=.seq xs n,slots:=sl}/\R (.ok (.ret (.ref s.heap.objs.size))) {s with heap:=s.heap.push {cls:=.type "tuple",data:=.seq ((List.replicate i.toNat xs).foldl (· ++ ·) #[])} }):=
 .of_wp fun prog w A R s h=>by
  obtain⟨hp,g,d,tk,os⟩:=s;obtain⟨hl,h⟩:=h;have f1:=g47;have f2:=g1y
  wp_walk using pf hl
  refine g2v (m6 h0) ?_
  wp_walk using pf hl
  refine g2v (m6 h3) ?_
  wp_walk using pf hl
  exact⟨_,rfl,h⟩
theorem qcg(xs:Array Value): ∀(n:Nat) (acc:Array Value),((List.replicate n xs).foldl (· ++ ·) acc).toList=acc.toList++(List.replicate n xs.toList).flatten
 | 0,acc=>by simp
 | n+1,acc=>by
  rw [uy,List.foldl_cons,qcg xs n (acc++xs),uy,g14,Array.toList_append,g0h]
theorem qak(xs:List Value)(n:Nat): (List.replicate n xs.toArray).foldl (· ++ ·) #[]=(List.replicate n xs).flatten.toArray:=by
 apply Array.toList_inj.mp;rw [qcg];simp
section
variable{prog:Program}{w:World}{A:Around}{E:Value->Shared->Prop}{s:Shared}
theorem qo1{t:Addr}{vs:List Value}{i:Int}{u:Tok}{Q:Value->Shared->Prop}(ht:IsTup s.heap t vs.toArray)(h0 : -(2 ^ 62)<i)(h1:i<2 ^ 62)(hz:vs.length*i.toNat<=1000000)
  (q1:(vs=[]\/i=1)->Q (.ref t) s) (q2:¬(vs=[]\/i=1)->Q (.ref s.heap.objs.size) {s with heap:=s.heap.push {cls:=.type "tuple",data:=.seq (List.replicate i.toNat vs).flatten.toArray} }) :
  wpAny (model prog w) A (binaryOp .Mult (.ref t) (.int i u)) Q E s:=by
 obtain⟨⟨cls,dd,data,sl⟩,ho,hc,n,hd⟩:=id ht;simp only at hc hd;subst hc hd;have ty:s.TypeIs (.ref t) "tuple" :=⟨_,ho,rfl⟩
 have b0:¬(decide (i < -(2 ^ 63)) || decide (i>=2 ^ 63))=true:=by
  simp only [g1p,mx,not_or]
  constructor <;> lia
 refine wpAny_binaryOp_repeat_ref (T:="tuple") (U:="int") (by decide) ty (fun s'=>typeIs_int s' i u) q9i F.fills_int_mul F.slot_int_rmul qgk F.slot_int_index.lookup
  (g2s F.slot_int_rmul (typeIs_int s i u) F.entry_int_rmul (F.args_int_rmul_2 _ _) (ql8 i u t vs.toArray n dd sl) ⟨ho,rfl,ty,?_⟩)
 have em:vs.toArray.isEmpty=true↔vs=[]:=by simp
 by_cases c1:(vs.toArray.isEmpty || i==1)=true
 ·have c1':vs=[]\/i=1:=by simpa using c1
  exact g2s g1j ty g3q (g3c _ _) (qcd i u t vs.toArray n dd sl b0 c1) ⟨ho,q1 c1'⟩
 ·have c1':¬(vs=[]\/i=1):=by simpa using c1
  have q:=q2 c1'
  by_cases c2:(decide (i<=0) || vs.toArray.isEmpty)=true
  ·have i0:i<=0:=by
    rcases g1p _ _ ▸ c2 with z|z
    ·exact uo z
    ·exact absurd (.inl (em.mp z)) c1'
   have e:(List.replicate i.toNat vs).flatten.toArray = #[]:=by
    rw [show i.toNat=0 by lia];rfl
   rw [e] at q;exact g2s g1j ty g3q (g3c _ _) (qce i u t vs.toArray n dd sl b0 c1 c2) ⟨ho,q⟩
  ·have c2':0<i:=by
    have:¬i<=0:=fun z=>c2 (by rw [ma z];rfl);lia
   have ei:(vs.toArray.size:Int)*i=((vs.length*i.toNat:Nat):Int):=by
    rw [Int.natCast_mul,uz (by lia),gd]
   have el:(List.replicate i.toNat vs).flatten.length=vs.length*i.toNat:=by
    rw [List.length_flatten,List.map_replicate,g4u,Nat.mul_comm]
   rw [<- qak] at q;refine g2s g1j ty g3q (g3c _ _) (qcf i u t vs.toArray n dd sl b0 c1 c2 ?_ ?_ ?_) ⟨ho,q⟩
   ·rw [ei];lia
   ·rw [ei]
    unfold Builtin.Tuple.tupleTooMany;have:sizeLine=16777216:=g05;rw [this,mx];lia
   ·rw [qak,gd,el]
    exact jt hz
end
section
variable{X:Cx}
def ql9:D->D->Option D
 | .tup xs,.int n=>if decide (-(2 ^ 62)<n)&&decide (n<2 ^ 62)&&decide (xs.length*n.toNat<=lim) then some (.tup (List.replicate n.toNat xs).flatten) else none
 | _,_=>none
theorem qch{xs:List V}{us:List Value}(r:Vals xs us): ∀n:Nat,Vals (List.replicate n xs).flatten (List.replicate n us).flatten
 | 0=>.nil
 | n+1=>by rw [uy,uy,g14,g14];exact r.append (qch r n)
theorem qci{K:Frag}{H:Hp}{ds:List D}{xs:List V}(r:RepL K H ds xs): ∀n:Nat,RepL K H (List.replicate n ds).flatten (List.replicate n xs).flatten
 | 0=>.nil
 | n+1=>by rw [uy,uy,g14,g14];exact r.append (qci r n)
theorem qqt:OpR X (binaryOp .Mult) (rD X.K ql9):=fun pins s σ H x y v u Q I rx ry ⟨F,d1,d2,d,q1,q2,q3,q4,q5⟩=>by
 unfold ql9 at q4
 split at q4
 ·rename_i ds n
  split at q4
  ·rename_i hc
   cases q4;simp only [mf,mx] at hc;obtain⟨⟨c1,c2⟩,c3⟩:=hc;obtain⟨p,xs,rfl,z1,z2⟩:=rep_tup.mp q2;cases rep_int.mp q3;cases rx;obtain⟨t,rfl⟩:=ry;obtain⟨its,r1,p1,hz⟩:=I.tuple (qu q1 z1);have lx:=r1.length;have ld:=z2.length;refine qo1 p1 c1 c2 (by rw [<- lx, <- ld];exact c3) (fun hq=>?_) fun hq=>?_
   ·have e:(List.replicate n.toNat ds).flatten=ds:=by
     rcases hq with z|z
     ·have:ds=[]:=List.length_eq_zero_iff.mp (by rw [ld,lx,z];rfl)
      subst this;simp
     ·subst z;simp [List.replicate]
    rw [e] at q5;exact⟨.ref p,H,I,rfl,q5 _ F H (.refl q1) q2⟩
   ·have hn:H s.heap.objs.size=none:=I.hok.fresh (gq _)
    have rr:=qch r1 n.toNat;have el:(List.replicate n.toNat xs).flatten.length=ds.length*n.toNat:=by
     rw [List.length_flatten,List.map_replicate,g4u,Nat.mul_comm,ld]
    refine⟨.ref s.heap.objs.size,_,I.laid (t':=s.toks) (o:=.tup (List.replicate n.toNat xs).flatten) (fun b ob q=>g9 _ q) (gq _) ⟨by rw [el];exact jt c3,_,rr,TupX.new _ _⟩,rfl,?_⟩;have gn:=Grow.new (o:=.tup (List.replicate n.toNat xs).flatten) q1 hn;exact q5 _ _ _ gn (rep_tup.mpr ⟨_,_,rfl,SqT.of z9,(qci z2 n.toNat).mono gn.ff⟩)
  ·cases q4
 ·cases q4
def zz:D->D->Option D:=fun x y=>(oMul x y).or (ql9 x y)
theorem xg:OpR X (binaryOp .Mult) (rD X.K zz):=q5g qqa qqt
end
section
variable{prog:Program}{w:World}{A:Around}{E:Value->Shared->Prop}{s:Shared}
end
section
variable{X:Cx}{pos:Pos}{elts:List Expr}{x1:Nat}{tp:Pos}
end
section
variable{X:Cx}{st:Stmt}
def q1j:FS:=fun _=>none
theorem q13:PS X st (tDS X.K q1j):=fun pins s σ H D I ⟨F0,H0,F, ρ,fl, ρ',r,hf,q⟩=>by cases hf
abbrev oBand:=oI (fun _ _=>true) fun i j=>Builtin.bitAnd i j
abbrev oBor:=oI (fun _ _=>true) fun i j=>Builtin.bitOr i j
theorem qfi:OpR X (binaryOp .BitAnd) (rD X.K oBand):=q89 qpw
theorem qqu:OpR X (binaryOp .BitOr) (rD X.K oBor):=q89 qs4
theorem q5n:∀ {l m:List Int},l.Perm m->l.Pairwise (· <= ·)->m.Pairwise (· <= ·)->l=m
 | [],m,p,_,_=>(p.nil_eq).symm ▸ rfl
 | x :: l,[],p,_,_=>by cases p.length_eq
 | x :: l,y :: m,p,.cons h1 h2,.cons k1 k2=>by
  have e:x=y:=by
   have hx:x∈y :: m:=p.mem_iff.mp gv;have hy:y∈x :: l:=p.mem_iff.mpr gv;rcases m4.mp hx with e|hx
   ·exact e
   ·rcases m4.mp hy with e|hy
    ·exact e.symm
    ·exact Int.le_antisymm (h1 y hy) (k1 x hx)
  subst e;rw [q5n (List.perm_cons _ |>.mp p) h2 k2]
theorem q1f:∀ {us:List Value} {ns:List Int},IntsAre us ns->Vals (ns.map V.int) us
 | _,_,.nil=>.nil
 | _,_,.cons n t h=>.cons ⟨t,rfl⟩ (q1f h)
theorem boot_sorted:bootBuiltins "sorted" = some (.builtin "sorted"):=by decide +kernel
end
end DL
namespace Srt
end Srt
namespace DL
open PySem PySem.Spec PyProof.Rows L2 Srt PySem.W
variable[Lam][Pin]
set_option maxRecDepth 8000 in
omit [Lam] [Pin] in
theorem qla(l:Addr)(items:Array Value)(n:Nat)(b:Addr)(items2:Array Value)(n2:Nat)(sl:Array (Option Value))(hc0:¬(!items.isEmpty&&Builtin.List.listTooLong (items.size+items2.size))=true)(hc1:items.size<=sizeLine)(hs2:items.size+items2.size<=sizeLine+1):
  Meets (Builtin.«list.extend» ⟨[.ref l,.ref b],[]⟩) (fun _ R s=>s.heap.get? l=some {cls:=.type "list",dict:=none,data:=.seq items n,slots:= #[]}/\s.heap.get? b=some {cls:=.type "list",dict:=none,data:=.seq items2 n2,slots:=sl} /\
   R (.ok (.ret Value.none)) {s with heap:=s.heap.update l (Obj.mapSeq fun x=>x++items2),toks:=s.toks}):=
 .of_wp fun prog w A R s h=>by
  obtain⟨hp,g,d,tk,os⟩:=s;obtain⟨hl,hb,h⟩:=h;have hz':(items++items2).size<=sizeLine+1:=by rw [Array.size_append];exact hs2
  have f3:=sub_list_list
  wp_walk using(g4n hl rfl (hz:=hc1) (_hz':=hz')),g4l hl,g4l hb
  exact⟨_,rfl,h⟩
section
variable{X:Cx}
omit [Lam] [Pin] in
theorem qo2:MtM X "list.extend" (fun x vs H Q=>∃l b xs zs,x=.ref l/\vs=[.ref b]/\H l=some (.lst xs)/\SqL X.K H b zs/\xs.length+zs.length<=sizeLine/\Q .non (upd H l (.lst (xs++zs)))):=by
 intro pins s σ H x vs v us Q I rx rv h;obtain⟨l,b,xs,zs,rfl,rfl,hH,hB,hz,q⟩:=h;cases rx;obtain⟨u,rfl,ru⟩:=rv.one;cases ru;obtain⟨z,its,n,r,hl,e⟩:=I.lstM hH;obtain⟨its2,r2,⟨o,n2,e2,c1,c2,c3⟩,hl2⟩:=I.list hB;obtain⟨oc,od,oda,osl⟩:=o;dsimp only at c1 c2 c3;subst c1 c2 c3;have hl1:=r.length;have hl3:=r2.length;have hsz:its.toArray.size+its2.toArray.size<=sizeLine:=by rw [gd,gd];lia
 have hlong:¬(!its.toArray.isEmpty&&Builtin.List.listTooLong (its.toArray.size+its2.toArray.size))=true:=by
  rw [qko hsz,Bool.and_false];exact gs
 refine g2s F.slot_list_extend ⟨_,e,rfl⟩ F.entry_list_extend (F.args_list_extend_2 _ _)
  (qla l its.toArray n b its2.toArray n2 osl hlong (by rw [gd];lia) (by lia)) ⟨e,e2,?_⟩
 refine⟨.non,_,I.lset (its':=its++its2) hH e (by simp) (r.append r2) ?_,rfl,q⟩;rw [mn];lia
def q9j(i:Nat)(f:FE): FS:=fun ρ =>(q7g i ρ).bind fun ds=>(f ρ).bind fun d=>match d with
 | .lst es=>if ds.length+es.length<=lim then some (.nx, ρ.set i (some (.ow (ds++es)))) else none
 | _=>none
theorem qj6{i:Nat}{x:Str}{e:Expr}{f:FE}{px apos cpos pos:Pos}(hv:PE X (.Name x px) (q4a i))(he:PE X e (tD X.K f))
  (hbase:attributeBase (.Name x px) "extend" X.env (eval (.Name x px) X.env)=eval (.Name x px) X.env:=by rfl)
  (hfew:((backTo cpos (starEach [e] X.env)).all (fun x=> !x.1)&&(backToKw cpos (keywordEach [] X.env)).all (fun x=>x.1.isSome)&&decide ([e].length+([]:List Keyword).length+(if([]:List Keyword).isEmpty then 0 else 1)<30))=true:=by rfl)
  (hline:(apos.endLine==cpos.line)=true:=by rfl) (hse:starEach [e] X.env=(false,eval e X.env) :: starEach [] X.env:=by rfl)
  (hs:swapsWith (.Call (.Attribute (.Name x px) "extend" apos) [e] [] cpos) none pos.line X.env=pure false:=by rfl):PS X (.Expr (.Call (.Attribute (.Name x px) "extend" apos) [e] [] cpos) pos) (tDS X.K (q9j i f)):=
 xy (q6g (qn0 g4i PySem.F.slot_list_extend PySem.F.type_list_extend qo2 hv (zr he yj hse) hbase hfew hline hse rfl) hs) fun D σ H ⟨F0,H0,F, ρ,fl, ρ',r,hf,q⟩=>by
  obtain⟨ds,h1,hf⟩:=g8.mp hf;obtain⟨d,h2,h3⟩:=g8.mp hf;have h1:=qaf h1;cases d <;> simp only at h3 <;> first|(cases h3;done)|skip
  rename_i es
  split at h3
  ·rename_i hl
   cases h3;obtain⟨a,xs,e1,e2,e3,e4,e5⟩:=r.ow i ds h1;refine⟨.ref a,e1,.inl ⟨rfl,xs,SqL.of e2⟩,F0,H0,F, ρ,_,r,h2,fun v F' H' g' r'=>?_⟩;have r2:=r.grow g';obtain⟨b,zs,rfl,k1,k2⟩:=rep_lst.mp r';refine⟨a,b,xs,zs,rfl,rfl,g'.hh.lst _ _ e2,g'.fh.seq k1,mh (by rw [<- e5.length, <- k2.length];exact hl) (by decide),?_⟩;exact q _ F' _ g'.ff (r2.wrt h1 e1 ((e5.mono g'.ff).append k2))
  ·cases h3
end
end DL
namespace DL
open PySem PySem.Spec PyProof.Rows L2
variable[Lam][Pin]
section
variable{X:Cx}
abbrev oDivB:=oI (fun _ j=>decide (0<j)&&decide (j<1606938044258990275541962092341162602522202993782792835301376)) fun i j=>i / j
theorem qlb:OpR X (binaryOp .FloorDiv) (rI (fun _ j=>0<j/\j<1606938044258990275541962092341162602522202993782792835301376) fun i j=>.int (i / j)):=opI fun i j _ _ _ _ _ hc q=>by
 have h1:(0:Int)<j:=hc.1;have h2:j<1606938044258990275541962092341162602522202993782792835301376:=hc.2;refine floordiv_int (by lia) (by rw [g1m i (by lia)];exact q) (.inl (PyProof.noPylong_of_log2 ?_));have h3:j.natAbs<2 ^ 200:=by lia
 exact gj ((Nat.log2_lt (by lia)).mpr h3) (by decide)
theorem q6p:OpR X (binaryOp .FloorDiv) (rD X.K oDivB):=q4d qlb fun i j h=>q11 h
end
end DL
namespace DL
open PySem PySem.Spec PyProof.Rows L2
section
variable{prog:Program}{w:World}{A:Around}{E:Value->Shared->Prop}
end
variable[Lam][Pin]
section
variable{X:Cx}{es:List Expr}{pos:Pos}
end
end DL
namespace DL
open PySem PySem.Spec PyProof.Rows L2
variable[Lam][Pin]
section
variable{X:Cx}{pins:List (Addr×Obj)}{σ : St}{F H:Hp}{s:Shared}
theorem q4n(I:Inv X pins σ H s)(fh:Same F H)(A:Around): ∀ {ds es:List D} {xs ys:List V} {us vs:List Value},yu ds es=true->A.units+y6 ds<cLine->RepL X.K F ds xs->RepL X.K F es ys->Vals xs us->Vals ys vs ->
   ∀j (h1:j<us.length) (h2:j<vs.length),SeqAt.EqAt A s us[j] vs[j] (eqJ ds es j)
 | [],es,xs,ys,us,vs,_,_,k1,_,w1,_,j,h1,_=>by
  cases k1.nil_inv;cases w1;exact absurd h1 (uh _)
 | d :: ds,es,xs,ys,us,vs,ho,hd,k1,k2,w1,w2,j,h1,h2=>by
  obtain⟨x,r,rfl,a1,a2⟩:=k1.cons_inv;cases w1 with
  | cons p1 p2=>
   cases es with
   | nil=>cases k2.nil_inv;cases w2;exact absurd h2 (uh _)
   | cons e es=>
    obtain⟨y,r',rfl,b1,b2⟩:=k2.cons_inv;cases w2 with
    | cons p3 p4=>
     simp only [yu,mf] at ho;simp only [y6] at hd;cases j with
     | zero=>
      have e0:eqJ (d :: ds) (e :: es) 0=eqD d e:=by simp [eqJ]
      rw [e0];exact qj4 I fh A ho.1 (by lia) a1 b1 p1 p3
     | succ j=>
      have e0:eqJ (d :: ds) (e :: es) (j+1)=eqJ ds es j:=by simp [eqJ]
      rw [e0];exact q4n I fh A ho.2 (by lia) a2 b2 p2 p4 j (by simpa using h1) (by simpa using h2)
def qcj:D->D->Option D
 | .tup ds,.tup es=>if yu ds es&&decide (y6 ds<=60) then some (.bl (!eqL ds es)) else none
 | _,_=>none
theorem qqv(hu:X.A.units+64<cLine): OpR X (compareOp .NotEq) (rD X.K qcj):=by
 intro pins s σ H x y v u Q I rx ry h;obtain⟨F,d1,d2,d,fh,r1,r2,ho,q⟩:=h;unfold qcj at ho
 split at ho
 ·rename_i ds es
  split at ho
  ·rename_i hc
   cases ho;rw [mf] at hc;obtain⟨a,xs,rfl,k1,k2⟩:=rep_tup.mp r1;obtain⟨b,ys,rfl,k3,k4⟩:=rep_tup.mp r2;cases rx;cases ry;obtain⟨i1,v1,t1,_⟩:=I.tuple (qu fh k1);obtain⟨i2,v2,t2,_⟩:=I.tuple (qu fh k3);have hq:=q4n I fh X.A.in1 hc.1 (by have:=uo hc.2;show X.A.units+1+y6 ds<cLine;lia) k2 k4 v1 v2;have:=SeqAt.RcNeAt.tuples (A:=X.A) (e:=eqJ ds es) (show s.heap.IsTuple a i1.toArray from t1) (show s.heap.IsTuple b i2.toArray from t2) (by lia) (fun j h1 h2=>by simpa using hq j (by simpa using h1) (by simpa using h2));simp only [gd, <- v1.length, <- v2.length, <- k2.length, <- k4.length,vn] at this;exact this X.prog X.w _ _ ⟨.bl _,H,I,rfl,q _ F H (.refl fh) (rep_bl.mpr rfl)⟩
  ·cases ho
 ·cases ho
abbrev q9k:D->D->Option D:=fun x y=>(q1t x y).or (qcj x y)
theorem qj7(hu:X.A.units+64<cLine): OpR X (compareOp .NotEq) (rD X.K q9k):=q5g q2l (qqv hu)
end
end DL
namespace Srt
end Srt
namespace DL
open PySem PySem.Spec PyProof.Rows L2 Srt PySem.W
variable[Lam][Pin]
structure ClsOk(K:Frag)(x:Str)(C:Addr): Prop where
 ns:PySem.W.nsIn K mainGlobals x=some (some (.ref C))
 makes:PySem.W.makesIn K C=true
 init:PySem.W.findIn K (.ref C) "__init__" = some (some (.builtin "object.__init__"))
 kp:PySem.W.keepIn K (.ref C)=true
 cls:Cls K C
 n:qky K C
structure CalM(P:Program)(w:World)(K:Frag)(mg:Str->Option Value)(base:Heap)(x m:Str)(C:Addr)(k:Nat)(ps:List Str)(ar:Nat)(op:List D->Option D)(fn:Addr)(fd:FuncData): Prop where
 ok:FnOk P w K mg base CX0 k fn fd ps (spD K ar op)
 me:Meth K C m fn
theorem qj8{K:Frag}{C:Addr}{T:String}(hm:PySem.W.kitMeta T=true)(h:PySem.W.subIn K (.ref C) (.type T)=some false): PySem.W.kitOne K (.ref C) (.type T)=some false:=by
 unfold PySem.W.kitOne PySem.W.kitCls;rw [m8 (fun z=>by have:=eq_of_beq z;cases this)];dsimp only;rw [gx hm];exact h
theorem qo3{K:Frag}{C:Addr}(h1:PySem.W.subIn K (.ref C) (.type "int")=some false)(h2:PySem.W.subIn K (.ref C) (.type "bool")=some false)(h3:PySem.W.subIn K (.ref C) (.type "tuple")=some false)
  (h4:PySem.W.subIn K (.ref C) (.type "list")=some false) (h5:PySem.W.subIn K (.ref C) (.type "str")=some false) (h6:PySem.W.subIn K (.ref C) (.type "dict")=some false) :
  ∀T:String,T∈["int","bool","tuple","list","str","dict"]->PySem.W.kitOne K (.ref C) (.type T)=some false:=by
 intro T hT;simp only [m4,g1k,g2i] at hT;rcases hT with rfl|rfl|rfl|rfl|rfl|rfl <;> exact qj8 (by decide +kernel) (by assumption)
section
variable{X:Cx}{pins:List (Addr×Obj)}{σ : St}{F H:Hp}{s:Shared}
theorem qj9{C:Addr}{Q:VK}(makes:PySem.W.makesIn X.K C=true)(init:PySem.W.findIn X.K (.ref C) "__init__" = some (some (.builtin "object.__init__")))(I:Inv X pins σ H s)
  (h:Q (.ref (s.heap.objs.size+1)) (upd (upd H s.heap.objs.size (.own (s.heap.objs.size+1))) (s.heap.objs.size+1) (.ins C s.heap.objs.size []))):wpAny (model X.prog X.w) X.A (call (.ref C) []) (EP X pins σ Q) X.xe s:=by
 have I2:=Inv.made (C:=C) I;have kin:=I.kIn;obtain⟨hh,g,d,t,os⟩:=s;have Y:=makes_of (M:=model X.prog X.w) kin makes;refine g06 (make_core Y (looks_findIn kin init) (fun self=>Looks.of_pure (oi_bind self)) (.inr ⟨rfl,rfl⟩) ?_);have hx:((hh.push emptyDict).push (instObj C hh.objs.size)).get? (hh.objs.size+1)=some (instObj C hh.objs.size):=by
  have:hh.objs.size+1=(hh.push emptyDict).objs.size:=(size_push' _ _).symm;rw [this];exact gp _ rfl
 have t1:Looks (model X.prog X.w) ((hh.push emptyDict).push (instObj C hh.objs.size)) (typeOf (.ref (hh.objs.size+1))) (.ref C):=(Looks.ld hx).andThen .now;have t2:Looks (model X.prog X.w) ((hh.push emptyDict).push (instObj C hh.objs.size)) (isInstance (.ref (hh.objs.size+1)) (.type "object")) true:=t1.andThen (Y.top.keeps fun b o e=>g9 _ (g9 _ e));refine tq oi_plain entry_oi (@check_slot (model X.prog X.w) _ _ _ "object.__init__" "object" "__init__" (.ref (hh.objs.size+1)) [] [] _ oi_kind oi_split t2 (oi_args (.ref (hh.objs.size+1))) ?_);rw [oi_run];exact g7 (And.intro rfl ⟨V.ref (hh.objs.size+1),_,I2,rfl,h⟩)
theorem qqw{x:Str}{C:Addr}{p pos:Pos}(O:ClsOk X.K x C)(hm:X.mg x=some (.ref C))(hg:Gl X x)(hdb:(x==("__debug__" : Str))=false:=by decide): PE X (.Call (.Name x p) [] [] pos) (tD X.K (eC (.obj x))):=by
 intro pins s σ H Q I h;obtain⟨F0,H0,F, ρ,d,r,hf,q⟩:=h;cases hf;refine ue (kb I hg hm ?_ hdb);refine PySem.W.callWith_K0 I.kIn O.kp (qj9 O.makes O.init I ?_);have n0:H s.heap.objs.size=none:=I.hok.fresh (gq _);have n1:H (s.heap.objs.size+1)=none:=I.hok.fresh (g38 _);have fh:=r.fh;have g1:Grow F H F (upd H s.heap.objs.size (.own (s.heap.objs.size+1))):=Grow.own fh n0;have n1':upd H s.heap.objs.size (.own (s.heap.objs.size+1)) (s.heap.objs.size+1)=none:=by rw [qy (t5 (g02 _))];exact n1
 have g2:=Grow.new (o:=.ins C s.heap.objs.size []) g1.fh n1';exact q _ _ _ (g1.trans g2) (rep_obj.mpr ⟨s.heap.objs.size+1,s.heap.objs.size,C,rfl,z9,O.ns,O.n⟩)
def isO(x:Str): D->Bool
 | .obj y=>x==y
 | _=>false
def q9l(x:Str)(ar:Nat)(op:List D->Option D)(g:FE)(fa:FA): FE:=fun ρ =>(g ρ).bind fun d=>(fa ρ).bind fun ds=>if isO x d then qp ar [] op (d :: ds) else none
theorem qja{x m:Str}{C:Addr}{o e:Expr}{es:List Expr}{apos pos:Pos}{k k' ar:Nat}{fn:Addr}{fd:FuncData}{ps:List Str}{op:List D->Option D}{g:FE}{fa:FA}{pl:Sem Bool}(O:ClsOk X.K x C)
  (M:CalM X.prog X.w X.K X.mg X.base x m C k ps ar op fn fd) (b:Binds X.K fd ps []) (hr:Room k' X.A) (hk:k<=k') (ho:PE X o (tD X.K g)) (ha:PA X (e :: es) (tDA X.K fa))
  (hst:starEach (e :: es) X.env=(false,eval e X.env) :: starEach es X.env:=by rfl) (hpl:(backTo pos (starEach es X.env)).any (·.1)=false:=by rfl)
  (ht:eval (.Call (.Attribute o m apos) (e :: es) [] pos) X.env=(do
   let ov <- eval o X.env
   standAt apos.atName
   let(f,first) <- holding [ov] (getMethod ov m pl)
   callWith pos f first (backTo pos (starEach (e :: es) X.env)) (backToKw pos (keywordEach [] X.env))):=by rfl) :
  PE X (.Call (.Attribute o m apos) (e :: es) [] pos) (tD X.K (q9l x ar op g fa)):=
 je (qnn (pl:=pl) ho O.cls M.me M.ok (hr.mono hk) b .nil qn1 ha hst hpl ht) fun σ H Q ⟨F0,H0,F, ρ,d,r,hf,q⟩=>by
  obtain⟨d1,h1,hf⟩:=g8.mp hf;obtain⟨ds,h2,hf⟩:=g8.mp hf
  split at hf
  ·rename_i hi
   obtain rfl:d1=.obj x:=by
    cases d1 <;> simp only [isO] at hi <;> first|(cases hi;done)|skip
    rw [(by simpa using hi:x=_)]
   refine⟨F0,H0,F, ρ,.obj x,r,h1,fun v F1 H1 g1 r1=>?_⟩;obtain⟨a,dx,C',rfl,e1,e2,e3⟩:=rep_obj.mp r1;have hC:C'=C:=by
    have:=e2.symm.trans O.ns;cases this;rfl
   subst hC;refine⟨a,dx,[],rfl,g1.fh _ _ e1,rfl,F0,H0,F1, ρ,ds,r.grow g1,h2,fun vs F2 H2 g2 r2=>?_⟩;unfold qp at hf
   split at hf
   ·rename_i hl
    refine⟨F2,(.obj x :: ds)++[],d,r.sameT (g1.trans g2),(RepL.cons (r1.mono g2.ff) r2).append .nil,hl,hf,fun v F3 H3 g3 r3=>q v F3 H3 (g1.trans (g2.trans g3)) r3⟩
   ·cases hf
  ·cases hf
end
end DL
namespace Js
open PySem
theorem qgl(A B:List Nat)(j:Nat)(hA:∀x∈A,x<j)(hB:∀x∈B,j<=x): ∀fuel lo hi,lo<=A.length->A.length<=hi->hi<=A.length+B.length->hi-lo<=fuel ->
  SetTable.below.go (A++B).toArray j fuel lo hi=A.length
 | 0,lo,hi,h1,h2,_,h3=>by unfold SetTable.below.go;lia
 | fuel+1,lo,hi,h1,h2,h4,h3=>by
  unfold SetTable.below.go
  by_cases c:lo<hi
  ·rw [gx c]
   show(if(A++B).toArray.getD ((lo+hi) / 2) j<j then _ else _)=_;have hm:(lo+hi) / 2<hi:=by lia
   have hm2:lo<=(lo+hi) / 2:=by lia
   by_cases d:(lo+hi) / 2<A.length
   ·have e:(A++B).toArray.getD ((lo+hi) / 2) j=A[(lo+hi) / 2]:=by
     simp [Array.getD,List.getElem_append_left d];lia
    rw [e,gx (hA _ (g0p d))];exact qgl A B j hA hB fuel _ _ (by lia) h2 h4 (by lia)
   ·have hb:(lo+hi) / 2-A.length<B.length:=by lia
    have e:(A++B).toArray.getD ((lo+hi) / 2) j=B[(lo+hi) / 2-A.length]:=by
     have hlt:(lo+hi) / 2<A.length+B.length:=by lia
     simp [Array.getD,List.getElem_append_right (Nat.le_of_not_lt d),hlt]
    rw [e,m8 (Nat.not_lt.mpr (hB _ (g0p hb)))];exact qgl A B j hA hB fuel _ _ h1 (by lia) (by lia) (by lia)
  ·rw [m8 c];lia
theorem below_at{A B:List Nat}{j:Nat}(hA:∀x∈A,x<j)(hB:∀x∈B,j<=x): SetTable.below (A++B).toArray j=A.length:=by
 unfold SetTable.below;exact qgl A B j hA hB _ 0 _ (pj _) (by simp) (by simp) (by simp)
theorem cut(j:Nat): ∀l:List Nat,l.Pairwise (· < ·)->∃A B,l=A++B/\(∀x∈A,x<j)/\(∀x∈B,j<=x)
 | [],_=>⟨[],[],rfl,by simp,by simp⟩
 | x :: l,h=>by
  by_cases c:x<j
  ·obtain⟨A,B,e,a,b⟩:=cut j l (g0v.mp h).2
   exact⟨x :: A,B,by rw [e];rfl,by intro y hy;rcases m4.mp hy with rfl|hy;exact c;exact a y hy,b⟩
  ·exact⟨[],x :: l,rfl,by simp,by
    intro y hy;rcases m4.mp hy with rfl|hy
    ·lia
    ·have:=(g0v.mp h).1 y hy;lia⟩
theorem q73{α : Type}(A B:List α)(x : α): SetTable.insertAt (A++B).toArray A.length x=(A++x :: B).toArray:=by
 unfold SetTable.insertAt;apply Array.ext';simp
theorem has_none(j:Nat): SetTable.has #[] j=false:=by unfold SetTable.has;simp
theorem qck{t:SetTable}{l:List Nat}{j:Nat}(ep:t.place=l.toArray)(ed:t.dummies = #[])(hr:l.Pairwise (· < ·))(h:j∉l): t.slot j=.empty:=by
 obtain⟨A,B,rfl,hA,hB⟩:=cut j l hr;unfold SetTable.slot;rw [ep,ed,below_at hA hB,has_none];have:((A++B).toArray[A.length]? == some j)=false:=by
  cases B with
  | nil=>simp
  | cons b B=>
   have:b≠j:=fun e=>h (by simp [e]);simp [this]
 simp only [this];rfl
theorem qo4{t:SetTable}{l:List Nat}{j:Nat}(ep:t.place=l.toArray)(ed:t.dummies = #[])(hr:l.Pairwise (· < ·))(h:j∈l): ∃i,t.slot j=.live i:=by
 obtain⟨A,B,rfl,hA,hB⟩:=cut j l hr;unfold SetTable.slot;rw [ep,below_at hA hB];have:((A++B).toArray[A.length]? == some j)=true:=by
  rcases nh.mp h with h|h
  ·have:=hA j h;lia
  ·cases B with
   | nil=>simp at h
   | cons b B=>
    have hb:=hB b (gv ..);have:b=j:=by
     rcases m4.mp h with rfl|h
     ·rfl
     ·have:=(g0v.mp (g1l.mp hr).2.1).1 j h;lia
    simp [this]
 simp only [this, ↓reduceIte];exact⟨_,rfl⟩
def orb:Nat->Nat->Nat
 | 0,i=>i
 | d+1,i=>orb d ((i*5+1)%8)
theorem qo5:∀i<8,∀j<8,∃d<8,orb d i=j:=by decide
theorem qtt{t:SetTable}(hm:t.mask=7){i pt:Nat}(hp:pt<32)(hi:i<8): t.advance {j:=i,more:=0,i:=i,perturb:=pt,dummy:=none} = {j:=(i*5+1)%8,more:=0,i:=(i*5+1)%8,perturb:=0,dummy:=none}:=by
 have e0:pt / 32=0:=by lia
 have e1:SetTable.runEnd 7 ((i*5+1)%8)=(i*5+1)%8:=by unfold SetTable.runEnd;rw [m8 (by lia)]
 unfold SetTable.advance;rw [m8 (by simp),hm];unfold SetTable.leap;simp only [e0,Nat.add_zero];show({j:=(i*5+1)%8,more:=SetTable.runEnd 7 ((i*5+1)%8)-(i*5+1)%8,i:=(i*5+1)%8,perturb:=0,dummy:=none}:SetTable.Probe)=_;rw [e1,Nat.sub_self]
theorem go7{t:SetTable}{l:List Nat}{h:Int}(ep:t.place=l.toArray)(ed:t.dummies = #[])(hr:l.Pairwise (· < ·))(hm:t.mask=7): ∀(k:Nat) (i pt:Nat),pt<32->i<8->(∃d<k,orb d i∉l) ->
  ∃j,SetTable.probe.go t (fun _=>h+1) h k {j:=i,more:=0,i:=i,perturb:=pt,dummy:=none}=some (.empty j none)/\j∉l/\j<8
 | 0,i,pt,_,_,⟨d,hd,_⟩=>by lia
 | k+1,i,pt,hp,hi,⟨d,hd,hn⟩=>by
  unfold SetTable.probe.go
  by_cases c:i∈l
  ·obtain⟨x,e⟩:=qo4 ep ed hr c
   have hne:(h+1==h)=false:=by simp;lia
   simp only [e,hne,gu, ↓reduceIte];rw [qtt hm hp hi];refine go7 ep ed hr hm k _ 0 (by lia) (g3w _ (by lia)) ?_;cases d with
   | zero=>exact absurd c hn
   | succ d=>exact⟨d,by lia,hn⟩
  ·simp only [qck ep ed hr c]
   exact⟨i,rfl,c,hi⟩
theorem q7j{α : Type}[DecidableEq α]: ∀ {a l:List α},a.Nodup->a ⊆ l->a.length<=l.length
 | [],_,_,_=>by simp
 | x :: a,l,hn,hs=>by
  have hx:x∈l:=hs (gv ..);have h2:a ⊆ l.erase x:=fun y hy=>(List.mem_erase_of_ne (fun e:y=x=>(g0d.mp hn).1 (e ▸ hy))).mpr (hs (gy _ hy));have:=q7j (g0d.mp hn).2 h2;rw [List.length_erase_of_mem hx] at this;have:0<l.length:=List.length_pos_of_mem hx;simp only [nj];lia
theorem qgm:∀(l:List Nat),(∀j<8,j∈l)->8<=l.length:=by
 intro l h;have:(List.range 8) ⊆ l:=fun j hj=>h j (ti.mp hj);have h2:=q7j g48 this
 simpa using h2
theorem qss{t:SetTable}{l:List Nat}{n:Nat}(ep:t.place=l.toArray)(ed:t.dummies = #[])(hr:l.Pairwise (· < ·))(hm:t.mask=7)(hl:l.length<8)(hn:n<12):
  ∃j,t.freeSlot (n:Int)=some (j,false)/\j∉l/\j<8:=by
 have hb:SetTable.bits (n:Int)=n:=by unfold SetTable.bits;lia
 have hi:n%8<8:=g3w _ (by lia);have hex:∃d<10*SetTable.turns t.mask,orb d (n%8)∉l:=by
  have:∃j,j<8/\j∉l:=g0l fun c=>by
   have:=qgm l (fun j hj=>g0l fun d=>c ⟨j,hj,d⟩);lia
  obtain⟨j,hj,hnj⟩:=this;obtain⟨d,hd,e⟩:=qo5 _ hi j hj;refine⟨d,?_,by rw [e];exact hnj⟩;rw [hm];unfold SetTable.turns;lia
 have hst:t.probeStart (n:Int) = {j:=n%8,more:=0,i:=n%8,perturb:=n,dummy:=none}:=by
  unfold SetTable.probeStart;rw [hb,hm];have e1:SetTable.runEnd 7 (n%(7+1))=n%8:=by unfold SetTable.runEnd;rw [m8 (by lia)]
  simp only [e1];simp
 obtain⟨j,e,h1,h2⟩:=go7 (h:=(n:Int)) ep ed hr hm (10*SetTable.turns t.mask) (n%8) n (by lia) hi hex;refine⟨j,?_,h1,h2⟩;unfold SetTable.freeSlot SetTable.probe;rw [hst,e]
 rfl
theorem qqx{t:SetTable}{l:List Nat}{n:Nat}(ep:t.place=l.toArray)(ed:t.dummies = #[])(hr:l.Pairwise (· < ·))(hm:15<=t.mask)(hn:n<12)(hnl:n∉l):
  t.freeSlot (n:Int)=some (n,false):=by
 have hb:SetTable.bits (n:Int)=n:=by unfold SetTable.bits;lia
 have hmod:n%(t.mask+1)=n:=Nat.mod_eq_of_lt (by lia);unfold SetTable.freeSlot SetTable.probe SetTable.probeStart;rw [hb];simp only [hmod];have:10*SetTable.turns t.mask=(10*SetTable.turns t.mask-1)+1:=by unfold SetTable.turns;lia
 rw [this];unfold SetTable.probe.go;simp only [qck ep ed hr hnl]
 rfl
def el(p:Nat×Nat): Int×Value:=((p.1:Int),.int (p.1:Int) p.2)
structure Tb(t:SetTable)(ks:List (Nat×Nat)): Prop where
 dm:t.dummies = #[]
 pl:t.plain=true
 nd:(ks.map Prod.fst).Nodup
 lt:∀p∈ks,p.1<12
 sz:t.place.toList.length=ks.length
 rs:t.place.toList.Pairwise (· < ·)
 mz:(t.mask=7/\(∀p∈t.place.toList,p<8))\/((t.mask=15\/t.mask=31\/t.mask=63)/\t.place.toList=ks.map Prod.fst)
theorem Tb.n12{t:SetTable}{ks:List (Nat×Nat)}(T:Tb t ks): ks.length<=12:=by
 have:=q7j (l:=List.range 12) T.nd (fun x hx=>by
  obtain⟨p,hp,rfl⟩:=md.mp hx;exact ti.mpr (T.lt p hp))
 simpa using this
theorem Tb.fits{t:SetTable}{ks:List (Nat×Nat)}(T:Tb t ks)(h:t.mask=7->ks.length<8): t.fits ks.length=true:=by
 have h1:t.place.size=ks.length:=by rw [<- T.sz];simp
 have h2:=T.n12;unfold SetTable.fits SetTable.fill;rw [T.dm,h1];have:ks.length<=t.mask:=by
  rcases T.mz with⟨e,_⟩|⟨e,_⟩
  ·have:=h e;lia
  ·lia
 simp [this]
theorem toArr(a:Array Nat): a=a.toList.toArray:=by simp
theorem qqy{A B:List Nat}{j:Nat}(h:(A++B).Pairwise (· < ·))(hA:∀x∈A,x<j)(hB:∀x∈B,j<=x)(hj:j∉A++B): (A++j :: B).Pairwise (· < ·):=by
 have hB':∀x∈B,j<x:=fun x hx=>by
  have:=hB x hx;have:x≠j:=fun e=>hj (by rw [<- e];exact ml _ hx);lia
 obtain⟨a,b,c⟩:=g1l.mp h;refine g1l.mpr ⟨a,g0v.mpr ⟨hB',b⟩,fun x hx y hy=>?_⟩;rcases m4.mp hy with rfl|hy
 ·exact hA x hx
 ·exact c x hx y hy
theorem qlc:∀ {l:List Nat},l.Pairwise (· < ·)->l.Nodup:=fun h=>List.Pairwise.imp (fun a=>gw a) h
theorem lay{t:SetTable}{ks:List (Nat×Nat)}(T:Tb t ks){n k:Nat}(hn:n<12)(hnk:n∉ks.map Prod.fst)(h7:t.mask=7->ks.length<7):
  ∃t' ks',layNew t (ks.map el).toArray (n:Int) (.int (n:Int) k)=((ks'.map el).toArray,t',false,false)/\Tb t' ks'/\ks'.Perm ((n,k) :: ks)/\t'.mask=t.mask/\t'.led=t.led/\t'.finger=t.finger/\t'.moves=t.moves:=by
 have key:∃j,t.freeSlot (n:Int)=some (j,false)/\j∉t.place.toList/\((t.mask=7/\j<8)\/((t.mask=15\/t.mask=31\/t.mask=63)/\j=n)):=by
  rcases T.mz with⟨e,_⟩|⟨e,ep⟩
  ·obtain⟨j,h1,h2,h3⟩:=qss (n:=n) (toArr t.place) T.dm T.rs e (by rw [T.sz];have:=h7 e;lia) hn
   exact⟨j,h1,h2,.inl ⟨e,h3⟩⟩
  ·exact⟨n,qqx (toArr t.place) T.dm T.rs (by lia) hn (by rw [ep];exact hnk),by rw [ep];exact hnk,.inr ⟨e,rfl⟩⟩
 obtain⟨j,hf,hj,hm⟩:=key;obtain⟨A,B,eAB,hA,hB⟩:=cut j _ T.rs;have hp:t.place=(A++B).toArray:=by rw [<- eAB]
 have hbel:SetTable.below t.place j=A.length:=by rw [hp];exact below_at hA hB
 have hlen:A.length<=ks.length:=by have:=T.sz;rw [eAB,mn] at this;lia
 let ks':=ks.take A.length++(n,k) :: ks.drop A.length
 let t':SetTable:={t with place:=(A++j :: B).toArray,dummies:= #[]}
 have hput:t.put j=(t',A.length):=by
  unfold SetTable.put;simp only [hbel,T.dm,has_none,gu, ↓reduceIte];rw [hp,q73]
 have hins:SetTable.insertAt (ks.map el).toArray A.length ((n:Int),Value.int (n:Int) k)=(ks'.map el).toArray:=by
  have e:ks.map el=(ks.take A.length).map el++(ks.drop A.length).map el:=by rw [<- nv,g2n]
  have el1:((ks.take A.length).map el).length=A.length:=by simp [hlen]
  have:=q73 ((ks.take A.length).map el) ((ks.drop A.length).map el) ((n:Int),Value.int (n:Int) k);rw [el1] at this;rw [e,this];simp [ks',el]
 have hperm:ks'.Perm ((n,k) :: ks):=by
  have:=@List.perm_middle _ (n,k) (ks.take A.length) (ks.drop A.length);rwa [g2n] at this
 have hrs:(A++j :: B).Pairwise (· < ·):=qqy (by rw [<- eAB];exact T.rs) hA hB (by rw [<- eAB];exact hj);have T':Tb t' ks':=by
  refine⟨rfl,T.pl,?_,?_,?_,by simpa [t'] using hrs,?_⟩
  ·refine((hperm.map Prod.fst).nodup_iff).mpr ?_
   exact g0d.mpr ⟨hnk,T.nd⟩
  ·intro p hp
   rcases m4.mp (hperm.mem_iff.mp hp) with rfl|h
   ·exact hn
   ·exact T.lt p h
  ·rw [hperm.length_eq]
   have:=T.sz;rw [eAB] at this;simp only [mn] at this;simp [t'];lia
  ·rcases hm with⟨e,hj8⟩|⟨e,rfl⟩
   ·refine .inl ⟨e,fun p hp=>?_⟩
    have hp':p∈A++j :: B:=by simpa [t'] using hp
    rcases T.mz with⟨_,hq⟩|⟨e',_⟩
    ·rw [eAB] at hq
     rcases nh.mp hp' with h|h
     ·exact hq p (g0k _ h)
     ·rcases m4.mp h with rfl|h
      ·exact hj8
      ·exact hq p (ml _ h)
    ·lia
   ·refine .inr ⟨e,?_⟩
    rcases T.mz with⟨e',_⟩|⟨_,ep⟩
    ·lia
    ·have e1:A=(ks.map Prod.fst).take A.length:=by rw [<- ep,eAB];simp
     have e2:B=(ks.map Prod.fst).drop A.length:=by rw [<- ep,eAB];simp
     show(A++j :: B).toArray.toList=ks'.map Prod.fst;simp only [ks',nv,gh,g54,g55];rw [<- e1, <- e2]
 have h7':t'.mask=7->ks'.length<8:=fun e=>by rw [hperm.length_eq];have:=h7 e;simp;lia
 have hfit:t'.fits (ks'.map el).toArray.size=true:=by
  have:=T'.fits h7'
  simpa using this
 refine⟨t',ks',?_,T',hperm,rfl,rfl,rfl,rfl⟩;unfold layNew;simp only [hf,hput,hins];unfold SetTable.orStandIn;rw [gx hfit,hfit]
 rfl
theorem qld{mask:Nat}{owner:Array (Option Nat)}{i pt f:Nat}(h:owner.getD i (some 0)=none): SetTable.layClean.free mask owner (f+1) i pt=some i:=by
 unfold SetTable.layClean.free;have hr:SetTable.runEnd mask i+1-i=(SetTable.runEnd mask i-i)+1:=by
  unfold SetTable.runEnd;split <;> lia
 rw [hr,g10];have:(List.find? (fun k=>(owner.getD (i+k) (some 0)).isNone) (0 :: List.map Nat.succ (List.range (SetTable.runEnd mask i-i))))=some 0:=by
  rw [List.find?_cons];simp only [Nat.add_zero,h,Option.isNone_none]
 rw [this];rfl
def Own(mask:Nat)(hs:List Nat)(c:Nat)(owner:Array (Option Nat)): Prop:=owner.size=mask+1/\∀j,j<=mask->∀k,owner[j]? = some (some k)↔(k<c/\hs[k]? = some j)
theorem qcl(mask:Nat)(hm:15<=mask)(hs:List Nat)(hnd:hs.Nodup)(hlt:∀x∈hs,x<12): ∀(r:List Nat) (c:Nat) (owner:Array (Option Nat)),hs.drop c=r->c<=hs.length->Own mask hs c owner ->
  ∃ ow,(r.map (Int.ofNat)).foldl (fun acc h=>do
    let(owner,k) <- acc
    let j <- SetTable.layClean.free mask owner (SetTable.turns mask) (SetTable.bits h%(mask+1)) (SetTable.bits h)
    pure (owner.setIfInBounds j (some k),k+1)) (some (owner,c))=some (ow,hs.length)/\Own mask hs hs.length ow
 | [],c,owner,hd,hc,ho=>by
  have:c=hs.length:=by have:=t4 List.length hd;simp at this;lia
  subst this;exact⟨owner,rfl,ho⟩
 | x :: r,c,owner,hd,hc,ho=>by
  have hcl:c<hs.length:=by have:=t4 List.length hd;simp at this;lia
  have hx:hs[c]? = some x:=by
   have:=t4 (fun l=>l[0]?) hd
   simpa using this
  have hxm:x∈hs:=ug hx;have hx12:=hlt x hxm;have hb:SetTable.bits (Int.ofNat x)=x:=by unfold SetTable.bits;simp;lia
  have hmod:x%(mask+1)=x:=Nat.mod_eq_of_lt (by lia);have hnone:owner.getD x (some 0)=none:=by
   have hlt':x<owner.size:=by rw [ho.1];lia
   simp only [Array.getD,hlt', ↓reduceDIte,Array.getInternal_eq_getElem];cases e:owner[x] with
   | none=>rfl
   | some k=>
    have:owner[x]? = some (some k):=by rw [g3x hlt',e]
    obtain⟨h1,h2⟩:=(ho.2 x (by lia) k).mp this;have hkl:k<hs.length:=by lia
    rw [m9 hkl] at h2;rw [m9 hcl] at hx;have:=(g40 hnd).mp ((mi h2).trans (mi hx).symm);lia
  have hfree:SetTable.layClean.free mask owner (SetTable.turns mask) (SetTable.bits (Int.ofNat x)%(mask+1)) (SetTable.bits (Int.ofNat x))=some x:=by
   rw [hb,hmod];have:SetTable.turns mask=(mask+14)+1:=by unfold SetTable.turns;lia
   rw [this];exact qld hnone
  rw [gh,List.foldl_cons];have hstep:(do
    let(owner,k) <- some (owner,c)
    let j <- SetTable.layClean.free mask owner (SetTable.turns mask) (SetTable.bits (Int.ofNat x)%(mask+1)) (SetTable.bits (Int.ofNat x))
    pure (owner.setIfInBounds j (some k),k+1):Option (Array (Option Nat)×Nat))=some (owner.setIfInBounds x (some c),c+1):=by
   show(SetTable.layClean.free mask owner (SetTable.turns mask) (SetTable.bits (Int.ofNat x)%(mask+1)) (SetTable.bits (Int.ofNat x))).bind _=_;rw [hfree];rfl
  refine qcl mask hm hs hnd hlt r (c+1) (owner.setIfInBounds x (some c)) ?_ hcl ⟨by simp [ho.1],fun j hj k=>?_⟩ |> fun⟨ow,a,b⟩=>⟨ow,?_,b⟩
  ·rw [<- List.tail_drop,hd];rfl
  ·rw [Array.getElem?_setIfInBounds]
   have hxs:x<owner.size:=by rw [ho.1];lia
   by_cases e:x=j
   ·subst e
    rw [gx rfl,gx hxs]
    constructor
    ·intro h;have:c=k:=by simpa using h
     subst this;exact⟨by lia,hx⟩
    ·rintro⟨h1,h2⟩
     have hkl:k<hs.length:=by lia
     rw [m9 hkl] at h2;rw [m9 hcl] at hx;have:=(g40 hnd).mp ((mi h2).trans (mi hx).symm);rw [this]
   ·rw [m8 e,ho.2 j hj k]
    constructor
    ·rintro⟨h1,h2⟩;exact⟨by lia,h2⟩
    ·rintro⟨h1,h2⟩
     refine⟨?_,h2⟩;have:k≠c:=fun e2=>by subst e2;rw [hx] at h2;exact e (mi h2)
     lia
  ·rw [<- a];exact t4 (fun z=>List.foldl _ z _) hstep
theorem qcm{mask:Nat}(hm:15<=mask){hs:List Nat}(hnd:hs.Nodup)(hlt:∀x∈hs,x<12): ∃ow,SetTable.layClean mask (hs.map Int.ofNat).toArray=some ow/\Own mask hs hs.length ow:=by
 obtain⟨ow,a,b⟩:=qcl mask hm hs hnd hlt hs 0 (Array.replicate (mask+1) none) rfl (pj _) ⟨by simp,fun j hj k=>by simp [Array.getElem?_replicate]⟩;refine⟨ow,?_,b⟩;unfold SetTable.layClean;rw [List.foldl_toArray',a]
 ·rfl
 ·simp
theorem qle{mask:Nat}{hs:List Nat}(hnd:hs.Nodup)(hlt:∀x∈hs,x<=mask){ow:Array (Option Nat)}(ho:Own mask hs hs.length ow):
  let live:=(List.range (mask+1)).filterMap fun j=>(ow.getD j none).map (j, ·)
  (live.map Prod.fst).Pairwise (· < ·)/\(∀p∈live,hs[p.2]? = some p.1)/\(live.map Prod.snd).Perm (List.range hs.length):=by
 intro live;have hmem:∀p:Nat×Nat,p∈live↔hs[p.2]? = some p.1:=by
  intro p;obtain⟨j,k⟩:=p;simp only [live,g1u,ti,gf];have hg:∀j,j<=mask->(ow.getD j none=some k↔hs[k]? = some j):=fun j hj=>by
   have hlt':j<ow.size:=by rw [ho.1];lia
   have:ow.getD j none=some k↔ow[j]? = some (some k):=by
    simp [Array.getD,hlt']
   rw [this,ho.2 j hj k];exact⟨fun h=>h.2,fun h=>⟨(mj.mp h).1,h⟩⟩
  constructor
  ·rintro⟨j',hj',k',e,e2⟩
   injection e2 with e3 e4
   subst e3;subst e4;exact(hg _ (by lia)).mp e
  ·intro h
   have hj:=hlt j (ug h);exact⟨j,by lia,k,(hg j hj).mpr h,rfl⟩
 have hf:live.map Prod.fst=(List.range (mask+1)).filter (fun j=>(ow.getD j none).isSome):=by
  simp only [live];generalize List.range (mask+1)=l
  induction l with
  | nil=>rfl
  | cons a l ih=>
   rw [uw,n9];cases e:ow.getD a none with
   | none=>simpa using ih
   | some k=>simpa using ih
 have hpw:(live.map Prod.fst).Pairwise (· < ·):=by
  rw [hf];exact ui _ g4v
 refine⟨hpw,fun p hp=>(hmem p).mp hp,?_⟩;have hn2:(live.map Prod.snd).Nodup:=by
  have h1:=qlc hpw;refine g0i.mpr ?_;have h1':=g0i.mp h1;refine g1z ?_ h1';intro p q hp hq hne e;have a:=(hmem p).mp hp;have b:=(hmem q).mp hq;rw [e,b] at a;exact hne (mi a).symm
 refine(g3k hn2 g48).mpr fun k=>?_;rw [ti,md]
 constructor
 ·rintro⟨p,hp,rfl⟩
  exact(mj.mp ((hmem p).mp hp)).1
 ·intro hk
  exact⟨(hs[k],k),(hmem _).mpr (m9 hk),rfl⟩
theorem range_all{α : Type}: ∀l:List α,(List.range l.length).filterMap (l[·]?)=l
 | []=>rfl
 | a :: l=>by
  rw [nj,g10,uw];simp only [g0s,g1w];have:((fun x=>(a :: l)[x]?) ∘ Nat.succ)=(l[·]?):=by funext i;simp
  rw [this,range_all l]
theorem q7k{mask f m:Nat}{led:Bool}(hm:mask=15\/mask=31\/mask=63){ks:List (Nat×Nat)}(hnd:(ks.map Prod.fst).Nodup)(hlt:∀p∈ks,p.1<12):
  ∃t order ks',SetTable.laid mask f m led true ((ks.map el).toArray.map (·.1))=some (t,order)/\order.filterMap ((ks.map el).toArray[·]?)=(ks'.map el).toArray/\ks'.Perm ks/\Tb t ks'/\t.mask=mask/\t.led=led /\
   coversAll order ks.length=true:=by
 have hlt':∀x∈ks.map Prod.fst,x<12:=fun x hx=>by obtain⟨p,hp,rfl⟩:=md.mp hx;exact hlt p hp
 obtain⟨ow,a,b⟩:=qcm (mask:=mask) (by lia) hnd hlt';obtain⟨h1,h2,h3⟩:=qle hnd (fun x hx=>by have:=hlt' x hx;lia) b;generalize hlv:((List.range (mask+1)).filterMap fun j=>(ow.getD j none).map (j, ·))=live at h1 h2 h3;have ehs:(ks.map el).toArray.map (·.1)=((ks.map Prod.fst).map Int.ofNat).toArray:=by
  simp [el,Function.comp_def]
 have h3':(live.map Prod.snd).Perm (List.range ks.length):=by simpa using h3
 let ks':=live.filterMap (fun p=>ks[p.2]?)
 have hk2:∀p∈live,∃q,ks[p.2]? = some q/\q.1=p.1:=fun p hp=>by
  have:=h2 p hp;rw [gz,gf] at this;exact this
 have hfst:ks'.map Prod.fst=live.map Prod.fst:=by
  simp only [ks'];clear h3 h3' h1 hlv h2
  induction live with
  | nil=>rfl
  | cons p l ih=>
   obtain⟨q,e,e2⟩:=hk2 p (gv ..);rw [uw,e,gh,gh,e2,ih (fun r hr=>hk2 r (gy _ hr))]
 have hperm:ks'.Perm ks:=by
  have e1:ks'=(live.map Prod.snd).filterMap (ks[·]?):=by rw [g1w];rfl
  rw [e1];refine(List.Perm.filterMap _ h3').trans ?_;rw [range_all]
 refine⟨{mask:=mask,place:=(live.map (·.1)).toArray,dummies:= #[],finger:=f,led:=led,moves:=m,plain:=true},(live.map (·.2)).toArray,ks',?_,?_,hperm,?_,rfl,rfl,?_⟩
 ·unfold SetTable.laid
  rw [ehs,a];simp only [Option.bind_eq_bind,gb,hlv]
  rfl
 ·rw [List.filterMap_toArray]
  congr 1
  rw [g1w];have e3:((fun x=>(ks.map el).toArray[x]?) ∘ fun x:Nat×Nat=>x.2)=fun p=>(ks[p.2]?).map el:=by
   funext p;simp
  rw [e3];simp only [ks'];rw [List.map_filterMap]
 ·refine⟨rfl,rfl,?_,?_,?_,?_,.inr ⟨hm,?_⟩⟩
  ·exact((hperm.map Prod.fst).nodup_iff).mpr hnd
  ·exact fun p hp=>hlt p (hperm.mem_iff.mp hp)
  ·have:=t4 List.length hfst
   simpa using this.symm
  ·simpa using h1
  ·simpa using hfst.symm
 ·unfold coversAll
  rw [List.isPerm_iff]
  simpa using h3'
theorem q8h{α : Type}: ∀(l:List α) {i:Nat} (hi:i<l.length),([l[i]]++l.eraseIdx i).Perm l
 | [],i,hi=>by simp at hi
 | a :: l,0,hi=>by simp
 | a :: l,i+1,hi=>by
  have:=q8h l (i:=i) (by simpa using hi);simp only [List.getElem_cons_succ,List.eraseIdx_cons_succ,g49,g0e] at this ⊢;exact(List.Perm.swap _ _ _).trans (List.Perm.cons _ this)
theorem qal{α : Type}(nx:Nat->Nat): ∀(f k:Nat) (l:List α) (out:Array α),l.length<=f->((pickOrder.go nx f k l out).toList).Perm (out.toList++l)
 | 0,k,l,out,h=>by
  have:l=[]:=by cases l <;> simp_all
  subst this;simp [pickOrder.go]
 | f+1,k,[],out,h=>by simp [pickOrder.go]
 | f+1,k,a :: l,out,h=>by
  have hi:nx k%(a :: l).length<(a :: l).length:=g3w _ (by simp);unfold pickOrder.go;rw [m9 hi];refine(qal nx f (k+1) _ _ (by rw [List.length_eraseIdx];simp only [hi,pz];simp at h ⊢;lia)).trans ?_;rw [Array.toList_push,g0h];exact List.Perm.append_left _ (q8h _ hi)
theorem q3y{α : Type}(nx:Nat->Nat)(xs:Array α): ((pickOrder nx xs).toList).Perm xs.toList:=by
 unfold pickOrder;have:=qal nx xs.size 0 xs.toList #[] (by simp)
 simpa using this
theorem q3g{n:Nat}(h:8<=n)(h2:n<64): (SetTable.sizeAbove n=16/\n<16)\/(SetTable.sizeAbove n=32/\16<=n/\n<32)\/(SetTable.sizeAbove n=64/\32<=n):=by
 have:∀n<64,8<=n->((SetTable.sizeAbove n=16/\n<16)\/(SetTable.sizeAbove n=32/\16<=n/\n<32)\/(SetTable.sizeAbove n=64/\32<=n)):=by decide +kernel
 exact this n h2 h
abbrev byT(w:World): Bool:=w.params.followText "set-order"
structure SI(w:World)(h:Heap)(a:Addr)(t:SetTable)(ks:List (Nat×Nat)): Prop where
 ob:∃o ep,h.get? a=some o/\o.ExactSet/\o.data=.set (ks.map el).toArray ep t
 tb:Tb t ks
 ld:t.led = !byT w
section
variable{prog:Program}{w:World}{A:Around}{E:Value->Shared->Prop}{s:Shared}{a:Addr}{t:SetTable}{ks:List (Nat×Nat)}
theorem q4o{n:Nat}(h:n<12): (intKind prog w).hash (n:Int)=(n:Int):=by
 have:∀n<12,hashInt ((n:Nat):Int)=((n:Nat):Int):=by decide
 exact this n h
theorem elems(hl:∀p∈ks,p.1<12): ElemsOf (intKind prog w) (ks.map el):=by
 intro e he;obtain⟨p,hp,rfl⟩:=md.mp he;exact⟨⟨(p.1:Int),g2w _ _ _ _,(q4o (hl p hp)).symm⟩,rfl⟩
theorem q4p(T:Tb t ks)(h7:t.mask=7->ks.length<8): t.fits (ks.map el).toArray.size=true:=by
 have:=T.fits h7;simpa using this
theorem qo6{n:Nat}(h:n∈ks.map Prod.fst): ∃j,List.findIdx? (fun e=>(intKind prog w).is (n:Int) e.2) (ks.map el)=some j:=by
 obtain⟨p,hp,rfl⟩:=md.mp h;cases e:List.findIdx? (fun e=>(intKind prog w).is (p.1:Int) e.2) (ks.map el) with
 | some j=>exact⟨j,rfl⟩
 | none=>
  have:=g3y.mp e (el p) (g00 hp);have h2:(intKind prog w).is (p.1:Int) (el p).2=true:=g2w _ _ _ _;rw [h2] at this;exact absurd this (by decide)
theorem qlf{n:Nat}(h:n∉ks.map Prod.fst): List.findIdx? (fun e=>(intKind prog w).is (n:Int) e.2) (ks.map el)=none:=by
 refine g3y.mpr fun e he=>?_;obtain⟨p,hp,rfl⟩:=md.mp he;cases e:(intKind prog w).is (n:Int) (el p).2 with
 | false=>rfl
 | true=>
  have:=(intKind prog w).inj (el p).2 _ _ e (g2w _ _ (p.1:Int) p.2);have:n=p.1:=by lia
  exact absurd (g00 hp) (this ▸ h)
def Step(t:SetTable)(ks:List (Nat×Nat))(p:Nat×Nat)(t':SetTable)(ks':List (Nat×Nat)): Prop:=
 Tb t' ks'/\t'.led=t.led/\if p.1∈ks.map Prod.fst then ks'=ks/\t'=t else
  ks'.Perm (p :: ks)/\t'.mask=(if(ks.length+1)*5>=t.mask*3 then SetTable.sizeAbove ((ks.length+1)*4)-1 else t.mask)
theorem qo7{h:Heap}{o:Obj}{es es':Array (Int×Value)}{ep:Nat}{t t':SetTable}(ho:h.get? a=some o)(hd:o.data=.set es ep t):
  (h.update a (Obj.putSet es' t')).get? a=some {o with data:=.set es' (ep+1) t'}:=by
 have:=ny (Obj.putSet es' t') ho (by rw [putSet_of es' t' hd];rfl);rw [putSet_of es' t' hd] at this;exact this
theorem SI.put{h:Heap}{t':SetTable}{ks':List (Nat×Nat)}(S:SI w h a t ks)(T':Tb t' ks')(hl:t'.led=t.led): SI w (h.update a (Obj.putSet (ks'.map el).toArray t')) a t' ks':=by
 obtain⟨o,ep,ho,hx,hd⟩:=S.ob;exact⟨⟨_,_,qo7 ho hd,hx,rfl⟩,T',by rw [hl];exact S.ld⟩
theorem size_le(T:Tb t ks): (ks.map el).toArray.size<=sizeLine:=by
 have:=T.n12;rw [g05];simp;lia
theorem qjb{n k:Nat}{Q:Bool->Shared->Prop}(S:SI w s.heap a t ks)(hn:n<12)(h7:t.mask=7->ks.length<7)
  (h:∀h' t' ks',Heap.SameBut a s.heap h'->SI w h' a t' ks'->Step t ks (n,k) t' ks'->Q (!(decide (n∈ks.map Prod.fst))) {s with heap:=h'}) :
  wpAny (model prog w) A (setAddHashed a (.int (n:Int) k) (n:Int)) Q E s:=by
 obtain⟨o,ep,ho,hx,hd⟩:=id S.ob;have T:=S.tb;have hf:t.fits (ks.map el).toArray.size=true:=q4p T (fun e=>by have:=h7 e;lia);have hel:ElemsOf (intKind prog w) (ks.map el).toArray.toList:=by simpa using elems T.lt
 have hn12:=T.n12;unfold setAddHashed setAddHashedIn;refine mq (g0 (g29 ho hd hf ?_));dsimp only;rw [byScan_of (knd:=intKind prog w) rfl (by unfold scanBound;simp;lia) hel];simp only [↓reduceIte];unfold setAddByScan;refine g0 ?_;refine g0 (g07 ?_);have hsc:=@wpAny_setScan_of prog w Int _ (intKind prog w) A E s a o (ks.map el).toArray ep t (.int (n:Int) k) (n:Int) true;rw [q4o hn] at hsc;refine g0 (hsc (g2w _ _ _ _) ho hd hf hel ?_)
 by_cases hm:n∈ks.map Prod.fst
 ·obtain⟨j,hj⟩:=qo6 (prog:=prog) (w:=w) hm
  have hj':List.findIdx? (fun e=>(intKind prog w).is (n:Int) e.2) (ks.map el).toArray.toList=some j:=by simpa using hj
  rw [hj'];dsimp only;refine g7 (g7 ?_);have e:s = {s with heap:=s.heap}:=by cases s;rfl
  have:=h s.heap t ks (g12 a s.heap) S ⟨T,rfl,by rw [gx hm];exact⟨rfl,rfl⟩⟩;rw [ma hm] at this;rw [e];exact this
 ·have hj':List.findIdx? (fun e=>(intKind prog w).is (n:Int) e.2) (ks.map el).toArray.toList=none:=by simpa using qlf (prog:=prog) (w:=w) hm
  rw [hj'];dsimp only;obtain⟨t1,ks1,hL,T1,p1,m1,l1,f1,v1⟩:=lay T (k:=k) hn hm h7;rw [hL];dsimp only;have hgw:∀(b:Bool) {s₁:Shared} {Q':Unit->Shared->Prop},Q' () s₁->wpAny (model prog w) A (match b with|true=>rule "set.scan.the-table-gave-way" | false=>pure ()) Q' E s₁:=
   fun b s₁ Q' hq=>by cases b <;> first|exact g7 hq|exact g07 hq
  refine g0 (hgw false ?_);rw [T1.pl];simp only [↓reduceIte];rw [hashByValue_scannable 8 rfl];refine g0 (g7 ?_);simp only [plainKind, ↓reduceIte];have S1:SI w (s.heap.update a (Obj.putSet (ks1.map el).toArray t1)) a t1 ks1:=S.put T1 l1;have hsb1:=p9 s.heap a (Obj.putSet (ks1.map el).toArray t1);have hlen:ks1.length=ks.length+1:=by rw [p1.length_eq];rfl
  have htf:t1.tooFull=decide ((ks.length+1)*5>=t.mask*3):=by
   unfold SetTable.tooFull SetTable.fill;have:t1.place.size=ks.length+1:=by rw [<- hlen, <- T1.sz];simp
   rw [T1.dm,this,m1];simp
  refine g0 (g15 ho hd ?_ (size_le T1))
  by_cases hfull:(ks.length+1)*5>=t.mask*3
  ·rw [htf,ma hfull]
   simp only [g36,Bool.and_self, ↓reduceIte];have hn1:=T1.n12;have hg:SetTable.grown (ks1.map el).toArray.size=(ks.length+1)*4:=by
    unfold SetTable.grown;simp only [gd,gr,hlen];rw [m8 (by lia)]
   have hsa:SetTable.sizeAbove ((ks.length+1)*4)-1=15\/SetTable.sizeAbove ((ks.length+1)*4)-1=31\/SetTable.sizeAbove ((ks.length+1)*4)-1=63:=by
    have hm7:7<=t.mask:=by rcases T.mz with⟨e,_⟩|⟨e,_⟩ <;> lia
    rcases q3g (n:=(ks.length+1)*4) (by lia) (by lia) with h|h|h <;> lia
   obtain⟨t2,ord,ks2,e2,f2,p2,T2,m2,l2,c2⟩:=q7k (f:=t1.finger) (m:=t1.movedTo (SetTable.sizeAbove ((ks.length+1)*4)-1)) (led:=t1.led) hsa T1.nd T1.lt;have hrl:t1.relaid ((ks1.map el).toArray.map (·.1)) (SetTable.grown (ks1.map el).toArray.size)=some (t2,ord):=by
    unfold SetTable.relaid;rw [hg,T1.pl];exact e2
   have hlen2:ks2.length=ks1.length:=p2.length_eq;have hra:relayAll t1 (ks1.map el).toArray (SetTable.grown (ks1.map el).toArray.size)=((ks2.map el).toArray,t2,false):=by
    unfold relayAll;rw [hrl];dsimp only;rw [f2];have hc:coversAll ord (ks1.map el).toArray.size=true:=by simpa using c2
    have hft:t2.fits (ks2.map el).toArray.size=true:=q4p T2 (fun e=>by lia);rw [hc,hft];rfl
   rw [hra];dsimp only;refine g0 (hgw false ?_);obtain⟨o1,ep1,ho1,hx1,hd1⟩:=id S1.ob;refine g0 (g15 ho1 hd1 ?_ (size_le T2));refine g7 ?_;dsimp only;refine g7 ?_;have:=h _ t2 ks2 (hsb1.trans (p9 _ a _)) (S1.put T2 l2) ⟨T2,l2.trans l1,by
    rw [m8 hm,gx hfull];exact⟨p2.trans p1,m2⟩⟩
   rw [m6 hm] at this;exact this
  ·rw [htf,m6 hfull]
   simp only [g36,Bool.true_and,gu, ↓reduceIte];refine g7 ?_;have:=h _ t1 ks1 hsb1 S1 ⟨T1,l1,by rw [m8 hm,m8 hfull];exact⟨p1,m1⟩⟩;rw [m6 hm] at this;exact g7 this
end
theorem q7l{α β : Type}[DecidableEq α]{f : α -> β}: ∀ {l:List β} {ks:List α},l.Perm (ks.map f)->∃ls:List α,ls.Perm ks/\l=ls.map f
 | [],ks,h=>by
  have:ks=[]:=by simpa using h.symm
  exact⟨[],by rw [this],rfl⟩
 | x :: l,ks,h=>by
  have hx:x∈ks.map f:=h.mem_iff.mp (gv ..);obtain⟨p,hp,rfl⟩:=md.mp hx;have h1:=List.perm_cons_erase hp;have h2:(f p :: l).Perm (f p :: (ks.erase p).map f):=h.trans (h1.map f);obtain⟨ls,a,e⟩:=q7l (List.Perm.cons_inv h2);exact⟨p :: ls,(List.Perm.cons _ a).trans h1.symm,by rw [e];rfl⟩
section
variable{prog:Program}{w:World}{A:Around}{E:Value->Shared->Prop}{s:Shared}{a b:Addr}{t u:SetTable}{ks ls:List (Nat×Nat)}
theorem SI.state{Q:(Array (Int×Value)×Nat×SetTable)->Shared->Prop}(S:SI w s.heap a t ks)(h7:t.mask=7->ks.length<8)
  (h:∀ep,(∃o,s.heap.get? a=some o/\o.ExactSet/\o.data=.set (ks.map el).toArray ep t)->Q ((ks.map el).toArray,ep,t) s):wpAny (model prog w) A (setState a) Q E s:=by
 obtain⟨o,ep,ho,hx,hd⟩:=S.ob;exact g29 ho hd (q4p S.tb h7) (h ep ⟨o,ho,hx,hd⟩)
theorem SI.keep{h h':Heap}(S:SI w h a t ks)(e:∀o,h.get? a=some o->h'.get? a=some o): SI w h' a t ks:=by
 obtain⟨o,ep,ho,r⟩:=S.ob;exact⟨⟨o,ep,e o ho,r⟩,S.tb,S.ld⟩
theorem q8i{es:Array (Int×Value)}{t':SetTable}{ord:Array Nat}{es':Array (Int×Value)}{α : Type}{F:Array (Int×Value)×SetTable->Sem α}{Q : α -> Shared->Prop}(e:ord.filterMap (es[·]?)=es')(hs:es'.size=es.size)
  (h:wpAny (model prog w) A (F (es',t')) Q E s) :
  wpAny (model prog w) A ((do
   let some (t,order):=some (t',ord)|unsupported "internal:set-table-without-room"
   let es':=order.filterMap (es[·]?)
   if es'.size != es.size then unsupported "internal:set-table-lost-an-element"
   pure (es',t):Sem (Array (Int×Value)×SetTable)) >>= F) Q E s:=by
 refine g0 ?_;dsimp only;rw [e];have:(es'.size != es.size)=false:=by simp [hs]
 rw [this];simp only [gu, ↓reduceIte];exact g7 h
theorem qlg{wanted:Nat}{Q:Unit->Shared->Prop}(S:SI w s.heap a t ks)(h7:t.mask=7->ks.length<8)(hw:8<=wanted)(hw2:wanted<64)
  (h:∀h' t' ks',Heap.SameBut a s.heap h'->SI w h' a t' ks'->t'.mask=SetTable.sizeAbove wanted-1->ks'.Perm ks->Q () {s with heap:=h'}) :
  wpAny (model prog w) A (setRelay a wanted) Q E s:=by
 unfold setRelay;refine g0 (S.state h7 fun ep ⟨o,ho,hx,hd⟩=>?_);dsimp only;have hc:=q3g hw hw2;have hsz:¬(SetTable.sizeAbove wanted>sizeLine):=by rw [g05];lia
 rw [m8 hsz];obtain⟨t2,ord,ks2,e2,f2,p2,T2,m2,l2,c2⟩:=q7k (f:=t.finger) (m:=t.movedTo (SetTable.sizeAbove wanted-1)) (led:=t.led) (mask:=SetTable.sizeAbove wanted-1) (by lia) S.tb.nd S.tb.lt;have hrl:t.relaid ((ks.map el).toArray.map (·.1)) wanted=some (t2,ord):=by
  unfold SetTable.relaid;rw [S.tb.pl];exact e2
 rw [hrl];refine q8i f2 (by simp [p2.length_eq]) ?_;dsimp only;refine g15 ho hd ?_ (size_le T2);exact h _ t2 ks2 (p9 _ a _) (S.put T2 l2) m2 p2
theorem wp_walk{Q:Array (Int×Value)->Shared->Prop}(S:SI w s.heap a t ks)(h7:t.mask=7->ks.length<8)
  (h:∀ls:List (Nat×Nat),ls.Perm ks->Q (ls.map el).toArray s):wpAny (model prog w) A (setWalk a) Q E s:=by
 unfold setWalk;refine g0 (S.state h7 fun ep _=>?_);dsimp only;unfold setsByText;refine g0 (g0 (nk (g7 ?_)))
 by_cases hb:byT w=true
 ·refine n8 (fun _=>?_) (fun c=>absurd hb c)
  refine g0 (nk (g7 ?_));have hp:=q3y ((⟨(model prog w).prog,(model prog w).w.params⟩:Setting).params.setOrder a ep) (ks.map el).toArray;generalize pickOrder ((⟨(model prog w).prog,(model prog w).w.params⟩:Setting).params.setOrder a ep) (ks.map el).toArray=xs at hp;have hp':xs.toList.Perm (ks.map el):=by simpa using hp
  obtain⟨ls,hl,e⟩:=q7l hp';have:=h ls hl;rw [<- e] at this;exact this
 ·refine n8 (fun c=>absurd c hb) (fun _=>?_)
  refine n8 (fun c=>?_) (fun _=>?_)
  ·have c':(!t.plain&&decide ((ks.map el).toArray.size>1))=true:=c
   rw [S.tb.pl] at c';simp at c'
  ·have hld:t.led=true:=by rw [S.ld];simpa using hb
   show wpAny _ _ ((do if !t.led&&(ks.map el).toArray.size>1 then unsupported "set:maker-not-led" : Sem Unit) >>= fun _=>pure (ks.map el).toArray) _ _ _;rw [hld];simp only [pd,g35,gu, ↓reduceIte];exact g0 (g7 (g7 (h ks (g51 _))))
end
section
variable{prog:Program}{w:World}{A:Around}{E:Value->Shared->Prop}{s:Shared}{a b:Addr}{t u:SetTable}{ks ls:List (Nat×Nat)}
theorem qjc{os:List Addr}{f:Option Addr}{Q:Array (Int×Value)->Shared->Prop}(S:SI w s.heap a t ks)(h7:t.mask=7->ks.length<8)
  (h:∀ls:List (Nat×Nat),ls.Perm ks->Q (ls.map el).toArray s):wpAny (model prog w) A (setWalkUnseen a os f) Q E s:=by
 unfold setWalkUnseen;refine g0 (S.state h7 fun ep _=>?_);dsimp only;refine g0 ?_;unfold setsByText;refine g0 (nk (g7 ?_));dsimp only;refine n8 (fun _=>?_) (fun c=>?_)
 ·exact wp_walk S h7 h
 ·refine absurd ?_ c
  have:t.led = !(model prog w).w.params.followText "set-order" :=S.ld;rw [this,S.tb.pl];cases(model prog w).w.params.followText "set-order" <;> simp
theorem qfj{ep:Nat}{ob:Obj}{each:Sem Unit}(hab:a≠b)(hob:∀ {s':Shared} {Q:(Array (Int×Value)×Nat×SetTable)->Shared->Prop},s'.heap.get? b=some ob->Q ((ls.map el).toArray,ep,u) s'->wpAny (model prog w) A (setState b) Q E s')
  (hea:∀ {s':Shared} {Q:Unit->Shared->Prop},s'.heap.get? b=some ob->Q () s'->wpAny (model prog w) A each Q E s') :
  ∀(r:List (Nat×Nat)) (s:Shared) (t:SetTable) (ks:List (Nat×Nat)) (Q:Unit->Shared->Prop),(∀p∈r,p.1<12)->SI w s.heap a t ks->(ks.length+r.length)*5<t.mask*3->s.heap.get? b=some ob ->
  (∀h' t' ks',Heap.SameBut a s.heap h'->SI w h' a t' ks'->t'.mask=t.mask->(∀n,n∈ks'.map Prod.fst↔n∈ks.map Prod.fst\/n∈r.map Prod.fst)->ks'.length<=ks.length+r.length->Q () {s with heap:=h'}) ->
  wpAny (model prog w) A (forIn (r.map el) PUnit.unit fun(x:Int×Value) (_:PUnit)=>do
   let _ <- holding [x.2] (setAddHashed a x.2 x.1)
   each
   if(<- setState b).2.1 != ep then unsupported "set.changed-during-merge"
   pure (ForInStep.yield PUnit.unit)) Q E s
 | [],s,t,ks,Q,hr,S,hm,hb,h=>by
  simp only [u7,List.forIn_nil];refine g7 ?_;have:=h s.heap t ks (g12 _ _) S rfl (fun n=>by simp) (by simp);exact this
 | p :: r,s,t,ks,Q,hr,S,hm,hb,h=>by
  simp only [gh,g2t];have hp:=hr p (gv ..);have hml:(ks.length+1+r.length)*5<t.mask*3:=by simp only [nj] at hm;lia
  refine g0 ?_;refine g0 (mq (qjb (n:=p.1) (k:=p.2) S hp (fun e=>by lia) fun h' t' ks' hsb S' st=>?_));have hb':h'.get? b=some ob:=by rw [hsb.2 b (fun e=>hab e.symm)];exact hb
  obtain⟨T',l',c⟩:=st;have hlen:ks'.length<=ks.length+1/\t'.mask=t.mask/\(∀n,n∈ks'.map Prod.fst↔n∈ks.map Prod.fst\/n=p.1):=by
   split at c
   ·rename_i hin
    obtain⟨rfl,rfl⟩:=c;exact⟨by lia,rfl,fun n=>⟨.inl,fun h=>h.elim id (fun e=>e ▸ hin)⟩⟩
   ·obtain⟨c1,c2⟩:=c
    rw [m8 (by lia)] at c2;refine⟨by rw [c1.length_eq];simp,c2,fun n=>?_⟩;rw [(c1.map Prod.fst).mem_iff,gh,m4];exact Or.comm
  refine g0 (hea (s':={s with heap:=h'}) hb' ?_);refine g0 (hob (s':={s with heap:=h'}) hb' ?_);dsimp only;rw [m8 (by simp)];refine g7 ?_;refine qfj hab hob hea r {s with heap:=h'} t' ks' Q (fun q hq=>hr q (gy _ hq)) S' (by rw [hlen.2.1];lia) hb' fun h2 t2 ks2 sb2 S2 m2 i2 l2=>?_;refine h h2 t2 ks2 (hsb.trans sb2) S2 (m2.trans hlen.2.1) (fun n=>?_) (by simp only [nj];lia);rw [i2 n,hlen.2.2 n,gh,m4,or_assoc]
theorem qo8{m:Nat}{Q:Unit->Shared->Prop}(S:SI w s.heap a t ks)(h7:t.mask=7->ks.length<8)(hm:m<=12)
  (h:∀h' t' ks',Heap.SameBut a s.heap h'->SI w h' a t' ks'->ks'.Perm ks->(ks.length+m)*5<t'.mask*3 ->
   ((ks.length+m)*5<t.mask*3/\t'.mask=t.mask\/t'.mask=SetTable.sizeAbove ((ks.length+m)*2)-1/\t.mask*3<=(ks.length+m)*5)->Q () {s with heap:=h'}) :
  wpAny (model prog w) A (setRoomFor a m) Q E s:=by
 unfold setRoomFor;refine g0 (S.state h7 fun ep _=>?_);dsimp only;have hsz:t.place.size=ks.length:=by rw [<- S.tb.sz];simp
 have hfl:t.fill=ks.length:=by unfold SetTable.fill;rw [S.tb.dm,hsz];simp
 have hn:=S.tb.n12;unfold SetTable.roomFor;rw [hfl,hsz];have hmk:=S.tb.mz
 by_cases c:(ks.length+m)*5>=t.mask*3
 ·rw [gx c]
  dsimp only;refine qlg S h7 (by rcases hmk with⟨e,_⟩|⟨e,_⟩ <;> lia) (by lia) fun h' t' ks' sb S' m' p'=>?_;have hc:=q3g (n:=(ks.length+m)*2) (by rcases hmk with⟨e,_⟩|⟨e,_⟩ <;> lia) (by lia);exact h h' t' ks' sb S' p' (by lia) (.inr ⟨m',c⟩)
 ·rw [m8 c]
  dsimp only;refine g7 ?_;exact h s.heap t ks (g12 _ _) S (g51 _) (by lia) (.inl ⟨by lia,rfl⟩)
theorem qcn{each:Sem Unit}{Q:Unit->Shared->Prop}(hab:a≠b)(S:SI w s.heap a t ks)(hbm:ks=[]->t.mask=7)(h7:t.mask=7->ks.length<8)(U:SI w s.heap b u ls)(hu:ls.length<5->u.mask=7)(hu7:u.mask=7->ls.length<8)
  (hea:∀ {s':Shared} {Q:Unit->Shared->Prop},s'.heap.get? b=s.heap.get? b->Q () s'->wpAny (model prog w) A each Q E s')
  (h:∀h' t' ks',Heap.SameBut a s.heap h'->SI w h' a t' ks'->(t'.mask=7->ks'.length<8)->(∀n,n∈ks'.map Prod.fst↔n∈ks.map Prod.fst\/n∈ls.map Prod.fst)->(ks=[]->ks'=[]->t'.mask=7)->Q () {s with heap:=h'}) :
  wpAny (model prog w) A (setMerge a b each) Q E s:=by
 unfold setMerge;have hne:(a==b)=false:=by simpa using hab
 rw [hne];simp only [gu, ↓reduceIte];have hn:=S.tb.n12;have hnu:=U.tb.n12;refine g0 (U.state hu7 fun ep ⟨o,ho,hx,hd⟩=>?_);dsimp only
 by_cases he:ls=[]
 ·subst he
  have:((([]:List (Nat×Nat)).map el).toArray).isEmpty=true:=rfl;rw [gx this];refine g7 ?_;exact h s.heap t ks (g12 _ _) S h7 (fun n=>by simp) (fun e _=>hbm e)
 ·have:((ls.map el).toArray).isEmpty=false:=by cases ls <;> simp_all
  rw [this];simp only [gu, ↓reduceIte];have hsz:((ls.map el).toArray).size=ls.length:=by simp
  rw [hsz];refine g0 (qo8 S h7 hnu fun h1 t1 ks1 sb1 S1 p1 r1 q1=>?_);have U1:SI w h1 b u ls:=U.keep fun o e=>by rw [sb1.2 b (fun e=>hab e.symm)];exact e
  have ho1:h1.get? b=some o:=by rw [sb1.2 b (fun e=>hab e.symm)];exact ho
  have hl1:ks1.length=ks.length:=p1.length_eq;have hpos:0<ls.length:=List.length_pos_iff.mpr he;refine g0 (SI.state (s:={s with heap:=h1}) S1 (fun e=>by lia) fun ep1 ⟨o1,ho1',hx1,hd1⟩=>?_);dsimp only;have hfl:t1.fill=ks.length:=by unfold SetTable.fill;rw [S1.tb.dm, <- hl1, <- S1.tb.sz];simp
  unfold SetTable.road;rw [hfl,U.tb.dm]
  by_cases hk:ks=[]
  ·subst hk
   have hk1:ks1=[]:=by simpa using hl1
   subst hk1;simp only [List.length_nil,bne_self_eq_false,gu, ↓reduceIte];have hld:(t1.led&&u.led) = !byT w:=by rw [S1.ld,U.ld];simp
   have hpl:(t1.plain&&u.plain)=true:=by rw [S1.tb.pl,U.tb.pl];rfl
   by_cases hmk:t1.mask=u.mask
   ·have hc:((t1.mask==u.mask)&&(#[]:Array Nat).isEmpty)=true:=by simp [hmk]
    rw [hc];simp only [↓reduceIte];refine g15 (s:={s with heap:=h1}) ho1' hd1 ?_ (size_le U.tb);rw [hld,hpl];have T':Tb {u with dummies:= #[],finger:=t1.finger,led:= !byT w,moves:=t1.moves,plain:=true} ls:=⟨rfl,rfl,U.tb.nd,U.tb.lt,U.tb.sz,U.tb.rs,U.tb.mz⟩
    refine h _ _ ls (sb1.trans (p9 _ a _)) (S1.put T' (by rw [S1.ld])) hu7 (fun n=>by simp) (fun _ e=>absurd e he)
   ·have hc:((t1.mask==u.mask)&&(#[]:Array Nat).isEmpty)=false:=by simp [hmk]
    rw [hc];simp only [gu, ↓reduceIte];have ht7:=hbm rfl;have hm1:t1.mask=15\/t1.mask=31\/t1.mask=63:=by
     rcases S1.tb.mz with⟨e,_⟩|⟨e,_⟩
     ·exfalso
      have:ls.length<5:=by rw [e] at r1;simp at r1;lia
      exact hmk (e.trans (hu this).symm)
     ·exact e
    obtain⟨t2,ord,ks2,e2,f2,p2,T2,m2,l2,c2⟩:=q7k (f:=t1.finger) (m:=t1.moves) (led:=t1.led&&u.led) (mask:=t1.mask) hm1 U.tb.nd U.tb.lt;rw [hpl,e2];refine q8i f2 (by simp [p2.length_eq]) ?_;dsimp only;refine g15 (s:={s with heap:=h1}) ho1' hd1 ?_ (size_le T2);refine h _ t2 ks2 (sb1.trans (p9 _ a _)) (S1.put T2 (by rw [l2,hld,S1.ld])) (fun e=>by lia) (fun n=>?_) (fun _ e=>?_)
    ·rw [(p2.map Prod.fst).mem_iff];simp
    ·rw [e] at p2;exact absurd (by simpa using p2.symm) he
  ·have hfn:(ks.length != 0)=true:=by simp [hk]
   rw [hfn];simp only [↓reduceIte];refine g0 (qjc (s:={s with heap:=h1}) U1 hu7 fun xs px=>?_);rw [<- g20];have hxl:xs.length=ls.length:=px.length_eq;have key:=qfj (prog:=prog) (w:=w) (A:=A) (E:=E) (ls:=ls) (u:=u) (ep:=ep) (ob:=o) (each:=each) hab (fun {s'} {Q'} e q=>g29 e hd (q4p U.tb hu7) q) (fun {s'} {Q'} e q=>hea (by rw [e,ho]) q)
    xs {s with heap:=h1} t1 ks1 (fun _ s'=>wpAny (model prog w) A (pure ()) Q E s') (fun p hp=>U.tb.lt p (px.mem_iff.mp hp)) S1 (by rw [hl1,hxl];exact r1) ho1 (fun h2 t2 ks2 sb2 S2 m2 i2 l2=>?_)
   ·exact g0 key
   ·refine g7 ?_
    refine h h2 t2 ks2 (sb1.trans sb2) S2 (fun e=>by lia) (fun n=>?_) (fun e=>absurd e hk);rw [i2 n,(p1.map Prod.fst).mem_iff,(px.map Prod.fst).mem_iff]
end
theorem qco:entryFor table "set.__or__" = some Builtin.«frozenset.__or__» :=
 entryFor_alias (id':="frozenset.__or__") (by kernel_rfl) rfl (by decide +kernel) (by kernel_rfl)
theorem qfk:isSubtype (.type "set") (.type "set")=pure true:=by rw [g19];kernel_rfl
section
variable{prog:Program}{w:World}{A:Around}{E:Value->Shared->Prop}{s:Shared}{a b:Addr}{t u:SetTable}{ks ls:List (Nat×Nat)}
theorem SI.typeIs(S:SI w s.heap a t ks): s.TypeIs (.ref a) "set" :=let⟨o,_,ho,hc,_⟩:=S.ob; ⟨o,ho,hc.1⟩
def yk(w:World): Obj:={cls:=.type "set",dict:=none,data:=.set #[] 0 (.fresh 0 0 (!byT w))}
theorem qlh{led:Bool}: Tb (.fresh 0 0 led) []:=⟨rfl,rfl,by simp,by simp,by simp [SetTable.fresh],by simp [SetTable.fresh],.inl ⟨rfl,by simp [SetTable.fresh]⟩⟩
theorem qcp{h:Heap}(ho:h.get? a=some (yk w)): SI w h a (.fresh 0 0 (!byT w)) []:=⟨⟨_,0,ho,⟨rfl,rfl,rfl⟩,rfl⟩,qlh,rfl⟩
theorem qjd{Q:Value->Shared->Prop}(h:Q (.ref s.heap.objs.size) {s with heap:=s.heap.push (yk w)}): wpAny (model prog w) A (newSet (.type "set")) Q E s:=by
 unfold newSet setsByText;refine g0 (g0 (nk (g7 ?_)));dsimp only;simp only [newObj];exact g0 (wpAny_alloc (g7 h))
theorem qcq(S:SI w s.heap a t ks){Q:Bool->Shared->Prop}(h:Q true s): wpAny (model prog w) A (Builtin.Frozenset.isAnySet (.ref a)) Q E s:=by
 unfold Builtin.Frozenset.isAnySet;show wpAny _ _ (isInstance (.ref a) (.type "set") >>= fun b=>_) _ _ _;refine g0 (g04 S.typeIs qfk ?_);exact g7 h
theorem qst{Q:Value->Shared->Prop}(hab:a≠b)(S:SI w s.heap a t ks)(hs:ks.length<5->t.mask=7)(hs7:t.mask=7->ks.length<8)(U:SI w s.heap b u ls)(hu:ls.length<5->u.mask=7)(hu7:u.mask=7->ls.length<8)
  (h:∀h' t' ks',(∀c o,c<s.heap.objs.size->s.heap.get? c=some o->h'.get? c=some o)->SI w h' s.heap.objs.size t' ks'->(t'.mask=7->ks'.length<8)->(∀n,n∈ks'.map Prod.fst↔n∈ks.map Prod.fst\/n∈ls.map Prod.fst)->Q (.ref s.heap.objs.size) {s with heap:=h'}) :
  wpAny (model prog w) A (binaryOp .BitOr (.ref a) (.ref b)) Q E s:=by
 refine wpAny_binaryOp_same S.typeIs U.typeIs F.fills_set_or F.slot_set_or (n6 F.slot_set_or S.typeIs qco ?_ (F.args_set_or_2 _ _));have hla:a<s.heap.objs.size:=let⟨o,_,ho,_⟩:=S.ob;gi ho
 have hlb:b<s.heap.objs.size:=let⟨o,_,ho,_⟩:=U.ob;gi ho
 show wpAny _ _ ((Builtin.Frozenset.slot1 "__or__" ⟨[.ref a,.ref b],[]⟩) >>= _) _ _ _;refine g0 (g7 ?_);dsimp only;refine g0 ?_;show wpAny _ _ (Builtin.Frozenset.isAnySet (.ref a) >>= _) _ _ _;refine g0 (qcq S ?_);refine qcq U ?_;simp only [pd,gu, ↓reduceIte];refine g0 (g7 ?_);refine g0 ?_;show wpAny _ _ (Builtin.Frozenset.copyOf a >>= _) _ _ _;refine g0 ?_;unfold Builtin.Frozenset.copyOf Builtin.Frozenset.baseOf;refine g0 (g0 (g04 S.typeIs qfk (g7 ?_)));simp only [↓reduceIte];refine g0 (qjd ?_);refine g0 (g7 ?_);have hget:(s.heap.push (yk w)).get? s.heap.objs.size=some (yk w):=gp _ rfl;have old:∀c o,s.heap.get? c=some o->(s.heap.push (yk w)).get? c=some o:=fun c o e=>g9 _ e;refine g0 (qcn (s:={s with heap:=s.heap.push (yk w)}) (t5 hla) (qcp hget) (fun _=>rfl) (fun _=>by simp) (S.keep (old a)) hs hs7 (fun _ q=>g7 q) fun h1 t1 ks1 sb1 S1 z1 i1 g1=>?_);refine g7 ?_;have old1:∀c o,c<s.heap.objs.size->s.heap.get? c=some o->h1.get? c=some o:=fun c o hc e=>by
  rw [sb1.2 c (gw hc)];exact old c o e
 have hbne:((Value.ref b) != (Value.ref a))=true:=by simp [m5 hab]
 rw [gx hbne];have U1:SI w h1 b u ls:=U.keep fun o e=>old1 b o hlb e;refine g0 (g7 ?_);refine g0 (mq ?_);unfold Builtin.Frozenset.updateFrom;refine g0 (qcq (s:={s with heap:=h1}) U1 ?_);simp only [↓reduceIte];refine g0 (g7 ?_);unfold Builtin.Frozenset.merge;obtain⟨ob,ep,hob,hxb,hdb⟩:=id U1.ob;refine g0 (wpAny_setEpoch_of (s:={s with heap:=h1}) hob hdb (q4p U.tb hu7) ?_);refine qcn (s:={s with heap:=h1}) (t5 hlb) S1 (fun e=>g1 rfl e) z1 U1 hu hu7 (fun {s'} {Q'} e q=>?_) fun h2 t2 ks2 sb2 S2 z2 i2 g2=>?_
 ·unfold Builtin.Frozenset.unchanged
  have e':s'.heap.get? b=some ob:=e.trans hob;refine g0 (wpAny_setEpoch_of e' hdb (q4p U.tb hu7) ?_);rw [m8 (by simp)];exact g7 q
 ·refine g7 (g7 ⟨_,rfl,by simp,?_⟩)
  refine h h2 t2 ks2 (fun c o hc e=>?_) S2 z2 (fun n=>?_)
  ·rw [sb2.2 c (gw hc)];exact old1 c o hc e
  ·rw [i2 n,i1 n];simp
end
def MR(t:SetTable)(ks:List (Nat×Nat)): Prop:=(ks.length<5->t.mask=7)/\(5<=ks.length->t.mask=31)
theorem MR.step{t t':SetTable}{ks ks':List (Nat×Nat)}{p:Nat×Nat}(m:MR t ks)(st:Step t ks p t' ks'): MR t' ks':=by
 obtain⟨T',l',c⟩:=st
 split at c
 ·obtain⟨rfl,rfl⟩:=c;exact m
 ·obtain⟨c1,c2⟩:=c
  have hl:ks'.length=ks.length+1:=by rw [c1.length_eq];rfl
  have h12:=T'.n12
  by_cases h5:ks.length<4
  ·rw [m.1 (by lia),m8 (by lia)] at c2
   exact⟨fun _=>c2,fun h=>by lia⟩
  ·by_cases h6:ks.length=4
   ·rw [m.1 (by lia),h6] at c2
    have:t'.mask=31:=by rw [c2];decide
    exact⟨fun h=>by lia,fun _=>this⟩
   ·rw [m.2 (by lia),m8 (by lia)] at c2
    exact⟨fun h=>by lia,fun _=>c2⟩
theorem Step.mem{t t':SetTable}{ks ks':List (Nat×Nat)}{p:Nat×Nat}(st:Step t ks p t' ks')(n:Nat): n∈ks'.map Prod.fst↔n∈ks.map Prod.fst\/n=p.1:=by
 obtain⟨T',l',c⟩:=st
 split at c
 ·rename_i hin
  obtain⟨rfl,rfl⟩:=c;exact⟨.inl,fun h=>h.elim id (fun e=>e ▸ hin)⟩
 ·rw [(c.1.map Prod.fst).mem_iff,gh,m4]
  exact Or.comm
def iv(p:Nat×Nat): Value:=.int (p.1:Int) p.2
section
variable{prog:Program}{w:World}{A:Around}{R:Result->Shared->Prop}{I:Addr}{fp wr:List Addr}{G:Array GenState->Array GenState->Prop}{P:Nat->Value->Prop}{St:Nat->Shared->Prop}
theorem qli(qs:List (Nat×Nat))(hq:∀p∈qs,p.1<12)(W:WalksS prog w A.in1 I fp wr G qs.length P St)(S:Addr)(hSf:S∉fp)
  (hval:∀i v,P i v->∃p,qs[i]? = some p/\v=iv p) :
  ∀(k i:Nat) (s:Shared) (t:SetTable) (ks:List (Nat×Nat)),qs.length-i=k->i<=qs.length->St i s ->
   SI w s.heap S t ks->MR t ks->(∀n,n∈ks.map Prod.fst↔n∈(qs.take i).map Prod.fst) ->
   (∀s' t' ks',Moved (S :: wr) G s s'->SI w s'.heap S t' ks'->MR t' ks'->(∀n,n∈ks'.map Prod.fst↔n∈qs.map Prod.fst)->R (.ok (.ret .none)) s') ->
   codeAny (model prog w) A (.builtin "set.update.loop" ⟨[.ref S,.ref I],[]⟩) R s:=by
 have hSw:S∉wr:=fun h=>hSf (W.sub _ h);have hsub:∀b∈wr,b∈S :: wr:=fun b hb=>gy _ hb;intro k
 induction k with
 | zero=>
  intro i s t ks hk hi hst hS hM hmem hR;have hin:i=qs.length:=by lia
  subst hin;refine nu g21 ?_;rw [ng g09 _];show wpAny _ A.in1 (pyNext (.ref I) >>= _) _ _ s;refine g0 (W.done s _ _ hst fun s' hm=>?_);show wpAny _ A.in1 (ret Value.none) _ _ s';exact g7 (hR s' t ks (hm.mono hsub) (hS.keep fun o e=>hm.heap S _ hSw e) hM (by simpa using hmem))
 | succ k ih=>
  intro i s t ks hk hi hst hS hM hmem hR;have hlt:i<qs.length:=by lia
  refine nu g21 ?_;rw [ng g09 _];show wpAny _ A.in1 (pyNext (.ref I) >>= _) _ _ s;refine g0 (W.item i s _ _ hlt hst fun v s' hP hst' hm=>?_);obtain⟨p,hp,rfl⟩:=hval i v hP;have hp12:=hq p (ug hp);have hS':SI w s'.heap S t ks:=hS.keep fun o e=>hm.heap S _ hSw e;show wpAny _ A.in1 (holding [iv p] (setAdd S (iv p)) >>= _) _ _ s';refine g0 (mq ?_);unfold setAdd;refine mq ?_;refine g0 ((intKind prog w).pyHash (k:=(p.1:Int)) (g2w _ _ _ _) ?_);rw [q4o hp12];refine qjb (s:={s' with toks:=s'.toks+1}) hS' hp12 (fun e=>g0l fun c=>by have:=hM.2 (by lia);lia) fun h' t' ks' hsb S2 st=>?_;refine g7 ⟨ud g09 _,ih (i+1) _ t' ks' (by lia) hlt (W.frame _ s' _ _ hst' (g38 _) fun b hb o e=>?_) S2 (hM.step st) (fun n=>?_) fun s'' t'' ks'' hm'' hS'' hM'' hi''=>?_⟩
  ·rw [hsb.2 b (fun h:b=S=>hSf (by rw [<- h];exact hb))];exact e
  ·rw [st.mem n,hmem n]
   have:qs.take (i+1)=qs.take i++[p]:=by
    rw [g25,hp];rfl
   rw [this,nv,nh];simp
  ·refine hR s'' t'' ks'' (Moved.trans W.gtrans ((hm.mono hsub).then_heap (g38 _) fun b o hb e=>?_) hm'') hS'' hM'' hi''
   rw [hsb.2 b (fun h:b=S=>hb (by rw [h];exact gv))];exact e
end
theorem sub_tuple_set:isSubtype (.type "tuple") (.type "set")=pure false:=by rw [g19];kernel_rfl
theorem sub_tuple_frozenset:isSubtype (.type "tuple") (.type "frozenset")=pure false:=by rw [g19];kernel_rfl
section
variable{prog:Program}{w:World}{A:Around}{E:Value->Shared->Prop}{s:Shared}
theorem qje(a:Value){Q₁:Value->Shared->Prop}(h:Q₁ (.ref s.heap.objs.size) {s with heap:=s.heap.push (yk w)}):
  codeAny (model prog w) A (.call (.builtin "set.__new__") ⟨[.type "set",a],[]⟩) (wants Q₁ E) s:=by
 refine g4o ?_;show wpAny _ A.in1 (do checkBuiltinCall "set.__new__" ⟨[.type "set",a],[]⟩;again (.builtin "set.__new__" ⟨[.type "set",a],[]⟩)) _ _ s;refine g0 (wpAny_of_eq (F.newCall_set_1 a) (g7 ⟨ud F.plain_set_new _,nu F.entry_set_new ?_⟩));rw [ng F.plain_set_new _];unfold Builtin.«set.__new__» Builtin.Frozenset.newClass;have hsub:=sub_set_self;obtain⟨hp,g,d,tk,os⟩:=s;dsimp only
 wp_walk
 refine nk (g7 ?_);dsimp only;simp only [newObj];refine g0 (wpAny_alloc (g7 ?_));exact g7 h
set_option maxHeartbeats 3200000 in
theorem q9m{l:Addr}(qs:List (Nat×Nat))(hq:∀p∈qs,p.1<12){Q:Value->Shared->Prop}
  (hh:A.handled=none) (hl:s.heap.IsTuple l (qs.map iv).toArray)
  (h:∀(h':Heap) (tk:Nat) t ks,SI w h' s.heap.objs.size t ks->MR t ks->(∀n,n∈ks.map Prod.fst↔n∈qs.map Prod.fst)->s.toks<=tk ->
   (∀b o,b<s.heap.objs.size->s.heap.get? b=some o->h'.get? b=some o)->Q (.ref s.heap.objs.size) {s with heap:=h',toks:=tk}) :
  wpAny (model prog w) A (call (.type "set") [.ref l]) Q E s:=by
 obtain⟨c,tl,hmro⟩:=g0q.mro;have hmade:=g0q.made;have hsub:=g0q.sub;refine g06 (g4o ?_);show wpAny _ _ (callAny (.type "set") _) _ _ _;refine g7 ⟨g1x _ (by decide +kernel),nu F.entry_type_call ?_⟩;rw [Around.under_plain (weight_type_call_type "set" [.ref l] []) rfl];have h1:=g0q.notType;have h2:=g0q.canCreate;have hct:=F.typeCall_set_1 (.ref l)
 repeat (any_goals (first|assumption|wp_step))
 refine g0n (qje (.ref l) (E:=E) (Q₁:=fun obj s₁=>obj=.ref s.heap.objs.size/\s₁ = {s with heap:=s.heap.push (yk w)}) ⟨rfl,rfl⟩) fun r s₁ hr=>?_;cases r with
 | error e=>exact hr
 | ok fl=>
  cases fl with
  | ret obj=>
   obtain⟨rfl,rfl⟩:=hr;have hS:(s.heap.push (yk w)).get? s.heap.objs.size=some (yk w):=gp _ rfl;have hT:Shared.TypeIs {s with heap:=s.heap.push (yk w)} (.ref s.heap.objs.size) "set" :=⟨_,hS,rfl⟩
   have hli:=g0q.init.lookup;have hbi:=g0q.init.bind (.ref s.heap.objs.size)
   repeat (any_goals (first|assumption|wp_step))
   refine g0n (tq (R:=wants (fun r s₂=>r=.none/\∃h' tk t ks,s₂ = {s with heap:=h',toks:=tk}/\SI w h' s.heap.objs.size t ks/\MR t ks/\(∀n,n∈ks.map Prod.fst↔n∈qs.map Prod.fst)/\s.toks<=tk /\
     (∀b o,b<s.heap.objs.size->s.heap.get? b=some o->h'.get? b=some o)) E) g0q.init.plain F.entry_set_init (check_set_init_1 hT ?_)) fun r₂ s₂ hr₂=>?_
   ·have hl1:(s.heap.push (yk w)).IsTuple l (qs.map iv).toArray:=hl.push _
    obtain⟨ol,hol,hcl,hdl⟩:=id hl1;have hsls:=sub_tuple_set;have hslf:=sub_tuple_frozenset;have hne:(Value.type "tuple" == Value.type "dict")=false:=by decide
    have hTl:Shared.TypeIs {s with heap:=s.heap.push (yk w)} (.ref l) "tuple" :=⟨_,hol,hcl⟩
    unfold Builtin.«set.__init__» noKeywords Builtin.Frozenset.updateFrom;generalize hPI:pyIter=PI
    wp_walk
    subst hPI;refine g3a hl1 ?_;refine g0 (wpAny_runValue ?_);have hlS:l<s.heap.objs.size:=let⟨_,h0,_⟩:=hl;gi h0
    have hh3:A.in1.in1.in1.handled=none:=by simp [hh]
    have hneI:l≠(s.heap.push (yk w)).objs.size:=by
     rw [g01];exact gw (g2a hlS)
    have hSf:s.heap.objs.size∉[(s.heap.push (yk w)).objs.size,l]:=by
     rw [g01];simp only [m4,tf,g1k,g2i,not_or];exact⟨gw (g02 _),t5 hlS⟩
    have hval:∀(i:Nat) (v:Value),(qs.map iv).toArray[i]? = some v->∃p,qs[i]? = some p/\v=iv p:=fun i v hv=>by
     simp only [List.getElem?_toArray,gz,gf] at hv;obtain⟨p,e1,e2⟩:=hv;exact⟨p,e1,e2.symm⟩
    have W:=(Walks.tuple (prog:=prog) (w:=w) hh3 (s.heap.push (yk w)).objs.size l hneI (qs.map iv).toArray).toS;have hsz:(qs.map iv).toArray.size=qs.length:=by simp
    rw [hsz] at W;refine qli qs hq W s.heap.objs.size hSf hval (qs.length-0) 0 _ (.fresh 0 0 (!byT w)) [] (by lia) (pj _)
     ⟨⟨_,gp _ rfl,rfl,rfl⟩,(hl1.push _)⟩ (qcp (g9 _ hS)) ⟨fun _=>rfl,fun h=>by simp at h⟩ (fun n=>by simp) fun s' t' ks' hm hS' hM' hi'=>?_
    obtain⟨h',g',d',tk',os'⟩:=s';have eg:g'=s.gens:=hm.gens;have ed:d'=s.drawn:=hm.drawn;have eo:os'=s.os:=hm.os;have etk:s.toks<=tk':=hm.toks;subst eg;subst ed;subst eo;show wpAny _ _ _ _ _ _;refine g7 ?_;show wpAny _ _ (ret Value.none) _ _ _;refine g7 ⟨rfl,h',tk',t',ks',rfl,hS',hM',hi',etk,fun b o hb e=>?_⟩;have hb1:b≠s.heap.objs.size:=gw hb;have hb2:b≠(s.heap.push (yk w)).objs.size:=by
     rw [g01];exact gw (g2a hb)
    exact hm.heap b o (by simp only [m4,tf,g1k,g2i,not_or];exact⟨hb1,hb2⟩) (g9 _ (g9 _ e))
   ·cases r₂ with
    | error e=>exact hr₂
    | ok fl₂=>
     cases fl₂ with
     | ret r=>
      obtain⟨rfl,h',tk,t,ks,rfl,hS',hM',hi',htk',hk'⟩:=hr₂
      repeat (any_goals (first|assumption|wp_step))
      exact h _ _ _ _ hS' hM' hi' htk' hk'
     | _=>exact hr₂.elim
  | _=>exact hr.elim
end
theorem qcr:Manifest.owners.lookup (String.ofList ['r','o','t','a','r','e','t','i','_','t','e','s'].reverse)=some Manifest.sig_set_iterator:=by kernel_rfl
theorem slot_si_next:Slot "set_iterator" "__next__" "set_iterator.__next__" :=
 .of (owner:="set_iterator") (n:="__next__") (by rw [g0w,uf];kernel_rfl) (by decide +kernel) (by decide +kernel) (by decide +kernel)
  (by first|exact .inl (by decide +kernel)|exact .inr (by decide +kernel)) (by rw [g19];kernel_rfl)
theorem q57:entryFor table "set_iterator.__next__" = some Builtin.«set_iterator.__next__» :=entryFor_of_tree (by kernel_rfl)
theorem q5o(a:Value): argsOk "set_iterator.__next__" ⟨[a],[]⟩:=by
 unfold argsOk;rw [signature?_of (id:="set_iterator.__next__") (n:=['_','_','t','x','e','n','_','_']) (o:=['r','o','t','a','r','e','t','i','_','t','e','s']) (by kernel_rfl) qcr];kernel_rfl
theorem q5p:Slot "set_iterator" "__iter__" "set_iterator.__iter__" :=
 .of (owner:="set_iterator") (n:="__iter__") (by rw [g0w,uf];kernel_rfl) (by decide +kernel) (by decide +kernel) (by decide +kernel)
  (by first|exact .inl (by decide +kernel)|exact .inr (by decide +kernel)) (by rw [g19];kernel_rfl)
theorem qb8:entryFor table "set_iterator.__iter__" = some Builtin.«dict_keyiterator.__iter__» :=
 entryFor_alias (id':="dict_keyiterator.__iter__") (by kernel_rfl) rfl (by decide +kernel) (by kernel_rfl)
theorem qcs(a:Value): argsOk "set_iterator.__iter__" ⟨[a],[]⟩:=by
 unfold argsOk;rw [signature?_of (id:="set_iterator.__iter__") (n:=['_','_','r','e','t','i','_','_']) (o:=['r','o','t','a','r','e','t','i','_','t','e','s']) (by kernel_rfl) qcr];kernel_rfl
theorem q9n:entryFor table "set.__iter__" = some Builtin.«frozenset.__iter__» :=
 entryFor_alias (id':="frozenset.__iter__") (by kernel_rfl) rfl (by decide +kernel) (by kernel_rfl)
def SIt(h:Heap)(it a:Addr)(slot i n ep:Nat): Prop:=∃o,h.get? it=some o/\o.cls=.type "set_iterator" /\ o.data=.fields #[.int slot 0,.int i 0,.ref a,.int n 0,.int ep 0]
def Row(w:World)(a:Addr)(ep:Nat)(ks vals:List (Nat×Nat)): Prop:=
 (byT w=true->(vals.map el).toArray=pickOrder (w.params.setOrder a ep) (ks.map el).toArray)/\(byT w=false->vals=ks)
theorem qqz(w:World)(a:Addr)(ep:Nat)(ks:List (Nat×Nat)): ∃vals,Row w a ep ks vals/\vals.Perm ks:=by
 cases hb:byT w
 ·exact⟨ks,⟨by simp [hb],fun _=>rfl⟩,g51 _⟩
 ·have hp:=q3y (w.params.setOrder a ep) (ks.map el).toArray
  generalize hx:pickOrder (w.params.setOrder a ep) (ks.map el).toArray=xs at hp;have hp':xs.toList.Perm (ks.map el):=by simpa using hp
  obtain⟨ls,hl,e⟩:=q7l hp';refine⟨ls,⟨fun _=>?_,by simp [hb]⟩,hl⟩;rw [hx, <- e]
def SAt(w:World)(h:Heap)(a:Addr)(t:SetTable)(ks:List (Nat×Nat))(ep:Nat): Prop:=
 (∃o,h.get? a=some o/\o.ExactSet/\o.data=.set (ks.map el).toArray ep t)/\Tb t ks/\t.led=(!byT w)/\(t.mask=7->ks.length<8)
def Far(w:World)(t:SetTable)(slot i:Nat): Prop:=byT w=false->(∀x∈t.place.toList.take i,x<slot)/\(∀x∈t.place.toList.drop i,slot<=x)
section
variable{prog:Program}{w:World}{A:Around}{E:Value->Shared->Prop}{s:Shared}{a it:Addr}{t:SetTable}{ks vals:List (Nat×Nat)}{ep slot i:Nat}
theorem SAt.typeIs(S:SAt w s.heap a t ks ep): s.TypeIs (.ref a) "set" :=let⟨⟨o,ho,hc,_⟩,_⟩:=S; ⟨o,ho,hc.1⟩
theorem SIt.typeIs{n:Nat}(S:SIt s.heap it a slot i n ep): s.TypeIs (.ref it) "set_iterator" :=let⟨o,ho,hc,_⟩:=S; ⟨o,ho,hc⟩
theorem SAt.state{Q:(Array (Int×Value)×Nat×SetTable)->Shared->Prop}(S:SAt w s.heap a t ks ep)(h:Q ((ks.map el).toArray,ep,t) s): wpAny (model prog w) A (setState a) Q E s:=by
 obtain⟨⟨o,ho,hc,hd⟩,T,l,h7⟩:=S;exact g29 ho hd (q4p T h7) h
theorem SAt.keep{h h':Heap}(S:SAt w h a t ks ep)(e:∀o,h.get? a=some o->h'.get? a=some o): SAt w h' a t ks ep:=by
 obtain⟨⟨o,ho,r⟩,q⟩:=S;exact⟨⟨o,e o ho,r⟩,q⟩
theorem qlj{Q:Value->Shared->Prop}(S:SAt w s.heap a t ks ep)(h:Q (.ref s.heap.objs.size) {s with heap:=s.heap.push {cls:=.type "set_iterator",data:=.fields #[.int 0 0,.int 0 0,.ref a,.int ks.length 0,.int ep 0]} }):
  wpAny (model prog w) A (pyIter (.ref a)) Q E s:=by
 refine g3r S.typeIs F.slot_set_iter (n6 F.slot_set_iter S.typeIs q9n ?_ (F.args_set_iter_1 _));unfold Builtin.«frozenset.__iter__»;refine g0 (m:=Builtin.Frozenset.slot0 "__iter__" _) (g7 ?_);refine g0 ?_;unfold Builtin.Frozenset.sizeOf setEntries;refine g0 (g0 (S.state (g7 (g7 ?_))));refine g0 ?_;unfold setDrawn setsByText;refine g0 (S.state ?_);dsimp only;refine g0 (g0 (nk (g7 (g7 ?_))));refine n8 (fun c=>?_) (fun _=>?_)
 ·have c':(!byT w&&(!t.plain&&decide ((ks.map el).toArray.size>1)))=true:=c
  rw [S.2.1.pl] at c';simp at c'
 refine g0 (g7 ?_);refine g0 ?_;unfold setEpoch;refine g0 (S.state (g7 ?_));have hsz:(ks.map el).toArray.size=ks.length:=by simp
 rw [hsz];refine g0 (p5 (g7 ⟨_,rfl,"set_iterator",_,⟨_,gp _ rfl,rfl⟩,slot_si_next.lookup,?_⟩));exact h
theorem q8j{h:Heap}{o:Obj}{vs:Array Value}{x:Value}{j:Nat}(ho:h.get? it=some o)(hd:o.data=.fields vs):
  ∃o',(h.update it (Obj.mapFields (·.setIfInBounds j x))).get? it=some o'/\o'.cls=o.cls/\o'.data=.fields (vs.setIfInBounds j x):=
 ⟨_,ny _ ho (g1a (g0a hd _)),Obj.cls_mapFields ..,g0a hd _⟩
theorem next_item{Q:Option Value->Shared->Prop}{p:Nat×Nat}(I:SIt s.heap it a slot i ks.length ep)(S:SAt w s.heap a t ks ep)(R:Row w a ep ks vals)(F:Far w t slot i)(hp:vals[i]? = some p)
  (h:∀h' slot',SIt h' it a slot' (i+1) ks.length ep->Far w t slot' (i+1)->Heap.SameBut it s.heap h'->Q (some (.int (p.1:Int) p.2)) {s with heap:=h'}) :
  wpAny (model prog w) A (pyNext (.ref it)) Q E s:=by
 obtain⟨o,ho,hc,hd⟩:=id I;unfold pyNext;refine g0 (g0t (tx (name:=Str.ofString "__next__") I.typeIs slot_si_next
  (n6 slot_si_next I.typeIs q57 ?_ (q5o _))))
 unfold Builtin.«set_iterator.__next__»;refine g0 (m:=slotArgs "__next__" 0 _) (g7 ?_);dsimp only;refine g0 (g37 ho hd ?_);dsimp only;unfold setEntries;refine g0 (g0 (S.state (g7 ?_)));have hsz:(((ks.map el).toArray.size:Int) != (ks.length:Int))=false:=by simp
 dsimp only;rw [hsz];simp only [gu, ↓reduceIte,t7];have key:∃slot',Far w t slot' (i+1)/\∀ {Q':Option (Value×Nat)->Shared->Prop} {E':Value->Shared->Prop},Q' (some (.int (p.1:Int) p.2,slot')) s->wpAny (model prog w) A.in1 (setNext a slot i ep) Q' E' s:=by
  cases hb:byT w
  ·have hv:vals=ks:=R.2 hb
   rw [hv] at hp;obtain⟨f1,f2⟩:=F hb;have hpl:t.place=(t.place.toList.take i++t.place.toList.drop i).toArray:=by simp
   have hi:i<ks.length:=(mj.mp hp).1;have hi':i<t.place.toList.length:=by rw [S.2.1.sz];exact hi
   have hbel:SetTable.below t.place slot=i:=by
    rw [hpl,below_at f1 f2];simp at hi' ⊢;lia
   have hpj:t.place[i]? = some (t.place.toList[i]):=by rw [<- g1b];exact m9 hi'
   have hei:(ks.map el).toArray[i]? = some (el p):=by simp [hp]
   have hdr:t.place.toList.drop i=t.place.toList[i] :: t.place.toList.drop (i+1):=g1q hi';have htk:t.place.toList.take (i+1)=t.place.toList.take i++[t.place.toList[i]]:=by
    rw [g25,m9 hi'];rfl
   have hrs:=S.2.1.rs;rw [<- g2n i t.place.toList,hdr] at hrs;obtain⟨r1,r2,r3⟩:=g1l.mp hrs;refine⟨t.place.toList[i]+1,fun _=>⟨fun x hx=>?_,fun x hx=>?_⟩,fun {Q'} {E'} q=>?_⟩
   ·rw [htk] at hx
    rcases nh.mp hx with h|h
    ·have:=r3 x h _ (gv ..);lia
    ·have:=tf.mp h;lia
   ·have:=(g0v.mp r2).1 x hx;lia
   ·unfold setNext setsByText
    refine g0 (S.state ?_);dsimp only;refine g0 (g0 (nk (g7 ?_)));refine n8 (fun c=>?_) (fun _=>?_)
    ·have c':byT w=true:=c
     rw [hb] at c';exact absurd c' (by decide)
    refine n8 (fun c=>?_) (fun _=>?_)
    ·have c':(!t.plain&&decide ((ks.map el).toArray.size>1))=true:=c
     rw [S.2.1.pl] at c';simp at c'
    have hld:t.led=true:=by rw [S.2.2.1,hb];rfl
    show wpAny _ _ ((do if !t.led && !(ks.map el).toArray.isEmpty then unsupported "set:maker-not-led" : Sem Unit) >>= fun _=>_) _ _ _;rw [hld];simp only [pd,g35,gu, ↓reduceIte];refine g0 (g7 (g7 ?_));rw [hbel,hei,hpj];exact q
  ·have hv:=R.1 hb
   refine⟨slot,fun c=>?_,fun {Q'} {E'} q=>?_⟩
   ·rw [hb] at c;exact absurd c (by decide)
   ·unfold setNext setsByText
    refine g0 (S.state ?_);dsimp only;refine g0 (g0 (nk (g7 ?_)));refine n8 (fun _=>?_) (fun c=>absurd hb c);rw [m8 (by simp)];refine g0 ?_;unfold setWalk setsByText;refine g0 (S.state ?_);dsimp only;refine g0 (g0 (nk (g7 ?_)));refine n8 (fun _=>?_) (fun c=>absurd hb c);refine g0 (nk (g7 (g7 ?_)));have:(pickOrder (w.params.setOrder a ep) (ks.map el).toArray)[i]? = some (el p):=by rw [<- hv];simp [hp]
    show Q' (((pickOrder (w.params.setOrder a ep) (ks.map el).toArray)[i]?).map fun e=>(e.2,slot)) s;rw [this];exact q
 obtain⟨slot',F',kn⟩:=key;refine g0 (kn ?_);dsimp only;refine g0 (g0m ho hd (by simp) ?_);obtain⟨o1,ho1,hc1,hd1⟩:=q8j (x:=rawInt slot') (j:=0) ho hd;refine g0 (g0m (s:={s with heap:=s.heap.update it (Obj.mapFields (·.setIfInBounds 0 (rawInt slot')))}) ho1 hd1 (by simp) (g7 ⟨_,rfl,g7 (h _ slot' ?_ F' ((p9 ..).trans (p9 ..)))⟩));obtain⟨o2,ho2,hc2,hd2⟩:=q8j (x:=rawInt (i+1)) (j:=1) ho1 hd1;exact⟨o2,ho2,hc2.trans (hc1.trans hc),by rw [hd2];simp [rawInt]⟩
theorem next_end{Q:Option Value->Shared->Prop}(hh:A.handled=none)(hi:i=ks.length)(I:SIt s.heap it a slot i ks.length ep)(S:SAt w s.heap a t ks ep)(R:Row w a ep ks vals)(hvl:vals.length=ks.length)(F:Far w t slot i)
  (h:∀h',Heap.ExtBut it s.heap h'->Q none {s with heap:=h'}) :
  wpAny (model prog w) A (pyNext (.ref it)) Q E s:=by
 obtain⟨o,ho,hc,hd⟩:=id I;unfold pyNext;refine g0 (g0t (tx (name:=Str.ofString "__next__") I.typeIs slot_si_next
  (n6 slot_si_next I.typeIs q57 ?_ (q5o _))))
 unfold Builtin.«set_iterator.__next__»;refine g0 (m:=slotArgs "__next__" 0 _) (g7 ?_);dsimp only;refine g0 (g37 ho hd ?_);dsimp only;unfold setEntries;refine g0 (g0 (S.state (g7 ?_)));have hsz:(((ks.map el).toArray.size:Int) != (ks.length:Int))=false:=by simp
 dsimp only;rw [hsz];simp only [gu, ↓reduceIte,t7];have key:∀ {Q':Option (Value×Nat)->Shared->Prop} {E':Value->Shared->Prop},Q' none s->wpAny (model prog w) A.in1 (setNext a slot i ep) Q' E' s:=by
  intro Q' E' q;unfold setNext setsByText;refine g0 (S.state ?_);dsimp only;refine g0 (g0 (nk (g7 ?_)));cases hb:byT w
  ·refine n8 (fun c=>?_) (fun _=>?_)
   ·have c':byT w=true:=c
    rw [hb] at c';exact absurd c' (by decide)
   refine n8 (fun c=>?_) (fun _=>?_)
   ·have c':(!t.plain&&decide ((ks.map el).toArray.size>1))=true:=c
    rw [S.2.1.pl] at c';simp at c'
   have hld:t.led=true:=by rw [S.2.2.1,hb];rfl
   show wpAny _ _ ((do if !t.led && !(ks.map el).toArray.isEmpty then unsupported "set:maker-not-led" : Sem Unit) >>= fun _=>_) _ _ _;rw [hld];simp only [pd,g35,gu, ↓reduceIte];refine g0 (g7 (g7 ?_));obtain⟨f1,f2⟩:=F hb;have hpl:t.place=(t.place.toList.take i++t.place.toList.drop i).toArray:=by simp
   have hbel:SetTable.below t.place slot=i:=by
    rw [hpl,below_at f1 f2];have:=S.2.1.sz;simp at this ⊢;lia
   have hei:(ks.map el).toArray[i]? = none:=by simp [hi]
   rw [hbel,hei];exact q
  ·refine n8 (fun _=>?_) (fun c=>absurd hb c)
   rw [m8 (by simp)];refine g0 ?_;unfold setWalk setsByText;refine g0 (S.state ?_);dsimp only;refine g0 (g0 (nk (g7 ?_)));refine n8 (fun _=>?_) (fun c=>absurd hb c);refine g0 (nk (g7 (g7 ?_)));have:(pickOrder (w.params.setOrder a ep) (ks.map el).toArray)[i]? = none:=by rw [<- R.1 hb];simp [hi,hvl]
   show Q' (((pickOrder (w.params.setOrder a ep) (ks.map el).toArray)[i]?).map fun e=>(e.2,slot)) s;rw [this];exact q
 refine g0 (key ?_);dsimp only;refine g0 (g0m ho hd (by simp) ?_);show wpAny _ _ (newExc (.type "StopIteration") [] >>= _) _ _ _;refine g0 ?_;simp only [newExc,newTuple];refine g0 (p5 ?_ (by size_fits));refine g0 (m:=firstArgMember _ _) (wpAny_of_eq (a:=Value.none) (by first|rfl|(simp only [firstArgMember];rfl)) ?_);refine p5 ?_ (by size_fits);simp only [raiseNew];refine g0 (wpAny_handled ?_)
 first|rw [show A.in1.handled=none from hh]|rw [hh]
 refine g0 (g7 (wpAny_throw ?_));refine g0 (g04 (T:="StopIteration") (b:=true) ⟨_,gp _ rfl,rfl⟩ isSubtype_stop ?_);exact g7 (h _ (((p9 ..).extBut.push _).push _))
theorem qjf(hh:A.handled=none)(hne:a≠it)(R:Row w a ep ks vals)(hvl:vals.length=ks.length):
  Walks prog w A it [it,a] [it] ks.length (fun i v=>∃p,vals[i]? = some p/\v=.int (p.1:Int) p.2) (fun i h=>∃slot,SIt h it a slot i ks.length ep/\SAt w h a t ks ep/\Far w t slot i) where
 sub:=fun b hb=>by simp at hb;simp [hb]
 frame:=fun i h h' st hk=>by
  obtain⟨slot,⟨o,ho,r⟩,S,F⟩:=st;exact⟨slot,⟨o,hk it (by simp) o ho,r⟩,S.keep (fun o e=>hk a (by simp) o e),F⟩
 item:=fun i s Q E hi st hQ=>by
  obtain⟨slot,I,S,F⟩:=st;have hi':i<vals.length:=by lia
  refine next_item I S R F (m9 hi') fun h' slot' I' F' sb=>?_;exact hQ _ h' s.toks ⟨_,m9 hi',rfl⟩ ⟨slot',I',S.keep (fun o e=>sb.extBut a o hne e),F'⟩ fun b o hb e=>sb.extBut b o (fun h=>hb (by simp [h])) e
 done:=fun s Q E st hQ=>by
  obtain⟨slot,I,S,F⟩:=st;exact next_end hh rfl I S R hvl F fun h' he=>hQ h' s.toks fun b o hb e=>he b o (fun h=>hb (by simp [h])) e
 self:=fun i s Q E st hQ=>by
  obtain⟨slot,I,S,F⟩:=st;refine g3r I.typeIs q5p (n6 q5p I.typeIs qb8 ?_ (qcs _));show wpAny _ _ (ret (.ref it)) _ _ s;exact g7 ⟨_,rfl,"set_iterator",_,I.typeIs,slot_si_next.lookup,hQ⟩
end
end Js
namespace Js
open PySem PyProof.Rows
section
variable{prog:Program}{w:World}{A:Around}{E:Value->Shared->Prop}{s:Shared}{a:Addr}{t:SetTable}{ks vals:List (Nat×Nat)}{ep:Nat}
theorem qlk{Q:Bool->Shared->Prop}(hT:s.TypeIs (.ref a) "set")(h:Q false s): wpAny (model prog w) A (Builtin.List.listLengthHint (.ref a)) Q E s:=by
 unfold Builtin.List.listLengthHint;refine g0 (g1r hT F.slot_set_len.lookup ?_);generalize hid:("set.__len__" : String)=id0;dsimp only;rw [show splitId id0=some ("set","__len__") from by subst hid;decide +kernel];subst hid;dsimp only;refine g0 (g04 (T:="set") (b:=true) hT (by rw [g19];kernel_rfl) ?_);refine n8 (fun hab=>absurd hab (by decide)) (fun _=>?_);refine n8 (fun _=>?_) (fun hab=>absurd (by decide +kernel) hab);refine g0 (td hT ?_);exact g7 h
def iv'(p:Nat×Nat): Value:=.int (p.1:Int) p.2
theorem qll{vals:List (Nat×Nat)}{n:Nat}{acc:Array Value}(hn:vals.length=n)(h:ItemsOf (fun i v=>∃p,vals[i]? = some p/\v=.int (p.1:Int) p.2) acc n): acc.toList=vals.map iv':=by
 apply List.ext_getElem?;intro i
 by_cases hi:i<n
 ·have h1:i<acc.size:=by rw [h.1];exact hi
  have e:acc[i]? = some acc[i]:=g3x h1;obtain⟨p,hp,hv⟩:=h.2 i _ e;rw [g1b,e,gz,hp,hv];rfl
 ·rw [g1b,Array.getElem?_eq_none (by rw [h.1];omega),gz,g52 (by omega)];rfl
theorem qea{Q:List Value->Shared->Prop}(hh:A.handled=none)(S:SAt w s.heap a t ks ep)
  (h:∀(s':Shared) (vals:List (Nat×Nat)),vals.Perm ks->(∀b o,b<s.heap.objs.size->s.heap.get? b=some o->s'.heap.get? b=some o)->s.heap.objs.size<=s'.heap.objs.size->s'.gens=s.gens->s'.drawn=s.drawn->s'.os=s.os->s.toks<=s'.toks->Q (vals.map iv') s') :
  wpAny (model prog w) A (collect (.ref a)) Q E s:=by
 have hla:a<s.heap.objs.size:=let⟨⟨o,ho,_⟩,_⟩:=S;gi ho
 unfold collect;refine g0 (wpAny_runValue (nu F.entry_proto_collect ?_));rw [ng F.plain_proto_collect _];show wpAny _ A.in1 (newList [] >>= fun l=>again (.builtin "list.__iadd__" ⟨[l,.ref a],[]⟩)) _ _ s;refine g0 (p5 ?_);refine g7 ⟨ud F.plain_list_iadd _,nu F.entry_list_iadd ?_⟩;rw [ng F.plain_list_iadd _]
 let lo:Obj:={cls:=.type "list",data:=.seq ([]:List Value).toArray}
 have S1:SAt w (s.heap.push lo) a t ks ep:=S.keep fun o e=>g9 _ e;show wpAny _ A.in1 (Builtin.List.listExtendWith (.ref s.heap.objs.size) (.ref a) (.ref s.heap.objs.size)) _ _ _;unfold Builtin.List.listExtendWith;refine g0 (td S1.typeIs ?_);have h1:Builtin.List.listSameRef (.ref s.heap.objs.size) (.ref a)=false:=by simp [Builtin.List.listSameRef];exact t5 hla
 have h2:(Value.type "set" == Value.type "list")=false:=by decide
 have h3:(Value.type "set" == Value.type "tuple")=false:=by decide
 simp only [h1,h2,h3,Bool.or_false,gu,p7]
 let io:Obj:={cls:=.type "set_iterator",data:=.fields #[.int 0 0,.int 0 0,.ref a,.int ks.length 0,.int ep 0]}
 refine g0 (qlj (s:={s with heap:=s.heap.push lo}) S1 ?_);have hsz1:(s.heap.push lo).objs.size=s.heap.objs.size+1:=g01 ..;have S2:SAt w ((s.heap.push lo).push io) a t ks ep:=S1.keep fun o e=>g9 _ e;refine g0 (mq (qlk (s:={s with heap:=(s.heap.push lo).push io}) S2.typeIs ?_));refine n8 (fun _=>?_) (fun hab=>absurd (by decide +kernel) hab);refine g0 (g07 ?_);have hL1:((s.heap.push lo).push io).get? s.heap.objs.size=some lo:=g9 _ (gp _ rfl);refine g0 ?_;show wpAny _ A.in1 (updateSeq s.heap.objs.size (·.push .none) >>= fun _=>updateSeq s.heap.objs.size (·.pop)) _ _ _;refine g0 (g4n (s:={s with heap:=(s.heap.push lo).push io}) hL1 rfl ?_);have hL2:=ny (Obj.mapSeq (·.push Value.none)) hL1 rfl;refine g4n hL2 rfl ?_;have hL3:=ny (Obj.mapSeq (·.pop)) hL2 rfl
 let h3':=(((s.heap.push lo).push io).update s.heap.objs.size (Obj.mapSeq (·.push Value.none))).update s.heap.objs.size (Obj.mapSeq (·.pop))
 have oth:∀b o,b≠s.heap.objs.size->((s.heap.push lo).push io).get? b=some o->h3'.get? b=some o:=
  fun b o hb e=>(mm _ _ (m5 hb)).trans ((mm _ _ (m5 hb)).trans e)
 obtain⟨vals,hR,hvp⟩:=qqz w a ep ks;have hvl:vals.length=ks.length:=hvp.length_eq;have W:=(qjf (prog:=prog) (w:=w) (A:=A.in1) (it:=(s.heap.push lo).objs.size) (t:=t) (vals:=vals) (by simpa using hh) (by rw [hsz1];exact gw (g2a hla)) hR hvl).toS;have hIt:SIt h3' (s.heap.push lo).objs.size a 0 0 ks.length ep:=⟨io,oth _ _ (by rw [hsz1];exact Nat.succ_ne_self _) (gp _ rfl),rfl,rfl⟩
 have hn12:=S.2.1.n12;refine g7 ⟨ud F.plain_extend_loop _,codeAny_extend_loopS W (by rw [g05];omega) s.heap.objs.size (by rw [hsz1];simp only [m4,g1k,g2i,not_or];exact⟨gw (g02 _),t5 hla⟩) _ ks.length 0 _ _ _ rfl (pj _)
  ⟨0,hIt,S2.keep fun o e=>oth a o (gw hla) e,fun _=>⟨by simp,by simp⟩⟩ hL3 (ItemsOf.nil _) fun s' acc' c' hm hS' hacc=>?_⟩
 show wpAny _ A (load s.heap.objs.size >>= _) _ _ s';refine g0 (wpAny_load hS' ?_);refine g7 ?_;rw [qll hvl hacc];refine h s' vals hvp (fun b o hb e=>hm.heap b o (by rw [hsz1];simp only [m4,g1k,g2i,not_or];exact⟨gw hb,gw (g2a hb)⟩) (oth b o (gw hb) (g9 _ (g9 _ e)))) (g17 (gi hS')) hm.gens hm.drawn hm.os hm.toks
theorem qgn{Q:Value->Shared->Prop}(hh:A.handled=none)(S:SAt w s.heap a t ks ep)
  (h:∀(h':Heap) (tk:Nat) (c:Addr) (out:List Value) (ns':List Int) (e:Nat),IntsAre out ns'->ns'.Perm (ks.map fun p=>(p.1:Int))->ns'.Pairwise (· <= ·)->(∀b o,b<s.heap.objs.size->s.heap.get? b=some o->h'.get? b=some o) ->
   s.heap.objs.size<=c->h'.get? c=some (seqObj "list" out.toArray e)->s.toks<=tk->Q (.ref c) {s with heap:=h',toks:=tk}) :
  wpAny (model prog w) A (call (.builtin "sorted") [.ref a]) Q E s:=by
 refine Calls.call_function_entry kind_sorted plain_sorted entry_sorted (args_sorted1 _) ?_;unfold Builtin.«sorted»;refine g0 (m:=checkCount "sorted" 1 1 _) (g7 ?_);have hn12:=S.2.1.n12;refine g0 (qea (A:=A.in1) (by simpa using hh) S fun s1 vals hp hk hz hg hd ho ht=>?_);have hvl:vals.length=ks.length:=hp.length_eq;refine g0 (wpAny_newList ?_);have hoL:(s1.heap.push (seqObj "list" (vals.map iv').toArray 0)).get? s1.heap.objs.size=some (seqObj "list" (vals.map iv').toArray 0):=gp _ rfl;have hI:IntsAre (vals.map iv') (vals.map fun p=>(p.1:Int)):=by
  clear hoL hvl hp
  induction vals with
  | nil=>exact .nil
  | cons p l ih=>exact .cons _ _ ih
 refine g0 (mq (n6 slot_list_sort ⟨_,hoL,rfl⟩ entry_list_sort (list_sort_tree (s:={s1 with heap:=s1.heap.push (seqObj "list" (vals.map iv').toArray 0)}) hoL hI (by simp;omega) fun out ns' a1 a2 a3=>⟨_,rfl,?_⟩) (args_list_sort _)));refine g7 ⟨_,rfl,?_⟩;obtain⟨h1,g1,d1,t1,o1⟩:=s1;dsimp only at hk hz hg hd ho ht hoL;subst hg;subst hd;subst ho;have hz1:(h1.push (seqObj "list" (vals.map iv').toArray 0)).objs.size=h1.objs.size+1:=g01 ..;have e1:=get?_update_seq hoL (fun _=> #[]);have e2:=g9 (seqObj "tuple" (vals.map iv').toArray 0) e1;have e3:=g9 (seqObj "list" #[] 0) e2;have e4:=get?_update_seq e3 (fun _=>out);refine h (sortedHeap (h1.push (seqObj "list" (vals.map iv').toArray 0)) h1.objs.size (vals.map iv') out) t1 h1.objs.size out.toList ns' _ a1 (a2.trans (hp.map _)) a3 (fun b ob hb e=>?_) hz (by unfold sortedHeap;simpa using e4) ht;have nb:b≠h1.objs.size:=gw (gj hb hz);unfold sortedHeap;refine(mm _ _ (m5 nb)).trans ?_;refine g9 _ (g9 _ ?_);refine(mm _ _ (m5 nb)).trans ?_;exact g9 _ (hk b ob hb e)
end
end Js
namespace DL
open PySem PySem.Spec PyProof.Rows L2
variable[Lam][Pin]
def q3h:List D->Option (List Nat)
 | []=>some []
 | .int i :: r=>if 0<=i/\i<12 then(q3h r).map (i.toNat :: ·) else none
 | _ :: _=>none
def qgo:D->D->Option (List D)
 | .tup ds,.tup es=>(q3h ds).bind fun a=>(q3h es).bind fun b=>some (((List.range 12).filter fun n=>decide (n∈a\/n∈b)).map fun n=>D.int (n:Nat))
 | _,_=>none
def qgp(f g:FE): FA:=fun ρ =>(f ρ).bind fun x=>(g ρ).bind fun y=>qgo x y
def q4q(w:World)(a:Addr)(ns:List Nat): HO:=.ext fun h=>∃t ks,Js.SI w h a t ks/\Js.MR t ks/\∀n,n∈ks.map Prod.fst↔n∈ns
def qgq(w:World)(a:Addr)(ns:List Nat): HO:=.ext fun h=>∃t ks,Js.SI w h a t ks/\(t.mask=7->ks.length<8)/\∀n,n∈ks.map Prod.fst↔n∈ns
def qtu(K:Frag)(w:World): List V->Hp->VK->Prop:=fun xs H Q=>∃F ds ns,Same F H/\RepL K F [.tup ds] xs/\q3h ds=some ns/\∀a,H a=none->Q (.ref a) (upd H a (q4q w a ns))
def rOr(w:World): R2:=fun x y H Q=>∃a b ns ms,x=.ref a/\y=.ref b/\a≠b/\H a=some (q4q w a ns)/\H b=some (q4q w b ms)/\∀c,H c=none->Q (.ref c) (upd H c (qgq w c (ns++ms)))
def qsu(w:World): List V->Hp->VK->Prop:=fun xs H Q=>∃a ns,xs=[.ref a]/\H a=some (qgq w a ns)/\∀c,H c=none->Q (.ref c) (upd H c (.lst (((List.range 12).filter fun n=>decide (n∈ns)).map fun n=>V.int (n:Nat))))
omit [Lam] [Pin] in
theorem qam{K:Frag}{F:Hp}: ∀ {ds:List D} {ys:List V} {its:List Value} {ns:List Nat},q3h ds=some ns->RepL K F ds ys->Vals ys its->∃qs:List (Nat×Nat),its=qs.map Js.iv/\(∀p∈qs,p.1<12)/\qs.map Prod.fst=ns
 | [],ys,its,ns,h,k,r=>by
  cases h;cases k.nil_inv;cases r;exact⟨[],rfl,by simp,rfl⟩
 | .int i :: ds,ys,its,ns,h,k,r=>by
  unfold q3h at h
  split at h
  ·rename_i hi
   obtain⟨ms,h1,rfl⟩:=gf.mp h;obtain⟨x,ys',rfl,a1,a2⟩:=k.cons_inv;cases rep_int.mp a1;cases r with
   | cons b1 b2=>
    obtain⟨qs,e1,e2,e3⟩:=qam h1 a2 b2;obtain⟨tk,rfl⟩:=b1;refine⟨(i.toNat,tk) :: qs,?_,?_,by simp [e3]⟩
    ·rw [e1,gh]
     congr 1
     show _=Value.int ((i.toNat:Nat):Int) tk;rw [uz hi.1]
    ·intro p hp
     rcases m4.mp hp with rfl|hp
     ·show i.toNat<12
      lia
     ·exact e2 p hp
  ·cases h
 | .non :: _,_,_,_,h,_,_=>by cases h
 | .bl _ :: _,_,_,_,h,_,_=>by cases h
 | .str _ :: _,_,_,_,h,_,_=>by cases h
 | .tup _ :: _,_,_,_,h,_,_=>by cases h
 | .lst _ :: _,_,_,_,h,_,_=>by cases h
 | .dct _ _ :: _,_,_,_,h,_,_=>by cases h
 | .dtt _ _ :: _,_,_,_,h,_,_=>by cases h
 | .dt2 _ :: _,_,_,_,h,_,_=>by cases h
 | .obj _ :: _,_,_,_,h,_,_=>by cases h
 | .exc _ _ :: _,_,_,_,h,_,_=>by cases h
section
variable{X:Cx}
theorem qjg(hc:X.calm=true): xv X (.type "set") (qtu X.K X.w):=fun pins s σ H xs us Q I rv ⟨F,ds,ns,fh,rl,hn,q⟩=>by
 obtain⟨x,rfl,rx⟩:=rep1 rl;obtain⟨a,ys,rfl,k1,k2⟩:=rep_tup.mp rx;obtain⟨u,rfl,ru⟩:=vals1 rv;cases ru;obtain⟨its,r1,p1,hz⟩:=I.tuple (qu fh k1);obtain⟨qs,rfl,hq,rfl⟩:=qam hn k2 r1;refine Js.q9m qs hq (I.ok.hd hc) p1 fun h' tk t ks S M m ht old=>?_;have hnn:H s.heap.objs.size=none:=I.hok.fresh (gq _);obtain⟨o,ep,ho,hx,hd⟩:=id S.ob;refine⟨.ref _,_,I.laid (t':=tk) (a:=s.heap.objs.size) (o:=q4q X.w s.heap.objs.size (qs.map Prod.fst)) (fun b ob qb=>old b ob (gi qb) qb) (gq _) ⟨⟨t,ks,S,M,m⟩,⟨o,ho⟩,fun h1 h2 ⟨t,ks,S,M,m⟩ e=>⟨t,ks,S.keep e,M,m⟩⟩,rfl,q _ hnn⟩
theorem qr0:OpR X (binaryOp .BitOr) (rOr X.w):=fun pins s σ H x y v u Q I rx ry ⟨a,b,ns,ms,e1,e2,hab,ha,hb,q⟩=>by
 subst e1;subst e2;cases rx;cases ry;obtain⟨⟨t,ks,S,M,m⟩,_,_⟩:=I.hok a _ ha;obtain⟨⟨t',ks',S',M',m'⟩,_,_⟩:=I.hok b _ hb;have m7:∀ {t:SetTable} {ks:List (Nat×Nat)},Js.MR t ks->t.mask=7->ks.length<8:=fun M e=>g0l fun c=>by
  have:=M.2 (by lia);lia
 refine Js.qst hab S M.1 (m7 M) S' M'.1 (m7 M') fun h2 t2 ks2 old S2 h72 m2=>?_;have hnn:H s.heap.objs.size=none:=I.hok.fresh (gq _);obtain⟨o,ep,ho,hx,hd⟩:=id S2.ob;refine⟨.ref _,_,I.laid (t':=s.toks) (a:=s.heap.objs.size) (o:=qgq X.w s.heap.objs.size (ns++ms)) (fun c ob qb=>old c ob (gi qb) qb) (gq _) ⟨⟨t2,ks2,S2,h72,fun n=>?_⟩,⟨o,ho⟩,fun h1 h2 ⟨t,ks,S,M,m⟩ e=>⟨t,ks,S.keep e,M,m⟩⟩,rfl,q _ hnn⟩;rw [m2 n,m n,m' n,nh]
theorem qo9(hc:X.calm=true): xv X (.builtin "sorted") (qsu X.w):=fun pins s σ H xs us Q I rv ⟨a,ns,e1,ha,q⟩=>by
 subst e1;obtain⟨u,rfl,ru⟩:=vals1 rv;cases ru;obtain⟨⟨t,ks,S,h7,m⟩,_,_⟩:=I.hok a _ ha;obtain⟨o,ep,ho,hx,hd⟩:=id S.ob;refine Js.qgn (I.ok.hd hc) ⟨⟨o,ho,hx,hd⟩,S.tb,S.ld,h7⟩ fun h' tk c out ns' e hI hp hs old hc' hget ht=>?_;have hnn:H c=none:=I.hok.fresh hc';have hL:ns'=((List.range 12).filter fun n=>decide (n∈ns)).map fun n:Nat=>(n:Int):=by
  refine q5n (hp.trans ?_) hs ?_
  ·have:(ks.map Prod.fst).Perm ((List.range 12).filter fun n=>decide (n∈ns)):=by
    refine(g3k S.tb.nd (ui _ g48)).mpr fun n=>?_;rw [mv,ti,g3d, <- m n];refine⟨fun h=>⟨?_,h⟩,fun h=>h.2⟩;obtain⟨p,hp,rfl⟩:=md.mp h;exact S.tb.lt p hp
   have h2:=this.map fun n:Nat=>(n:Int)
   rw [nr] at h2;exact h2
  ·rw [g0i]
   refine List.Pairwise.imp (fun {a b} h=>?_) (ui _ (g4v (n:=12)));lia
 subst hL;have vo:=q1f hI;rw [nr] at vo;refine⟨.ref c,_,I.laid (t':=tk) (a:=c) (o:=.lst (((List.range 12).filter fun n=>decide (n∈ns)).map fun n=>V.int (n:Nat))) (fun b ob qb=>old b ob (gi qb) qb) hc' ⟨?_,out,e,vo,hget⟩,rfl,q _ hnn⟩;rw [gr];exact mh (n4 _ _) (jt (by simp;decide))
theorem qoa{a b:Expr}{f g:FE}{p p1 p2 q1 q2 q3 pos:Pos}(hc:X.calm=true)(hgs:Gl X "sorted")(hms:X.mg "sorted" = none)(hgt:Gl X "set")(hmt:X.mg "set" = none)(ha:PE X a (tD X.K f))(hb:PE X b (tD X.K g))
  (s1:starEach [a] X.env=(false,eval a X.env) :: starEach [] X.env:=by rfl) (s2:starEach [b] X.env=(false,eval b X.env) :: starEach [] X.env:=by rfl)
  (s3:starEach [.BinOp (.Call (.Name "set" p1) [a] [] q1) .BitOr (.Call (.Name "set" p2) [b] [] q2) q3] X.env=(false,eval (.BinOp (.Call (.Name "set" p1) [a] [] q1) .BitOr (.Call (.Name "set" p2) [b] [] q2) q3) X.env) :: starEach [] X.env:=by rfl)
  (h1:∀pos,(backTo pos (starEach [] X.env)).any (·.1)=false:=by intro _;rfl) :
  PE X (.Call (.Name "sorted" p) [.BinOp (.Call (.Name "set" p1) [a] [] q1) .BitOr (.Call (.Name "set" p2) [b] [] q2) q3] [] pos) (tL X.K (qgp f g)):=by
 refine je (q0z (qo9 hc) hgs hms boot_sorted (zr (qmy qr0 (q5e (qjg hc) hgt hmt (T:="set") (by rfl) (zr ha yj s1) (he:=s1) (hpl:=h1 _)) (q5e (qjg hc) hgt hmt (T:="set") (by rfl) (zr hb yj s2) (he:=s2) (hpl:=h1 _))) yj s3) (he:=s3) (hpl:=h1 _)) fun σ H Q ⟨F0,H0,F, ρ,ds,r,hf,q⟩=>?_;obtain⟨x,hx,hf⟩:=g8.mp hf;obtain⟨y,hy,hj⟩:=g8.mp hf;unfold qgo at hj
 split at hj
 ·rename_i xs ys
  obtain⟨ns,hn,hj⟩:=g8.mp hj;obtain⟨ms,hm,hj⟩:=g8.mp hj;cases hj;refine⟨F0,H0,F, ρ,.tup xs,r,hx,fun v F1 H1 g1 r1=>?_⟩;refine⟨F1,xs,ns,g1.fh,.cons r1 .nil,hn,fun c1 hc1=>?_⟩;have g2:Grow F1 H1 F1 (upd H1 c1 (q4q X.w c1 ns)):=Grow.own g1.fh hc1;refine⟨F0,H0,F1, ρ,.tup ys,r.grow (g1.trans g2),hy,fun u F3 H3 g3 r3=>?_⟩;refine⟨F3,ys,ms,g3.fh,.cons r3 .nil,hm,fun c2 hc2=>?_⟩;have g4:Grow F3 H3 F3 (upd H3 c2 (q4q X.w c2 ms)):=Grow.own g3.fh hc2;have e1:H3 c1=some (q4q X.w c1 ns):=g3.hh.ext _ _ z9;have hne:c1≠c2:=xb e1 hc2;refine⟨c1,c2,ns,ms,rfl,rfl,hne,by rw [qy hne];exact e1,z9,fun c3 hc3=>?_⟩;have g5:Grow F3 (upd H3 c2 (q4q X.w c2 ms)) F3 (upd (upd H3 c2 (q4q X.w c2 ms)) c3 (qgq X.w c3 (ns++ms))):=Grow.own g4.fh hc3;refine⟨c3,ns++ms,rfl,z9,fun c4 hc4=>?_⟩;have g6:=Grow.own (o:=.lst (((List.range 12).filter fun n=>decide (n∈ns++ms)).map fun n=>V.int (n:Nat))) g5.fh hc4;have gg:=g1.trans (g2.trans (g3.trans (g4.trans (g5.trans g6))));refine q c4 _ F3 _ gg (g5.fh.free hc4) ((g1.trans (g2.trans (g3.trans (g4.trans g5)))).hh.free hc4) z9 ?_
  ·have e:((List.range 12).filter fun n=>decide (n∈ns++ms))=(List.range 12).filter fun n=>decide (n∈ns\/n∈ms):=by
    congr 1;funext n;simp [nh]
   rw [e];have:=(RepL.ints (K:=X.K) (H:=F3) (ns:=((List.range 12).filter fun n=>decide (n∈ns\/n∈ms)).map fun n:Nat=>(n:Int)) (xs:=((List.range 12).filter fun n=>decide (n∈ns\/n∈ms)).map fun n=>V.int (n:Nat))).mpr (by rw [nr];rfl);rw [nr] at this;exact this
 ·cases hj
end
end DL
namespace Js
open PySem
open Sem (wp)
theorem qct:typeLookup (.type "list") "keys" = pure none:=by rw [g0w,uf];kernel_rfl
theorem q8k:typeLookup (.type "list") "__getattr__" = pure none:=by rw [g0w,uf];kernel_rfl
section
variable{prog:Program}{w:World}{A:Around}{E:Value->Shared->Prop}{s:Shared}{a:Addr}
theorem qjh{xs:Array Value}{n:Nat}{u:Tok}{Q:Value->Shared->Prop}{sl:Array (Option Value)}(hx:s.heap.get? a=some {cls:=.type "list",dict:=none,data:=.seq xs n,slots:=sl})(hh:A.handled=none)
  (h:∀h' tk e,Heap.NewAttrErr s.heap h' e (.ref a) "keys" -> E (.ref e) {s with heap:=h',toks:=tk}) :
  wpAny (model prog w) A (call (.builtin "list.__getattribute__") [.ref a,.str "keys" u]) Q E s:=by
 refine n6 g22 ⟨_,hx,rfl⟩ F.entry_list_ga ?_ (F.args_list_getattribute_2 _ _);obtain⟨hp,g,d,tk,os⟩:=s;have hT:(⟨hp,g,d,tk,os⟩:Shared).TypeIs (.ref a) "list" :=⟨_,hx,rfl⟩
 have f4:=qct;unfold Builtin.«object.__getattribute__»
 repeat (any_goals (first|assumption|wp_step))
 exact wpAny_raiseAttrError (by simpa using hh) (fun h' tk e x=>h h' tk e x) (attrMsg_fits (by decide +kernel) (by size_fits))
theorem qan{xs:Array Value}{n:Nat}{Q:Option Value->Shared->Prop}{sl:Array (Option Value)}(hx:s.heap.get? a=some {cls:=.type "list",dict:=none,data:=.seq xs n,slots:=sl})(hh:A.handled=none)
  (h:∀h' tk,(∀b o,s.heap.get? b=some o->h'.get? b=some o)->Q none {s with heap:=h',toks:=tk}) :
  wpAny (model prog w) A (getAttr? (.ref a) "keys") Q E s:=by
 obtain⟨hp,g,d,tk,os⟩:=s;have hT:(⟨hp,g,d,tk,os⟩:Shared).TypeIs (.ref a) "list" :=⟨_,hx,rfl⟩
 have f1:=sub_AttributeError;have f3:=g22.lookup;have f4:=g22.bind (.ref a);have f5:=q8k;unfold getAttr? getAttrBy? getAttrBy
 repeat (any_goals (first|assumption|((with_reducible show wpAny _ _ (call (Value.builtin "list.__getattribute__") _ _) _ _ _);refine qjh hx (by first|exact hh|simpa using hh) fun h' tk' e x=>?_)|wp_step))
 obtain⟨t',u',he⟩:=x.there
 repeat (any_goals (first|assumption|wp_step))
 exact h _ _ x.keeps
end
end Js
namespace Js
open PySem
theorem q0b:entryFor table "dict.update.loop" = some Builtin.«dict.update.loop» :=entryFor_of_tree (by kernel_rfl)
theorem xk:plainId "dict.update.loop" = true:=by decide +kernel
abbrev TK(prog:Program)(w:World):=tupleKind (intKind prog w)
structure Prs(prog:Program)(w:World)(h:Heap)(vs:List Value)(ps:List (List Int×Addr×Value)): Prop where
 len:vs.length=ps.length
 pair:∀(i:Nat) (p:List Int×Addr×Value),ps[i]? = some p->∃q,vs[i]? = some (.ref q)/\h.IsTuple q #[.ref p.2.1,p.2.2]
 key:∀p∈ps,(TK prog w).is h p.1 p.2.1
theorem w4{prog:Program}{w:World}{h h':Heap}{k:List Int}{a:Addr}(x:(TK prog w).is h k a)(e:∀o,h.get? a=some o->h'.get? a=some o): (TK prog w).is h' k a:=by
 obtain⟨o,items,n,ho,r⟩:=x;exact⟨o,items,n,e o ho,r⟩
section
variable{prog:Program}{w:World}{A:Around}{R:Result->Shared->Prop}
theorem qji{vs:List Value}{ps:List (List Int×Addr×Value)}{N I S L:Addr}(hu:A.units+1<cLine)(hh:A.in1.handled=none)(hSN:N<=S)(hIN:N<=I)(hLN:L<N)(hSI:S≠I)(h0:Heap)(hN:∀b o,h0.get? b=some o->b<N)(P0:Prs prog w h0 vs ps)(hl0:h0.IsList L vs.toArray)(hnd:(ps.map (·.1)).Nodup)(hz:ps.length<=sizeLine):
  ∀(k i:Nat) (s:Shared) (j:Int) (tj:Tok),ps.length-i=k->i<=ps.length->s.heap.IsListIter I L i->(∀b o,h0.get? b=some o->s.heap.get? b=some o)->s.heap.DictOfH (TK prog w) S (ps.take i) ->
   (∀s',s'.gens=s.gens->s'.drawn=s.drawn->s'.os=s.os->s.toks<=s'.toks->(∀b o,h0.get? b=some o->s'.heap.get? b=some o)->s'.heap.DictOfH (TK prog w) S ps->R (.ok (.ret .none)) s') ->
   codeAny (model prog w) A (.builtin "dict.update.loop" ⟨[.ref S,.ref I,.int j tj,.none],[]⟩) R s:=by
 intro k
 induction k with
 | zero=>
  intro i s j tj hk hi hit hkeep hd hR;have hin:i=ps.length:=by lia
  subst hin;refine nu q0b ?_;rw [ng xk _];have hls:s.heap.IsList L vs.toArray:=let⟨o,ho,r⟩:=hl0; ⟨o,hkeep L o ho,r⟩
  show wpAny _ A.in1 (pyNext (.ref I) >>= _) _ _ s;refine g0 (g2k hh hit hls (by simp [P0.len]) fun h' he=>?_);show wpAny _ A.in1 (Builtin.Dict.addKeywords S [] >>= _) _ _ _;refine g0 (g7 (g7 ?_));rw [u9 (gq _)] at hd;refine hR _ rfl rfl rfl (gq _) (fun b o e=>he b o (gw (gj (hN b o e) hIN)) (hkeep b o e)) ?_;obtain⟨o,es,ep,ho,hc,hdd,hes,his,hn⟩:=hd;exact⟨o,es,ep,he S o hSI ho,hc,hdd,hes,fun x hx=>w4 (P0.key x hx) fun o' e=>he _ o' (gw (gj (hN _ o' e) hIN)) (hkeep _ o' e),hn⟩
 | succ k ih=>
  intro i s j tj hk hi hit hkeep hd hR;have hlt:i<ps.length:=by lia
  have hp:ps[i]? = some ps[i]:=m9 hlt;obtain⟨q,hq,hqt⟩:=P0.pair i _ hp;have hkey:=P0.key _ (g0p hlt);generalize ps[i]=p at hp hq hqt hkey;refine nu q0b ?_;rw [ng xk _];have hls:s.heap.IsList L vs.toArray:=let⟨o,ho,r⟩:=hl0; ⟨o,hkeep L o ho,r⟩
  show wpAny _ A.in1 (pyNext (.ref I) >>= _) _ _ s;refine g0 (g2d hit hls (x:=.ref q) (by simpa using hq) fun h' hit' hs'=>?_);have keep1:∀b o,h0.get? b=some o->h'.get? b=some o:=fun b o e=>hs'.extBut b o (gw (gj (hN b o e) hIN)) (hkeep b o e);have hqt1:h'.IsTuple q #[.ref p.2.1,p.2.2]:=let⟨o,ho,r⟩:=hqt; ⟨o,keep1 q o ho,r⟩
  have hkey1:(TK prog w).is h' p.1 p.2.1:=w4 hkey fun o e=>keep1 _ o e;have hd1:h'.DictOfH (TK prog w) S (ps.take i):=by
   obtain⟨o,es,ep,ho,hc,hdd,hes,his,hn⟩:=hd;exact⟨o,es,ep,hs'.extBut S o hSI ho,hc,hdd,hes,fun x hx=>w4 (P0.key x (g2x hx)) fun o' e=>keep1 _ o' e,hn⟩
  dsimp only;refine g0 (mq ?_);refine g0 (wpAny_tryCatch ?_);unfold Builtin.Dict.pairItems;obtain⟨oq,hoq,hcq,nq,hdq⟩:=hqt1;refine g0 (td (s:={s with heap:=h'}) (T:="tuple") ⟨oq,hoq,hcq⟩ ?_);rw [gx (by decide)];refine g0 (g26 (s:={s with heap:=h'}) hoq hdq (g7 ?_));dsimp only [Option.getD_some];refine mq ?_;have hnone:atKey (ps.take i) p.1=none:=by
   refine g2b fun jj pp e=>?_;have hjj:jj<i:=by
    have:=(mj.mp e).1;rw [ni] at this;lia
   have e':ps[jj]? = some (p.1,pp):=by rw [g0o hjj] at e;exact e
   have:=idxH_unique hnd e' (show ps[i]? = some (p.1,p.2) from hp);lia
  refine g3e (s:={s with heap:=h'}) (show(TK prog w).room A.in1 from hu) hkey1 hd1 (fun h2 hd2 hs2=>?_) (by rw [ni];lia);rw [storedH_new hnone,show ps.take i++[(p.1,p.2.1,p.2.2)]=ps.take (i+1) by rw [g25,hp];rfl] at hd2;have ne2:∀b o,h0.get? b=some o->b≠S:=fun b o e=>gw (gj (hN b o e) hSN);refine g7 ⟨ud xk _,ih (i+1) _ _ _ (by lia) hlt ?_ (fun b o e=>?_) hd2 fun s' a1 a2 a3 a4 a5 a6=>?_⟩
  ·obtain⟨o,ho,r⟩:=hit'
   exact⟨o,hs2.extBut I o (m5 hSI) ho,r⟩
  ·exact hs2.extBut b o (ne2 b o e) (keep1 b o e)
  ·exact hR s' a1 a2 a3 (mh (g4a _ _) a4) a5 a6
end
section
variable{prog:Program}{w:World}{A:Around}{E:Value->Shared->Prop}{s:Shared}
theorem q8l{L:Addr}{vs:List Value}{n0:Nat}{ps:List (List Int×Addr×Value)}{Q:Value->Shared->Prop}(hu:A.units+4<cLine)(hh:A.handled=none){sl:Array (Option Value)}(hL:s.heap.get? L=some {cls:=.type "list",dict:=none,data:=.seq vs.toArray n0,slots:=sl})(P0:Prs prog w s.heap vs ps)(hnd:(ps.map (·.1)).Nodup)(hz:ps.length<=sizeLine)
  (h:∀h' tk,(∀b o,s.heap.get? b=some o->h'.get? b=some o)->h'.DictOfH (TK prog w) s.heap.objs.size ps->Q (.ref s.heap.objs.size) {s with heap:=h',toks:=tk}) :
  wpAny (model prog w) A (call (.type "dict") [.ref L]) Q E s:=by
 refine callType_codes (Q₁:=fun obj s₁=>obj=.ref s.heap.objs.size/\s₁ = {s with heap:=s.heap.push {cls:=.type "dict",data:=.dict #[]} }) g4b (g2y _) g3s (g4c _ ⟨rfl,rfl⟩) ?_
 rintro obj s₁ ⟨rfl,rfl⟩
 let dO:Obj:={cls:=.type "dict",data:=.dict #[]}
 have hnew:(s.heap.push dO).DictOfH (TK prog w) s.heap.objs.size []:=g4d s.heap;have hTd:Shared.TypeIs {s with heap:=s.heap.push dO} (.ref s.heap.objs.size) "dict" :=⟨dO,gp _ rfl,rfl⟩
 have hL1:(s.heap.push dO).get? L=some {cls:=.type "list",dict:=none,data:=.seq vs.toArray n0,slots:=sl}:=g9 _ hL;refine⟨hTd,g3f _ _,?_⟩;unfold Builtin.«dict.__init__»;refine g0 ?_;unfold Builtin.Dict.selfAndRest;refine g0 (g1c hTd ?_);show wpAny _ _ (pure (s.heap.objs.size,[Value.ref L])) _ _ _;refine g7 ?_;show wpAny _ _ (Builtin.Dict.updateFrom "dict.__init__" s.heap.objs.size (.ref L) [] .none) _ _ _;unfold Builtin.Dict.updateFrom;refine g0 (td (T:="list") ⟨_,hL1,rfl⟩ ?_);rw [gx (by decide)];refine g0 (qan (s:={s with heap:=s.heap.push dO}) hL1 (by simpa using hh) fun h1 tk1 k1=>?_);rw [gx (by rfl)];refine g0 (g07 ?_);have hL2:h1.IsList L vs.toArray:=⟨_,k1 _ _ hL1,rfl,n0,rfl⟩
 refine g0 (g13 (s:={s with heap:=h1,toks:=tk1}) hL2 ?_)
 let iO:Obj:={cls:=.type "list_iterator",data:=.fields #[.ref L,.int 0 0]}
 have hz1:s.heap.objs.size+1<=h1.objs.size:=gi (k1 _ _ (gp s.heap (o:=dO) rfl));have hLs:L<s.heap.objs.size:=gi hL;have keep:∀b o,s.heap.get? b=some o->(h1.push iO).get? b=some o:=fun b o e=>g9 _ (k1 b o (g9 _ e));have hd0:(h1.push iO).DictOfH (TK prog w) s.heap.objs.size []:=by
  obtain⟨o,es,ep,ho,hc,hdd,hes,his,hn⟩:=hnew;exact⟨o,es,ep,g9 _ (k1 _ _ ho),hc,hdd,hes,fun x hx=>(nomatch hx),hn⟩
 refine g7 ⟨ud xk _,qji (A:=A.in1) (N:=s.heap.objs.size) (I:=h1.objs.size) (S:=s.heap.objs.size) (L:=L) (vs:=vs) (ps:=ps) (by show A.units+1+1<cLine;lia) (by simpa using hh) (gq _) (g3t hz1) hLs (gw hz1) s.heap (fun b o e=>gi e) P0 ⟨_,hL,rfl,n0,rfl⟩ hnd hz
  ps.length 0 _ _ _ rfl (pj _) ⟨iO,gp _ rfl,rfl,rfl⟩ keep hd0 fun s' a1 a2 a3 a4 a5 a6=>?_⟩
 obtain⟨h',g',d',tk',os'⟩:=s';dsimp only at a1 a2 a3 a4 a5 a6;subst a1;subst a2;subst a3;exact⟨rfl,h h' tk' a5 a6⟩
end
end Js
namespace DL
open PySem PySem.Spec PyProof.Rows L2
variable[Lam][Pin]
def q2o:List D->Option (List (List Int)×List D)
 | []=>some ([],[])
 | .tup [.tup kd,v] :: r=>(zy kd).bind fun k=>(q2o r).map fun p=>(k :: p.1,v :: p.2)
 | _ :: _=>none
def qbh:List D->Option D
 | [.lst ds]=>(q2o ds).bind fun p=>if p.1.Nodup/\ds.length<=lim then some (.dtt p.1 p.2) else none
 | _=>none
def q9o:D->D->Option D
 | .tup kd,.dtt ks _=>(zy kd).map fun k=>.bl (decide (k∈ks))
 | _,_=>none
omit [Lam] [Pin] in
theorem ints_rep{K:Frag}{F:Hp}: ∀ {kd:List D} {xs:List V} {k:List Int},zy kd=some k->RepL K F kd xs->xs=k.map V.int
 | [],xs,k,h,r=>by cases h;exact r.nil_inv
 | .int i :: kd,xs,k,h,r=>by
  obtain⟨k',h1,rfl⟩:=gf.mp h;obtain⟨x,ys,rfl,a1,a2⟩:=r.cons_inv;rw [rep_int.mp a1,ints_rep h1 a2];rfl
 | .non :: _,_,_,h,_=>by cases h
 | .bl _ :: _,_,_,h,_=>by cases h
 | .str _ :: _,_,_,h,_=>by cases h
 | .tup _ :: _,_,_,h,_=>by cases h
 | .lst _ :: _,_,_,h,_=>by cases h
 | .dct _ _ :: _,_,_,h,_=>by cases h
 | .dtt _ _ :: _,_,_,h,_=>by cases h
 | .dt2 _ :: _,_,_,h,_=>by cases h
 | .obj _ :: _,_,_,h,_=>by cases h
 | .exc _ _ :: _,_,_,h,_=>by cases h
omit [Lam] [Pin] in
theorem items_int{P:Program}{w:World}: ∀ {k:List Int} {us:List Value},Vals (k.map V.int) us->ItemsAre (intKind P w) k us
 | [],_,r=>by cases r;exact .nil
 | i :: k,_,r=>by
  cases r with
  | cons h t=>
   obtain⟨tk,rfl⟩:=h;exact .cons (g2w _ _ _ _) (items_int t)
section
variable{X:Cx}{pins:List (Addr×Obj)}{σ : St}{H F:Hp}{s:Shared}
omit [Lam] [Pin] in
theorem w6(I:Inv X pins σ H s)(fh:Same F H){k:List Int}{a:Addr}(h:SqT X.K F a (k.map V.int)): (Js.TK X.prog X.w).is s.heap k a:=by
 obtain⟨its,r,⟨o,ho,hc,n,hd⟩,_⟩:=I.tuple (qu fh h);exact⟨o,its.toArray,n,ho,hc,hd,by simpa using items_int r⟩
omit [Lam] [Pin] in
theorem qcu (I:Inv X pins σ H s) (fh:Same F H):∀ {ds:List D} {ys:List V} {its:List Value} {ks:List (List Int)} {vs:List D},q2o ds=some (ks,vs)->RepL X.K F ds ys->Vals ys its ->
  ∃(ps:List (List Int×Addr×Value)) (ws:List V),Js.Prs X.prog X.w s.heap its ps/\ps.map (·.1)=ks/\(∀p∈ps,SqT X.K F p.2.1 (p.1.map V.int))/\Vals ws (ps.map fun p=>p.2.2)/\RepL X.K F vs ws
 | [],ys,its,ks,vs,h,k,r=>by
  cases h;cases k.nil_inv;cases r;exact⟨[],[],⟨rfl,fun i p e=>by simp at e,fun p hp=>(nomatch hp)⟩,rfl,fun p hp=>(nomatch hp),.nil,.nil⟩
 | d :: ds,ys,its,ks,vs,h,k,r=>by
  unfold q2o at h
  split at h
  ·cases ‹_ :: _=[]›
  ·rename_i kd v r' e
   injection e with e1 e2
   subst e1;subst e2;obtain⟨kk,h1,h2⟩:=g8.mp h;obtain⟨p,h3,h4⟩:=gf.mp h2;cases h4;obtain⟨x,ys',rfl,a1,a2⟩:=k.cons_inv;obtain⟨q,qs,rfl,b1,b2⟩:=rep_tup.mp a1;obtain⟨x1,z1,rfl,c1,c2⟩:=b2.cons_inv;obtain⟨x2,z2,rfl,d1,d2⟩:=c2.cons_inv;cases d2.nil_inv;obtain⟨ka,kxs,rfl,k1,k2⟩:=rep_tup.mp c1;rw [ints_rep h1 k2] at k1;cases r with
   | cons r1 r2=>
    cases r1;obtain⟨uu,hu,⟨oq,hoq,hcq,nq,hdq⟩,_⟩:=I.tuple (qu fh b1);cases hu with
    | cons u1 u2=>
     cases u1;cases u2 with
     | cons u3 u4=>
      cases u4;rename_i uv;obtain⟨ps,ws,P,e1,e2,e3,e4⟩:=qcu I fh h3 a2 r2;refine⟨(kk,ka,uv) :: ps,x2 :: ws,⟨by simp [P.len],fun i p e=>?_,fun p hp=>?_⟩,by simp [e1],fun p hp=>?_,.cons u3 e3,.cons d1 e4⟩
      ·cases i with
       | zero=>
        simp only [g0s,g11] at e;subst e;exact⟨q,rfl,oq,hoq,hcq,nq,hdq⟩
       | succ i=>exact P.pair i p (by simpa using e)
      ·rcases m4.mp hp with rfl|hp
       ·exact w6 I fh k1
       ·exact P.key p hp
      ·rcases m4.mp hp with rfl|hp
       ·exact k1
       ·exact e2 p hp
  ·cases h
end
section
variable{X:Cx}
theorem qob(hc:X.calm=true)(hu:X.A.units+64<cLine): xv X (.type "dict") (rC X.K qbh):=fun pins s σ H xs us Q I rv ⟨F,ds,d,fh,rl,ho,q⟩=>by
 unfold qbh at ho
 split at ho
 ·rename_i ds'
  obtain⟨⟨ks,vs⟩,h1,h2⟩:=g8.mp ho
  split at h2
  ·rename_i hok
   cases h2;obtain⟨x,rfl,rx⟩:=rep1 rl;obtain⟨a,ys,rfl,k1,k2⟩:=rep_lst.mp rx;obtain⟨u,rfl,ru⟩:=vals1 rv;cases ru;obtain⟨its,r1,⟨o,n,e1,e2,e3,e4⟩,hz⟩:=I.list (fh.seq k1);obtain⟨oc,od,oda,osl⟩:=o;dsimp only at e2 e3 e4;subst e2;subst e3;subst e4;obtain⟨ps,ws,P,p1,p2,p3,p4⟩:=qcu I fh h1 k2 r1;have hl:ps.length<=lim:=by
    rw [<- P.len, <- r1.length, <- k2.length];exact hok.2
   refine Js.q8l (by lia) (I.ok.hd hc) e1 P (by rw [p1];exact hok.1) (jt hl) fun h' tk old hd=>?_;have hnn:H s.heap.objs.size=none:=I.hok.fresh (gq _);obtain⟨o,es,ep,g1,g2,g3,g4,_,g5⟩:=hd;have de:DE s.heap.objs.size ps ep h':=⟨o,es,g1,g2,g3,g4⟩
   refine⟨.ref _,_,I.laid (t':=tk) (a:=s.heap.objs.size) (o:=.ext (DE s.heap.objs.size ps ep)) old (gq _) ⟨de,⟨o,g1⟩,fun h1 h2 ⟨o,es,z,r⟩ e=>⟨o,es,e o z,r⟩⟩,rfl,?_⟩;have g:=Grow.new (o:=.ext (DE s.heap.objs.size ps ep)) fh hnn;refine q _ _ _ g (rep_dtt.mpr ⟨_,ps,ws,ep,rfl,z9,p1,hok.1,jt hl,ur.mpr (t5 (q6n I)),fun x hx=>qu g.ff (p2 x hx),p3,p4.mono g.ff⟩)
  ·cases h2
 ·cases ho
theorem qr1(hu:X.A.units+64<cLine): OpR X (compareOp .In) (rD X.K q9o):=fun pins s σ H x y v u Q I rx ry ⟨F,d1,d2,d,fh,r1,r2,ho,q⟩=>by
 unfold q9o at ho
 split at ho
 ·rename_i kd ks vs
  obtain⟨k,h1,rfl⟩:=gf.mp ho;obtain⟨b,kxs,rfl,k1,k2⟩:=rep_tup.mp r1;obtain⟨a,xs,ys,ep,rfl,e1,e2,e3,e4,e5,e6,e7,e8⟩:=rep_dtt.mp r2;cases rx;cases ry;rw [ints_rep h1 k2] at k1;obtain⟨⟨o,es,g1,g2,g3,g4⟩,_,_⟩:=(show ObjOk X.prog X.w H s.heap a _ from I.hok a _ (fh _ _ e1))
  have dd:s.heap.DictOfH (Js.TK X.prog X.w) a xs:=⟨o,es,ep,g1,g2,g3,g4,fun x hx=>w6 I fh (e6 x hx),by rw [e2];exact e3⟩
  refine wpAny_in_heap (g23 (by lia)) (w6 I fh k1) e5 dd ?_;have:(atKey xs k).isSome=decide (k∈ks):=by
   rw [<- e2,ph,mx]
   constructor
   ·intro h
    obtain⟨p,hp⟩:=t9.mp h;obtain⟨z,hz,rfl⟩:=gf.mp hp;have:=List.find?_some hz;exact md.mpr ⟨z,g3z hz,by simpa using this⟩
   ·intro h
    obtain⟨z,hz,rfl⟩:=md.mp h;obtain⟨i,hi⟩:=g53.mp hz;rw [g4e (by rw [e2];exact e3) (show xs[i]? = some (z.1,z.2) from hi)]
    rfl
  rw [this];exact⟨.bl _,H,I.tok _,rfl,q _ F H (.refl fh) (rep_bl.mpr rfl)⟩
 ·cases ho
end
section
variable{X:Cx}{pos:Pos}
def q34:D->D->Option D
 | .dtt ks vs,.tup kd=>(zy kd).bind fun k=>if k∈ks then vs[ks.idxOf k]? else none
 | _,_=>none
theorem qr2(hu:X.A.units+64<cLine): IxR X (rD X.K q34):=by
 intro value slice pins s σ H x y v u Q I rx ry ⟨F,d1,d2,d,fh,r1,r2,ho,q⟩ hs;unfold q34 at ho
 split at ho
 ·rename_i ks vs kd
  obtain⟨k,h1,ho⟩:=g8.mp ho
  split at ho
  ·rename_i hk
   obtain⟨b,kxs,rfl,k1,k2⟩:=rep_tup.mp r2;obtain⟨a,xs,ys,ep,rfl,e1,e2,e3,e4,e5,e6,e7,e8⟩:=rep_dtt.mp r1;cases rx;cases ry;rw [ints_rep h1 k2] at k1;obtain⟨⟨o,es,g1,g2,g3,g4⟩,_,_⟩:=(show ObjOk X.prog X.w H s.heap a _ from I.hok a _ (fh _ _ e1))
   have dd:s.heap.DictOfH (Js.TK X.prog X.w) a xs:=⟨o,es,ep,g1,g2,g3,g4,fun x hx=>w6 I fh (e6 x hx),by rw [e2];exact e3⟩
   obtain⟨w,ew,rw'⟩:=e8.get ho;obtain⟨uu,eu,ruu⟩:=e7.get ew;rw [gz] at eu;obtain⟨z,hz,rfl⟩:=gf.mp eu;have hzk:z.1=k:=by
    have h2:(xs.map (·.1))[ks.idxOf k]? = some z.1:=by rw [gz,hz];rfl
    rw [e2,m9 (g1g hk),g3g] at h2;exact(mi h2).symm
   refine tail_any (ops:=[.ref a,.ref b]) (T:="dict") ⟨o,g1,g2.1⟩ PySem.F.slot_dict_getitem.lookup ?_ hs;refine wpAny_getItem_heap (g23 (by lia)) (w6 I fh k1) dd (p:=z.2) ?_ ⟨w,H,I.tok _,ruu,q w F H (.refl fh) rw'⟩;rw [<- hzk];exact g4e (by rw [e2];exact e3) (show xs[ks.idxOf k]? = some (z.1,z.2) from hz)
  ·cases ho
 ·cases ho
theorem q8m{a b:Expr}{f g:FE}(hu:X.A.units+64<cLine)(ha:PE X a (tD X.K f))(hb:PE X b (tD X.K g))(hs:q9d b:=by intro _ _;rfl): PE X (.Subscript a b pos) (tD X.K (eOp q34 f g)):=je (qmz (qr2 hu) ha hb hs) fun σ H Q h=>two h
end
end DL
namespace Js
open PySem PyProof.Rows
section
variable{prog:Program}{w:World}{A:Around}{E:Value->Shared->Prop}{s:Shared}
theorem q9p{it d:Addr}{i ep:Nat}{od:Obj}{es:Array DictEntry}{Q:Option Value->Shared->Prop}(hit:s.heap.IsKeyIter it d i es.size ep)(hod:s.heap.get? d=some od)(hdd:od.data=.dict es ep)(hlt:i<es.size)
  (hQ:∀h',h'.IsKeyIter it d (i+1) es.size ep->Heap.SameBut it s.heap h'->Q (some (es[i]'hlt).key) {s with heap:=h'}):wpAny (model prog w) A (pyNext (.ref it)) Q E s:=by
 obtain⟨o,ho,hc,hd⟩:=id hit;unfold pyNext;refine g0 (g0t (tx hit.typeIs tw (n6 tw hit.typeIs g33 ?_ (g2z _))));unfold Builtin.«dict_keyiterator.__next__»
 wp_delta
 wp_walk using t8 hit.typeIs,uj hit.typeIs,g37 ho hd,g3u hod hdd,g4p hod hdd,g0f hit.typeIs
 rw [m8 (by omega:¬((i:Int)<0)),show((i:Int)).toNat=i from by simp,getElem?_pos es i hlt];dsimp only;have hit':(s.heap.update it (Obj.mapFields fun x_1=>x_1.setIfInBounds (0+1) (rawInt ((i:Int)+1)))).IsKeyIter it d (i+1) es.size ep:=by
  obtain⟨c1,c2,c3,c4⟩:=o;dsimp only at hc hd;subst hc hd;exact⟨_,ny _ ho rfl,rfl,rfl⟩
 have T':Shared.TypeIs {s with heap:=s.heap.update it (Obj.mapFields fun x_1=>x_1.setIfInBounds (0+1) (rawInt ((i:Int)+1)))} (.ref it) "dict_keyiterator" :=hit'.typeIs
 wp_walk using t8 hit.typeIs,uj hit.typeIs,g0f hit.typeIs
 rw [hd];dsimp only;rw [show(if Builtin.Dict_items.ownsTuple "dict_keyiterator" = true then 2 else 0)=0 from by decide +kernel];rw [gx (by simp)];rw [m8 (show ¬(List.any _ _=true) from by decide +kernel)];refine wpAny_update ho ?_
 wp_walk using t8 T',uj T',g0f T'
 exact⟨_,rfl,g7 (hQ _ hit' ⟨Heap.size_update ..,fun b hb=>Heap.get?_update_ne _ _ _ _ hb⟩)⟩
theorem qb9{it d:Addr}{ep:Nat}{od:Obj}{es:Array DictEntry}{Q:Option Value->Shared->Prop}(hh:A.handled=none)(hit:s.heap.IsKeyIter it d es.size es.size ep)(hod:s.heap.get? d=some od)(hdd:od.data=.dict es ep)
  (hQ:∀h',Heap.ExtBut it s.heap h'->Q none {s with heap:=h'}):wpAny (model prog w) A (pyNext (.ref it)) Q E s:=by
 obtain⟨o,ho,hc,hd⟩:=id hit;unfold pyNext;refine g0 (g0t (tx hit.typeIs tw (n6 tw hit.typeIs g33 ?_ (g2z _))));unfold Builtin.«dict_keyiterator.__next__»
 wp_delta
 wp_walk using t8 hit.typeIs,uj hit.typeIs,g37 ho hd,g3u hod hdd,g4p hod hdd,g0f hit.typeIs
 rw [m8 (by omega:¬((es.size:Int)<0)),show((es.size:Int)).toNat=es.size from by simp,Array.getElem?_size];dsimp only
 wp_walk using t8 hit.typeIs,uj hit.typeIs,g0f hit.typeIs
 rw [hd];dsimp only;rw [show(if Builtin.Dict_items.ownsTuple "dict_keyiterator" = true then 2 else 0)=0 from by decide +kernel];rw [gx (by simp)];refine wpAny_update ho ?_;have hA1:A.in1.handled=none:=hh
 wp_walk using p5,wpAny_handled hA1
 ·dsimp only
  unfold raiseNew
  wp_walk using wpAny_handled hA1,wpAny_throw
  refine wpAny_of_eq isSubtype_stop (g7 ?_);exact(hQ _ (((p9 _ _ _).extBut.push _).push _))
 ·exact sizeOk_excFields _ _ _ _ _ _ _ _
 ·show(0:Nat)<=_
  exact pj _
theorem qjj{d:Addr}{ep:Nat}{od:Obj}{es:Array DictEntry}{Q:Value->Shared->Prop}(hs:(d==sysModules)=false)(hod:s.heap.get? d=some od)(hx:od.ExactDict)(hdd:od.data=.dict es ep)
  (hQ:Q (.ref s.heap.objs.size) {s with heap:=s.heap.push {cls:=.type "dict_keyiterator",data:=.fields #[.ref d,.int 0 0,.int (es.size:Int) 0,.int (ep:Int) 0]} }):wpAny (model prog w) A (pyIter (.ref d)) Q E s:=by
 have hT:s.TypeIs (.ref d) "dict" :=⟨od,hod,hx.1⟩
 refine g3r hT F.slot_dict_iter (n6 F.slot_dict_iter hT F.entry_dict_iter ?_ (F.args_dict_iter_1 _));unfold Builtin.«dict.__iter__»
 wp_walk using g1c hT,g3u hod hdd,g4p hod hdd
 exact⟨_,rfl,"dict_keyiterator",_,⟨_,gp _ rfl,rfl⟩,tw.lookup,hQ⟩
end
end Js
namespace DL
open PySem PySem.Spec PyProof.Rows L2
variable[Lam][Pin]
abbrev DX:=List (List Int×Addr×Value)
def Itd(a:Addr)(xs:DX)(ep:Nat): It:=
 ⟨fun i H=>H a=some (.ext (DE a xs ep))/\i<xs.length,fun i H v H'=>H'=H/\∃x,xs[i]? = some x/\v=.ref x.2.1,fun i H=>H a=some (.ext (DE a xs ep))/\xs.length<=i⟩
theorem qjk{P:Program}{w:World}{K:Frag}{tg:Expr}(a it:Addr)(xs:DX)(ep:Nat): Turn P w K tg (Itd a xs ep) [it] it (fun i h=>i<=xs.length/\h.IsKeyIter it a i xs.length ep) where
 mem:=by simp
 obj:=fun i h st b hb=>by
  have e:b=it:=by simpa using hb
  subst e;obtain⟨_,o,e,c,d⟩:=st;exact⟨o,e,fun v z=>by rw [d] at z;cases z⟩
 keep:=fun i h h' st k=>⟨st.1,st.2.at fun o e=>k it (by simp) o e⟩
 item:=by
  intro X hP hw hK hc i pins s σ H E I hf st hg;subst hP hw hK;obtain⟨hq,hi⟩:=hg;obtain⟨⟨o,es,g1,g2,g3,g4⟩,_,_⟩:=(show ObjOk X.prog X.w H s.heap a _ from I.hok a _ hq)
  have hsz:es.size=xs.length:=by rw [<- ux,g4,gr]
  obtain⟨f0,f1,f2,f3,f4,f5⟩:=hf it (by simp);have st2:=st.2;rw [<- hsz] at st2;have hi':i<es.size:=by rw [hsz];exact hi
  refine Js.q9p st2 g1 g3 hi' fun h' st' sb=>?_;have I1:Inv X pins σ H {s with heap:=h'}:=I.turned (t':=s.toks) (fun b o hb e=>(sb.2 b hb).trans e) f0 f1 f3 f4 f5;obtain⟨o',e,c,d⟩:=id st';have hx:xs[i]? = some xs[i]:=m9 hi;have hk:(es[i]'hi').key=.ref xs[i].2.1:=by
   have h2:es.toList[i]? = some (qq7 xs[i]):=by rw [g4,gz,hx];rfl
   rw [g1b,getElem?_pos es i hi'] at h2;rw [mi h2];rfl
  rw [hsz] at st';exact⟨_,rfl,qbb (s:={s with heap:=h'}) e c d (by decide) ⟨.ref xs[i].2.1,H,I1,by rw [hk];rfl,⟨rfl,_,hx,rfl⟩,⟨hi,st'⟩,fun b hb=>(hf b hb).1⟩⟩
 done:=by
  intro X hP hw hK hc i pins s σ H E I hf st hg;subst hP hw hK;obtain⟨hq,hi⟩:=hg;obtain⟨⟨o,es,g1,g2,g3,g4⟩,_,_⟩:=(show ObjOk X.prog X.w H s.heap a _ from I.hok a _ hq)
  have hsz:es.size=xs.length:=by rw [<- ux,g4,gr]
  obtain⟨f0,f1,f2,f3,f4,f5⟩:=hf it (by simp);have st2:=st.2;rw [show i=xs.length from Nat.le_antisymm st.1 hi, <- hsz] at st2;exact Js.qb9 (I.ok.hd hc) st2 g1 g3 fun h' eb=>⟨rfl,I.turned (t':=s.toks) (fun b o hb e=>eb b o hb e) f0 f1 f3 f4 f5⟩
 self:=fun _ _ _ _ _ st h=>wpAny_pyIter_keyiter st.2 h
abbrev q6q(ks:List (List Int)): List D:=ks.map fun k=>.tup (k.map .int)
theorem qlm{K:Frag}{F:Hp}{a:Addr}{xs:DX}{ep:Nat}{ks:List (List Int)}(h:F a=some (.ext (DE a xs ep)))(e2:xs.map (·.1)=ks)(e6:∀x∈xs,SqT K F x.2.1 (x.1.map V.int)): ItD K F (q6q ks) (Itd a xs ep) where
 go:=fun i F' H s1 s2 hi=>⟨s2 _ _ (s1 _ _ h),by rw [<- e2] at hi;simpa using hi⟩
 yld:=fun i d F' H x H' s1 s2 hi ⟨e,y,hy,hx⟩=>by
  subst e hx e2;rw [gz,gz,hy] at hi;cases hi;exact⟨F',.refl s2,rep_tup.mpr ⟨_,_,rfl,qu s1 (e6 y (ug hy)),RepL.ints.mpr rfl⟩⟩
 stop:=fun i F' H s1 s2 hi=>⟨s2 _ _ (s1 _ _ h),by rw [<- e2] at hi;simpa using hi⟩
section
variable{X:Cx}{pos:Pos}{tg e:Expr}
theorem qoc{l:Expr}{tl:TE}(hl:PE X l tl): PI X tg l (fun σ H R=>tl σ H fun x H1=>∃a xs ep,x=.ref a/\H1 a=some (.ext (DE a xs ep))/\(a==sysModules)=false/\R (Itd a xs ep) H1):=by
 intro pins s σ H R I h;refine thn (hl pins s σ H _ I h) fun v s1 ⟨x,H1,I1,r1,q1⟩=>?_;obtain⟨a,xs,ep,e,hq,hm,q⟩:=q1;subst e;cases r1;obtain⟨⟨o,es,g1,g2,g3,g4⟩,_,_⟩:=(show ObjOk X.prog X.w H1 s1.heap a _ from I1.hok a _ hq)
 have hsz:es.size=xs.length:=by rw [<- ux,g4,gr]
 refine Js.qjj hm g1 g2 g3 ?_;refine⟨s1.heap.objs.size,[s1.heap.objs.size],_,_,H1,rfl,I1.kept (t':=s1.toks) fun b o e=>g9 _ e,qjk a _ xs ep,⟨pj _,_,gp _ rfl,rfl,by rw [hsz];rfl⟩,fun b hb=>?_,q⟩;have e:b=s1.heap.objs.size:=by simpa using hb
 subst e;exact I1.fpOk (gq _) (I1.hok.fresh (gq _))
def qgr(f:FE): FA:=fun ρ =>(f ρ).bind fun d=>match d with
 | .dtt ks _=>some (q6q ks)
 | _=>none
theorem qjl{f:FE}(h:PE X e (tD X.K f)): PI X tg e (tDI X.K (qgr f)):=q8c (qoc h) fun σ H R ⟨F0,H0,F, ρ,ds,r,hf,q⟩=>by
 obtain⟨d,h1,h2⟩:=g8.mp hf;refine⟨F0,H0,F, ρ,d,r,h1,fun v F' H' g' r'=>?_⟩
 split at h2
 ·cases h2
  obtain⟨a,xs,ys,ep,rfl,e1,e2,e3,e4,e5,e6,e7,e8⟩:=rep_dtt.mp r';exact⟨a,xs,ep,rfl,g'.fh _ _ e1,e5,q _ F' H' g' (qlm e1 e2 e6)⟩
 ·cases h2
end
def q4r:D->List D->Option D
 | .dtt ks vs,[.tup kd]=>(zy kd).bind fun k=>if k∈ks then vs[ks.idxOf k]? else some .non
 | .dtt ks vs,[.tup kd,d0]=>(zy kd).bind fun k=>if k∈ks then vs[ks.idxOf k]? else some d0
 | _,_=>none
def qgs(f:FE)(fa:FA): FE:=fun ρ =>(f ρ).bind fun d=>(fa ρ).bind fun xs=>q4r d xs
section
variable{X:Cx}
theorem qfl{K:Frag}{F:Hp}{ks:List (List Int)}{vs:List D}{xs:DX}{ys:List V}{k:List Int}(e2:xs.map (·.1)=ks)(e3:ks.Nodup)(e7:Vals ys (xs.map fun p=>p.2.2))(e8:RepL K F vs ys){d0 d:D}{v0:V}{u0:Value}(r0:Rep K F d0 v0)(q0:RelV v0 u0)
  (h:(if k∈ks then vs[ks.idxOf k]? else some d0)=some d):∃v,Rep K F d v/\RelV v (((atKey xs k).map (·.2)).getD u0):=by
 split at h
 ·rename_i hk
  obtain⟨w,ew,rw'⟩:=e8.get h;obtain⟨uu,eu,ruu⟩:=e7.get ew;rw [gz] at eu;obtain⟨z,hz,rfl⟩:=gf.mp eu;have hzk:z.1=k:=by
   have h2:(xs.map (·.1))[ks.idxOf k]? = some z.1:=by rw [gz,hz];rfl
   rw [e2,m9 (g1g hk),g3g] at h2;exact(mi h2).symm
  have ha:atKey xs k=some z.2:=by
   rw [<- hzk];exact g4e (by rw [e2];exact e3) (show xs[ks.idxOf k]? = some (z.1,z.2) from hz)
  exact⟨w,rw',by rw [ha];exact ruu⟩
 ·rename_i hk
  cases h;have ha:atKey xs k=none:=g2b fun i p e=>hk (by rw [<- e2];exact md.mpr ⟨_,ug e,rfl⟩);exact⟨v0,r0,by rw [ha];exact q0⟩
theorem qr3(hu:X.A.units+64<cLine): MtR X "dict.get" (fun x xs H Q=>∃F d ds r,Same F H/\Rep X.K F d x/\RepL X.K F ds xs/\q4r d ds=some r/\∀v,Rep X.K F r v->Q v H):=by
 intro pins s σ H x vs v us Q I rx rv h;obtain⟨F,d,ds,r,fh,r1,r2,ho,q⟩:=h;unfold q4r at ho
 split at ho
 ·rename_i ks ws kd
  obtain⟨k,h1,ho⟩:=g8.mp ho;obtain⟨x1,rfl,rx1⟩:=rep1 r2;obtain⟨u1,rfl,ru1⟩:=vals1 rv;obtain⟨b,kxs,rfl,k1,k2⟩:=rep_tup.mp rx1;obtain⟨a,xs,ys,ep,rfl,e1,e2,e3,e4,e5,e6,e7,e8⟩:=rep_dtt.mp r1;cases rx;cases ru1;rw [ints_rep h1 k2] at k1;obtain⟨⟨o,es,g1,g2,g3,g4⟩,_,_⟩:=(show ObjOk X.prog X.w H s.heap a _ from I.hok a _ (fh _ _ e1))
  have dd:s.heap.DictOfH (Js.TK X.prog X.w) a xs:=⟨o,es,ep,g1,g2,g3,g4,fun x hx=>w6 I fh (e6 x hx),by rw [e2];exact e3⟩
  obtain⟨v,rv,qv⟩:=qfl e2 e3 e7 e8 (d0:=.non) (v0:=.non) (u0:=.none) (rep_non.mpr rfl) rfl ho;refine call_meetsIn g2o dd.typeIs g4w (PySem.F.args_dict_get_2 _ _) (meetsH_dict_get (Js.TK X.prog X.w) a b e5) ⟨g23 (by lia),k,xs,w6 I fh k1,dd,?_⟩;exact⟨v,H,I.tok _,qv,q v rv⟩
 ·rename_i ks ws kd d0
  obtain⟨k,h1,ho⟩:=g8.mp ho;obtain⟨x1,t1,rfl,rx1,r3⟩:=r2.cons_inv;obtain⟨x2,rfl,rx2⟩:=rep1 r3;obtain⟨u1,u2,rfl,ru1,ru2⟩:=rv.two;obtain⟨b,kxs,rfl,k1,k2⟩:=rep_tup.mp rx1;obtain⟨a,xs,ys,ep,rfl,e1,e2,e3,e4,e5,e6,e7,e8⟩:=rep_dtt.mp r1;cases rx;cases ru1;rw [ints_rep h1 k2] at k1;obtain⟨⟨o,es,g1,g2,g3,g4⟩,_,_⟩:=(show ObjOk X.prog X.w H s.heap a _ from I.hok a _ (fh _ _ e1))
  have dd:s.heap.DictOfH (Js.TK X.prog X.w) a xs:=⟨o,es,ep,g1,g2,g3,g4,fun x hx=>w6 I fh (e6 x hx),by rw [e2];exact e3⟩
  obtain⟨v,rv,qv⟩:=qfl e2 e3 e7 e8 rx2 ru2 ho;refine call_meetsIn g2o dd.typeIs g4w (PySem.F.args_dict_get_3 _ _ _) (meetsH_dict_get_default (Js.TK X.prog X.w) a b e5 u2) ⟨g23 (by lia),k,xs,w6 I fh k1,dd,?_⟩;exact⟨v,H,I.tok _,qv,q v rv⟩
 ·cases ho
theorem qr4{o e:Expr}{es:List Expr}{f:FE}{fa:FA}{apos cpos:Pos}(hu:X.A.units+64<cLine)(ho:PE X o (tD X.K f))(ha:PA X (e :: es) (tDA X.K fa))
  (hbase:attributeBase o "get" X.env (eval o X.env)=eval o X.env:=by rfl)
  (hfew:((backTo cpos (starEach (e :: es) X.env)).all (fun x=> !x.1)&&(backToKw cpos (keywordEach [] X.env)).all (fun x=>x.1.isSome)
   && decide ((e :: es).length+([]:List Keyword).length+(if([]:List Keyword).isEmpty then 0 else 1)<30))=true:=by rfl)
  (hline:(apos.endLine==cpos.line)=true:=by rfl) (hs:starEach (e :: es) X.env=(false,eval e X.env) :: starEach es X.env:=by rfl) (hplain:(backTo cpos (starEach es X.env)).any (·.1)=false:=by rfl) :
  PE X (.Call (.Attribute o "get" apos) (e :: es) [] cpos) (tD X.K (qgs f fa)):=by
 intro pins s σ H Q I ⟨F0,H0,F, ρ,d,r,hf,q⟩;obtain⟨d1,h1,hf⟩:=g8.mp hf;obtain⟨ds,h2,h3⟩:=g8.mp hf;refine wpAny_Call_method_late hbase hfew hline rfl (thn (ho pins s σ H (fun v H1=>∃F1,Grow F H F1 H1/\Rep X.K F1 d1 v) I ⟨F0,H0,F, ρ,d1,r,h1,fun v F1 H1 g1 r1=>⟨F1,g1,r1⟩⟩) fun v s1 ⟨x,H1,I1,rx,F1,g1,r1⟩=>?_);obtain⟨ks,vs,rfl⟩:∃ks vs,d1=.dtt ks vs:=by cases d1 <;> first|exact⟨_,_,rfl⟩|(simp [q4r] at h3)
 obtain⟨a,xs,ys,ep,rfl,e1,e2,e3,e4,e5,e6,e7,e8⟩:=rep_dtt.mp r1;cases rx;obtain⟨⟨ob,es',k1,k2,k3,k4⟩,_,_⟩:=(show ObjOk X.prog X.w H1 s1.heap a _ from I1.hok a _ (g1.fh _ _ e1))
 refine⟨"dict","dict.get",PySem.F.plainAttrs_dict,g2o,PySem.F.type_dict_get,⟨ob,k1,k2.1⟩,fun b e=>by cases e;exact⟨ob,k1,k2.2.1⟩,?_⟩;have hA:=ha cpos pins s1 σ H1 (fun vs H2=>∃F2,Grow F1 H1 F2 H2/\RepL X.K F2 ds vs) I1 ⟨F0,H0,F1, ρ,ds,r.grow g1,h2,fun vs F2 H2 g2 r2=>⟨F2,g2,r2⟩⟩;rw [hs] at hA ⊢;refine Calls.callWith_builtin (by show(false || (backTo cpos (starEach es X.env)).any (·.1))=false;rw [hplain] <;> rfl) (g2r ?_);exact thn hA fun us s2 ⟨ws,H2,I2,rw',F2,g2,r2⟩=>qr3 hu pins s2 σ H2 (.ref a) ws (.ref a) us Q I2 rfl rw' ⟨F2,.dtt ks vs,ds,d,g2.fh,r1.mono g2.ff,r2,h3,fun v rv=>q v F2 H2 (g1.trans g2) rv⟩
end
section
variable{X:Cx}{e:Expr}{pos:Pos}{f:FE}
def qln:D->D->Option D
 | .lst ds,.lst es=>if yu ds es&&decide (y6 ds<=60) then some (.bl (!eqL ds es)) else none
 | _,_=>none
theorem qr5(hu:X.A.units+64<cLine): OpR X (compareOp .NotEq) (rD X.K qln):=by
 intro pins s σ H x y v u Q I rx ry h;obtain⟨F,d1,d2,d,fh,r1,r2,ho,q⟩:=h;unfold qln at ho
 split at ho
 ·rename_i ds es
  split at ho
  ·rename_i hc
   cases ho;rw [mf] at hc;obtain⟨a,xs,rfl,k1,k2⟩:=rep_lst.mp r1;obtain⟨b,ys,rfl,k3,k4⟩:=rep_lst.mp r2;cases rx;cases ry;obtain⟨i1,v1,t1,_⟩:=I.list (fh.seq k1);obtain⟨i2,v2,t2,_⟩:=I.list (fh.seq k3);have hq:=q4n I fh X.A.in1 hc.1 (by have:=uo hc.2;show X.A.units+1+y6 ds<cLine;lia) k2 k4 v1 v2;have hl1:i1.length=ds.length:=by rw [<- v1.length, <- k2.length]
   have hl2:i2.length=es.length:=by rw [<- v2.length, <- k4.length]
   by_cases hl:ds.length=es.length
   ·have:=SeqAt.RcNeAt.lists (A:=X.A) (e:=eqJ ds es) t1.isList t2.isList (by rw [gd,gd,hl1,hl2];exact hl) (by lia) (fun j h1 h2=>by simpa using hq j (by simpa using h1) (by simpa using h2))
    have e1:(List.range i1.toArray.size).all (eqJ ds es)=eqL ds es:=by
     rw [<- vn,gd,hl1, <- hl,g57];simp
    rw [e1] at this;exact this X.prog X.w _ _ ⟨.bl _,H,I,rfl,q _ F H (.refl fh) (rep_bl.mpr rfl)⟩
   ·have e1:eqL ds es=false:=by rw [<- vn];simp [hl]
    rw [e1] at q;have:=SeqAt.RcNeAt.lists_lengths (A:=X.A) t1.isList t2.isList (by rw [gd,gd,hl1,hl2];simpa using hl) (by lia);exact this X.prog X.w _ _ ⟨.bl _,H,I,rfl,q _ F H (.refl fh) (rep_bl.mpr rfl)⟩
  ·cases ho
 ·cases ho
abbrev q9q:D->D->Option D:=fun x y=>(q9k x y).or (qln x y)
theorem qjm(hu:X.A.units+64<cLine): OpR X (compareOp .NotEq) (rD X.K q9q):=q5g (qj7 hu) (qr5 hu)
end
end DL
namespace Rv
open PySem PyProof.Rows
section
variable{prog:Program}{w:World}{A:Around}{E:Value->Shared->Prop}{s:Shared}{I:Addr}{fp wr:List Addr}{G:Array GenState->Array GenState->Prop}{n:Nat}{P:Nat->Value->Prop}{St:Nat->Shared->Prop}
end
end Rv
namespace DL
open PySem PySem.Spec PyProof.Rows L2
variable[Lam][Pin]
section
variable{X:Cx}{pos:Pos}{tg:Expr}
end
end DL
namespace Rv
open PySem PyProof.Rows
section
variable{prog:Program}{w:World}{A:Around}{s:Shared}{R:Result->Shared->Prop}
variable{I:Addr}{fp wr:List Addr}{G:Array GenState->Array GenState->Prop}{n:Nat}{P:Nat->Value->Prop}{St:Nat->Shared->Prop}
end
section
variable{prog:Program}{w:World}{A:Around}{E:Value->Shared->Prop}{s:Shared}
variable{I:Addr}{fp wr:List Addr}{G:Array GenState->Array GenState->Prop}{n:Nat}{P:Nat->Value->Prop}{St:Nat->Shared->Prop}
end
end Rv
namespace Js
open PySem
open Sem (wp)
theorem qeb:typeLookup (.type "tuple") "keys" = pure none:=by rw [g0w,uf];kernel_rfl
theorem q9r:typeLookup (.type "tuple") "__getattr__" = pure none:=by rw [g0w,uf];kernel_rfl
section
variable{prog:Program}{w:World}{A:Around}{E:Value->Shared->Prop}{s:Shared}{a:Addr}
theorem qgt{xs:Array Value}{n:Nat}{u:Tok}{Q:Value->Shared->Prop}{sl:Array (Option Value)}(hx:s.heap.get? a=some {cls:=.type "tuple",dict:=none,data:=.seq xs n,slots:=sl})(hh:A.handled=none)
  (h:∀h' tk e,Heap.NewAttrErr s.heap h' e (.ref a) "keys" -> E (.ref e) {s with heap:=h',toks:=tk}) :
  wpAny (model prog w) A (call (.builtin "tuple.__getattribute__") [.ref a,.str "keys" u]) Q E s:=by
 refine n6 g1s ⟨_,hx,rfl⟩ F.entry_tuple_ga ?_ (F.args_tuple_getattribute_2 _ _);obtain⟨hp,g,d,tk,os⟩:=s;have hT:(⟨hp,g,d,tk,os⟩:Shared).TypeIs (.ref a) "tuple" :=⟨_,hx,rfl⟩
 have f4:=qeb;unfold Builtin.«object.__getattribute__»
 repeat (any_goals (first|assumption|wp_step))
 exact wpAny_raiseAttrError (by simpa using hh) (fun h' tk e x=>h h' tk e x) (attrMsg_fits (by decide +kernel) (by size_fits))
theorem qgu{xs:Array Value}{n:Nat}{Q:Option Value->Shared->Prop}{sl:Array (Option Value)}(hx:s.heap.get? a=some {cls:=.type "tuple",dict:=none,data:=.seq xs n,slots:=sl})(hh:A.handled=none)
  (h:∀h' tk,(∀b o,s.heap.get? b=some o->h'.get? b=some o)->Q none {s with heap:=h',toks:=tk}) :
  wpAny (model prog w) A (getAttr? (.ref a) "keys") Q E s:=by
 obtain⟨hp,g,d,tk,os⟩:=s;have hT:(⟨hp,g,d,tk,os⟩:Shared).TypeIs (.ref a) "tuple" :=⟨_,hx,rfl⟩
 have f1:=sub_AttributeError;have f3:=g1s.lookup;have f4:=g1s.bind (.ref a);have f5:=q9r;unfold getAttr? getAttrBy? getAttrBy
 repeat (any_goals (first|assumption|((with_reducible show wpAny _ _ (call (Value.builtin "tuple.__getattribute__") _ _) _ _ _);refine qgt hx (by first|exact hh|simpa using hh) fun h' tk' e x=>?_)|wp_step))
 obtain⟨t',u',he⟩:=x.there
 repeat (any_goals (first|assumption|wp_step))
 exact h _ _ x.keeps
end
section
variable{prog:Program}{w:World}{A:Around}{R:Result->Shared->Prop}
theorem qgv{vs:List Value}{ps:List (List Int×Addr×Value)}{N I S L:Addr}(hu:A.units+1<cLine)(hh:A.in1.handled=none)(hSN:N<=S)(hIN:N<=I)(hLN:L<N)(hSI:S≠I)(h0:Heap)(hN:∀b o,h0.get? b=some o->b<N)(P0:Prs prog w h0 vs ps)(hl0:h0.IsTuple L vs.toArray)(hnd:(ps.map (·.1)).Nodup)(hz:ps.length<=sizeLine):
  ∀(k i:Nat) (s:Shared) (j:Int) (tj:Tok),ps.length-i=k->i<=ps.length->s.heap.IsTupleIter I L i->(∀b o,h0.get? b=some o->s.heap.get? b=some o)->s.heap.DictOfH (TK prog w) S (ps.take i) ->
   (∀s',s'.gens=s.gens->s'.drawn=s.drawn->s'.os=s.os->s.toks<=s'.toks->(∀b o,h0.get? b=some o->s'.heap.get? b=some o)->s'.heap.DictOfH (TK prog w) S ps->R (.ok (.ret .none)) s') ->
   codeAny (model prog w) A (.builtin "dict.update.loop" ⟨[.ref S,.ref I,.int j tj,.none],[]⟩) R s:=by
 intro k
 induction k with
 | zero=>
  intro i s j tj hk hi hit hkeep hd hR;have hin:i=ps.length:=by lia
  subst hin;refine nu q0b ?_;rw [ng xk _];have hls:s.heap.IsTuple L vs.toArray:=let⟨o,ho,r⟩:=hl0; ⟨o,hkeep L o ho,r⟩
  show wpAny _ A.in1 (pyNext (.ref I) >>= _) _ _ s;refine g0 (wpAny_pyNext_tuple_end hh hit hls (by simp [P0.len]) fun h' he=>?_);show wpAny _ A.in1 (Builtin.Dict.addKeywords S [] >>= _) _ _ _;refine g0 (g7 (g7 ?_));rw [u9 (gq _)] at hd;refine hR _ rfl rfl rfl (gq _) (fun b o e=>he b o (gw (gj (hN b o e) hIN)) (hkeep b o e)) ?_;obtain⟨o,es,ep,ho,hc,hdd,hes,his,hn⟩:=hd;exact⟨o,es,ep,he S o hSI ho,hc,hdd,hes,fun x hx=>w4 (P0.key x hx) fun o' e=>he _ o' (gw (gj (hN _ o' e) hIN)) (hkeep _ o' e),hn⟩
 | succ k ih=>
  intro i s j tj hk hi hit hkeep hd hR;have hlt:i<ps.length:=by lia
  have hp:ps[i]? = some ps[i]:=m9 hlt;obtain⟨q,hq,hqt⟩:=P0.pair i _ hp;have hkey:=P0.key _ (g0p hlt);generalize ps[i]=p at hp hq hqt hkey;refine nu q0b ?_;rw [ng xk _];have hls:s.heap.IsTuple L vs.toArray:=let⟨o,ho,r⟩:=hl0; ⟨o,hkeep L o ho,r⟩
  show wpAny _ A.in1 (pyNext (.ref I) >>= _) _ _ s;refine g0 (wpAny_pyNext_tuple_item hit hls (x:=.ref q) (by simpa using hq) fun h' hit' hs'=>?_);have keep1:∀b o,h0.get? b=some o->h'.get? b=some o:=fun b o e=>hs'.extBut b o (gw (gj (hN b o e) hIN)) (hkeep b o e);have hqt1:h'.IsTuple q #[.ref p.2.1,p.2.2]:=let⟨o,ho,r⟩:=hqt; ⟨o,keep1 q o ho,r⟩
  have hkey1:(TK prog w).is h' p.1 p.2.1:=w4 hkey fun o e=>keep1 _ o e;have hd1:h'.DictOfH (TK prog w) S (ps.take i):=by
   obtain⟨o,es,ep,ho,hc,hdd,hes,his,hn⟩:=hd;exact⟨o,es,ep,hs'.extBut S o hSI ho,hc,hdd,hes,fun x hx=>w4 (P0.key x (g2x hx)) fun o' e=>keep1 _ o' e,hn⟩
  dsimp only;refine g0 (mq ?_);refine g0 (wpAny_tryCatch ?_);unfold Builtin.Dict.pairItems;obtain⟨oq,hoq,hcq,nq,hdq⟩:=hqt1;refine g0 (td (s:={s with heap:=h'}) (T:="tuple") ⟨oq,hoq,hcq⟩ ?_);rw [gx (by decide)];refine g0 (g26 (s:={s with heap:=h'}) hoq hdq (g7 ?_));dsimp only [Option.getD_some];refine mq ?_;have hnone:atKey (ps.take i) p.1=none:=by
   refine g2b fun jj pp e=>?_;have hjj:jj<i:=by
    have:=(mj.mp e).1;rw [ni] at this;lia
   have e':ps[jj]? = some (p.1,pp):=by rw [g0o hjj] at e;exact e
   have:=idxH_unique hnd e' (show ps[i]? = some (p.1,p.2) from hp);lia
  refine g3e (s:={s with heap:=h'}) (show(TK prog w).room A.in1 from hu) hkey1 hd1 (fun h2 hd2 hs2=>?_) (by rw [ni];lia);rw [storedH_new hnone,show ps.take i++[(p.1,p.2.1,p.2.2)]=ps.take (i+1) by rw [g25,hp];rfl] at hd2;have ne2:∀b o,h0.get? b=some o->b≠S:=fun b o e=>gw (gj (hN b o e) hSN);refine g7 ⟨ud xk _,ih (i+1) _ _ _ (by lia) hlt ?_ (fun b o e=>?_) hd2 fun s' a1 a2 a3 a4 a5 a6=>?_⟩
  ·obtain⟨o,ho,r⟩:=hit'
   exact⟨o,hs2.extBut I o (m5 hSI) ho,r⟩
  ·exact hs2.extBut b o (ne2 b o e) (keep1 b o e)
  ·exact hR s' a1 a2 a3 (mh (g4a _ _) a4) a5 a6
end
section
variable{prog:Program}{w:World}{A:Around}{E:Value->Shared->Prop}{s:Shared}
theorem q7m{L:Addr}{vs:List Value}{n0:Nat}{ps:List (List Int×Addr×Value)}{Q:Value->Shared->Prop}(hu:A.units+4<cLine)(hh:A.handled=none){sl:Array (Option Value)}(hL:s.heap.get? L=some {cls:=.type "tuple",dict:=none,data:=.seq vs.toArray n0,slots:=sl})(P0:Prs prog w s.heap vs ps)(hnd:(ps.map (·.1)).Nodup)(hz:ps.length<=sizeLine)
  (h:∀h' tk,(∀b o,s.heap.get? b=some o->h'.get? b=some o)->h'.DictOfH (TK prog w) s.heap.objs.size ps->Q (.ref s.heap.objs.size) {s with heap:=h',toks:=tk}) :
  wpAny (model prog w) A (call (.type "dict") [.ref L]) Q E s:=by
 refine callType_codes (Q₁:=fun obj s₁=>obj=.ref s.heap.objs.size/\s₁ = {s with heap:=s.heap.push {cls:=.type "dict",data:=.dict #[]} }) g4b (g2y _) g3s (g4c _ ⟨rfl,rfl⟩) ?_
 rintro obj s₁ ⟨rfl,rfl⟩
 let dO:Obj:={cls:=.type "dict",data:=.dict #[]}
 have hnew:(s.heap.push dO).DictOfH (TK prog w) s.heap.objs.size []:=g4d s.heap;have hTd:Shared.TypeIs {s with heap:=s.heap.push dO} (.ref s.heap.objs.size) "dict" :=⟨dO,gp _ rfl,rfl⟩
 have hL1:(s.heap.push dO).get? L=some {cls:=.type "tuple",dict:=none,data:=.seq vs.toArray n0,slots:=sl}:=g9 _ hL;refine⟨hTd,g3f _ _,?_⟩;unfold Builtin.«dict.__init__»;refine g0 ?_;unfold Builtin.Dict.selfAndRest;refine g0 (g1c hTd ?_);show wpAny _ _ (pure (s.heap.objs.size,[Value.ref L])) _ _ _;refine g7 ?_;show wpAny _ _ (Builtin.Dict.updateFrom "dict.__init__" s.heap.objs.size (.ref L) [] .none) _ _ _;unfold Builtin.Dict.updateFrom;refine g0 (td (T:="tuple") ⟨_,hL1,rfl⟩ ?_);rw [gx (by decide)];refine g0 (qgu (s:={s with heap:=s.heap.push dO}) hL1 (by simpa using hh) fun h1 tk1 k1=>?_);rw [gx (by rfl)];refine g0 (g07 ?_);have hL2:h1.IsTuple L vs.toArray:=⟨_,k1 _ _ hL1,rfl,n0,rfl⟩
 refine g0 (g3a (s:={s with heap:=h1,toks:=tk1}) hL2 ?_)
 let iO:Obj:={cls:=.type "tuple_iterator",data:=.fields #[.ref L,.int 0 0]}
 have hz1:s.heap.objs.size+1<=h1.objs.size:=gi (k1 _ _ (gp s.heap (o:=dO) rfl));have hLs:L<s.heap.objs.size:=gi hL;have keep:∀b o,s.heap.get? b=some o->(h1.push iO).get? b=some o:=fun b o e=>g9 _ (k1 b o (g9 _ e));have hd0:(h1.push iO).DictOfH (TK prog w) s.heap.objs.size []:=by
  obtain⟨o,es,ep,ho,hc,hdd,hes,his,hn⟩:=hnew;exact⟨o,es,ep,g9 _ (k1 _ _ ho),hc,hdd,hes,fun x hx=>(nomatch hx),hn⟩
 refine g7 ⟨ud xk _,qgv (A:=A.in1) (N:=s.heap.objs.size) (I:=h1.objs.size) (S:=s.heap.objs.size) (L:=L) (vs:=vs) (ps:=ps) (by show A.units+1+1<cLine;lia) (by simpa using hh) (gq _) (g3t hz1) hLs (gw hz1) s.heap (fun b o e=>gi e) P0 ⟨_,hL,rfl,n0,rfl⟩ hnd hz
  ps.length 0 _ _ _ rfl (pj _) ⟨iO,gp _ rfl,rfl,rfl⟩ keep hd0 fun s' a1 a2 a3 a4 a5 a6=>?_⟩
 obtain⟨h',g',d',tk',os'⟩:=s';dsimp only at a1 a2 a3 a4 a5 a6;subst a1;subst a2;subst a3;exact⟨rfl,h h' tk' a5 a6⟩
end
end Js
namespace DL
open PySem PySem.Spec PyProof.Rows L2
variable[Lam][Pin]
section
variable{X:Cx}{pos:Pos}
def q8n:List D->Option D
 | [.tup ds]=>(q2o ds).bind fun p=>if p.1.Nodup/\ds.length<=lim then some (.dtt p.1 p.2) else none
 | _=>none
theorem qlo(hc:X.calm=true)(hu:X.A.units+64<cLine): xv X (.type "dict") (rC X.K q8n):=fun pins s σ H xs us Q I rv ⟨F,ds,d,fh,rl,ho,q⟩=>by
 unfold q8n at ho
 split at ho
 ·rename_i ds'
  obtain⟨⟨ks,vs⟩,h1,h2⟩:=g8.mp ho
  split at h2
  ·rename_i hok
   cases h2;obtain⟨x,rfl,rx⟩:=rep1 rl;obtain⟨a,ys,rfl,k1,k2⟩:=rep_tup.mp rx;obtain⟨u,rfl,ru⟩:=vals1 rv;cases ru;obtain⟨its,r1,⟨o,e1,e2,e3,n,e4⟩,hz⟩:=I.tupleX (qu fh k1);obtain⟨oc,od,oda,osl⟩:=o;dsimp only at e2 e3 e4;subst e2;subst e3;subst e4;obtain⟨ps,ws,P,p1,p2,p3,p4⟩:=qcu I fh h1 k2 r1;have hl:ps.length<=lim:=by
    rw [<- P.len, <- r1.length, <- k2.length];exact hok.2
   refine Js.q7m (by lia) (I.ok.hd hc) e1 P (by rw [p1];exact hok.1) (jt hl) fun h' tk old hd=>?_;have hnn:H s.heap.objs.size=none:=I.hok.fresh (gq _);obtain⟨o,es,ep,g1,g2,g3,g4,_,g5⟩:=hd;have de:DE s.heap.objs.size ps ep h':=⟨o,es,g1,g2,g3,g4⟩
   refine⟨.ref _,_,I.laid (t':=tk) (a:=s.heap.objs.size) (o:=.ext (DE s.heap.objs.size ps ep)) old (gq _) ⟨de,⟨o,g1⟩,fun h1 h2 ⟨o,es,z,r⟩ e=>⟨o,es,e o z,r⟩⟩,rfl,?_⟩;have g:=Grow.new (o:=.ext (DE s.heap.objs.size ps ep)) fh hnn;refine q _ _ _ g (rep_dtt.mpr ⟨_,ps,ws,ep,rfl,z9,p1,hok.1,jt hl,ur.mpr (t5 (q6n I)),fun x hx=>qu g.ff (p2 x hx),p3,p4.mono g.ff⟩)
  ·cases h2
 ·cases ho
end
end DL
namespace Fl
open PySem
def Stable(P:Obj->Prop): Prop:=∀o x,P o->P (o.mapFields (·.setIfInBounds 1 x))
def Tr(h base:Heap)(e:Addr)(P:Obj->Prop)(fl:Value): Prop:=
 ∃ob ws T ot us,h.get? e=some ob/\P ob/\ob.data=.fields ws/\ws[1]? = some (.ref T)/\base.get? T=none/\T≠e/\h.get? T=some ot/\ot.data=.fields us/\us[3]? = some fl
def Fly(base:Heap)(l:List Env)(e:Addr)(P:Obj->Prop)(fl:Value)(h:Heap): Prop:=base.StaysIn h/\base.get? e=none/\h.FunFrames base l/\Tr h base e P fl
theorem Fly.there{base h:Heap}{l:List Env}{e:Addr}{P:Obj->Prop}{fl:Value}(x:Fly base l e P fl h): ∃ob ws,h.get? e=some ob/\P ob/\ob.data=.fields ws:=by
 obtain⟨_,_,_,ob,ws,_,_,_,h1,h2,h3,_⟩:=x;exact⟨ob,ws,h1,h2,h3⟩
section
variable{M:Model}{A:Around}{E:Value->Shared->Prop}{s:Shared}{base:Heap}{env:Env}{outer l:List Env}{L e:Addr}{P:Obj->Prop}{Q:Unit->Shared->Prop}{fl:Value}
theorem entry{ob:Obj}{ws:Array Value}{head:Value}{nx:Bool}(st:Stable P)(hfr:A.frames=some (env :: outer))(hl:s.heap.FunFrames base (env :: outer))(hf:env.frame=some L)
  (he:s.heap.get? e=some ob) (hkb:base.StaysIn s.heap) (hen:base.get? e=none) (hp:P ob) (hd:ob.data=.fields ws) (hz:1<ws.size)
  (k:∀h',Fly base (env :: outer) e P (rawInt L) h'->s.heap.UpToSlots h'->Q () {s with heap:=h'}) :
  wpAny M A (do let a <- frameOf env;let pl <- entryPlaceOf L nx;let b <- EntryCells.newEntry head a .none (rawInt L) .none pl;setField (.ref e) 1 b) Q E s:=by
 have nfr:e∉(env :: outer).filterMap (·.frame):=fun z=>by
  obtain⟨_,o,e1,e2⟩:=hl.mem z;rw [he] at e1;cases e1;exact e2 ws hd
 refine g0 (wpAny_frameOf_fun hfr hl hf fun h1 w1=>g0 (wpAny_entryPlaceOf fun pl hpl=>?_));unfold EntryCells.newEntry newFields;refine g0 (p5 ?_ (hpl.sizeOk5 _ _ _ _ _));obtain⟨rec,hrec⟩:∃r:Obj,r = {cls:=.type "traceback",dict:=none,data:=.fields ([head,.ref L,.none,rawInt L,.none]++(if pl.isEmpty then List.replicate 6 Value.none else pl)).toArray}:=⟨_,rfl⟩
 rw [<- hrec];have e1:h1.get? e=some ob:=(w1.2.1 e nfr).trans he;have b1:base.StaysIn h1:=fun b o z=>(w1.2.1 b fun y=>by rw [(hl.mem y).1] at z;cases z).trans (hkb b o z);have e2:(h1.push rec).get? e=some ob:=g9 _ e1;have nT:h1.objs.size≠e:=t5 (gi e1);have d3:=g0a hd (·.setIfInBounds 1 (Value.ref h1.objs.size));refine g0m e2 hd hz (k _ ?_ ?_)
 ·have e3:=ny (Obj.mapFields (·.setIfInBounds 1 (Value.ref h1.objs.size))) e2 (g1a d3)
  have oth:∀b o,b≠e->h1.get? b=some o->((h1.push rec).update e (Obj.mapFields (·.setIfInBounds 1 (Value.ref h1.objs.size)))).get? b=some o:=fun b o z q=>by
   rw [mm _ _ (m5 z)];exact g9 _ q
  refine⟨fun b o z=>oth b o (fun y=>by rw [y,hen] at z;cases z) (b1 b o z),hen,hl.of_keeps fun b o z nf=>?_,_,_,h1.objs.size,rec,([head,.ref L,.none,rawInt L,.none]++(if pl.isEmpty then List.replicate 6 Value.none else pl)).toArray,e3,st ob _ hp,d3,by simp [hz],b1.fresh,nT,?_,by rw [hrec],?_⟩
  ·obtain⟨sl,q⟩:=w1.2.2 b o z
   exact⟨_,oth b _ (fun y=>by subst y;rw [he] at z;cases z;exact nf ws hd) q,rfl⟩
  ·rw [mm _ _ (m5 nT)]
   exact gp h1 (by rw [hrec];rfl)
  ·rcases hpl with rfl|⟨_,_,_,_,_,_,_,rfl⟩ <;> simp
 ·intro b o z nf
  obtain⟨sl,q⟩:=w1.2.2 b o z;refine⟨sl,?_⟩;rw [mm _ _ (fun y=>by subst y;rw [he] at z;cases z;exact nf ws hd)];exact g9 _ q
theorem off(x:Fly base l e P fl s.heap)(k:∀h',Fly base l e P .none h'->s.heap.UpToSlots h'->Q () {s with heap:=h'}): wpAny M A (setFlight (.ref e) none) Q E s:=by
 obtain⟨hkb,hen,hl,ob,ws,T,ot,us,e1,hp,hd,e2,e3,e4,e5,e6,e7⟩:=x;have z3:3<us.size:=(t6.mp e7).1;unfold setFlight;refine g0 (g1n e1 hd e2 ?_);rw [gx (show(Value.ref T != Value.none)=true by simp)];have oth:∀b,b≠T->(s.heap.update T (Obj.mapFields (·.setIfInBounds 3 ((none:Option Addr).elim Value.none fun f=>rawInt f)))).get? b=s.heap.get? b:=fun b z=>mm _ _ (m5 z);have nT:∀b o,s.heap.get? b=some o->(∀vs,o.data ≠ .fields vs)->b≠T:=fun b o z nf y=>by subst y;rw [e5] at z;cases z;exact nf us e6
 refine g0m e5 e6 z3 (k _ ⟨fun b o z=>(oth b fun y=>by rw [y,e3] at z;cases z).trans (hkb b o z),hen,hl.of_keeps fun b o z nf=>⟨o,(oth b (nT b o z nf)).trans z,rfl⟩,ob,ws,T,_,_,(oth e (m5 e4)).trans e1,hp,hd,e2,e3,e4,
  ny _ e5 (g1a (g0a e6 _)),g0a e6 _,by simp [z3]⟩ fun b o z nf=>⟨o.slots,(oth b (nT b o z nf)).trans z⟩)
theorem first{ob:Obj}{ws:Array Value}(st:Stable P)(hfr:A.frames=some (env :: outer))(hl:s.heap.FunFrames base (env :: outer))(hf:env.frame=some L)(he:s.heap.get? e=some ob)(hkb:base.StaysIn s.heap)(hen:base.get? e=none)(hp:P ob)(hd:ob.data=.fields ws)(h1:ws[1]? = some .none)
  (k:∀h',Fly base outer e P .none h'->s.heap.UpToSlots h'->Q () {s with heap:=h'}):wpAny M A (leaving env (.ref e)) Q E s:=by
 unfold leaving noteFrame;simp only [hf];refine g0 (g0 (g1n he hd h1 ?_));rw [m8 (by decide)];refine entry st hfr hl hf he hkb hen hp hd (t6.mp h1).1 fun h' x u=>off x fun h2 y u2=>?_;obtain⟨y1,y2,⟨_,_,y3⟩,y4⟩:=y;exact k h2 ⟨y1,y2,y3,y4⟩ (u.trans u2)
theorem note(st:Stable P)(hfr:A.frames=some (env :: outer))(hf:env.frame=some L)(x:Fly base (env :: outer) e P .none s.heap)
  (k:∀h',Fly base (env :: outer) e P (rawInt L) h'->s.heap.UpToSlots h'->Q () {s with heap:=h'}):wpAny M A (noteFrame (.ref e) env) Q E s:=by
 obtain⟨hkb,hen,hl,ob,ws,T,ot,us,e1,hp,hd,e2,e3,e4,e5,e6,e7⟩:=x;unfold noteFrame;simp only [hf];refine g0 (g1n e1 hd e2 ?_);rw [gx (show(Value.ref T != Value.none)=true by simp)];refine g0 (g1n e5 e6 e7 ?_);rw [m8 (show ¬((Value.none==rawInt L)=true) by simp [rawInt])];refine g0 (g0m e5 e6 (t6.mp e7).1 ?_);have oth:∀b,b≠T->(s.heap.update T (Obj.mapFields (·.setIfInBounds 3 Value.none))).get? b=s.heap.get? b:=fun b z=>mm _ _ (m5 z);have nT:∀b o,s.heap.get? b=some o->(∀vs,o.data ≠ .fields vs)->b≠T:=fun b o z nf y=>by subst y;rw [e5] at z;cases z;exact nf us e6
 refine entry st hfr (hl.of_keeps fun b o z nf=>⟨o,(oth b (nT b o z nf)).trans z,rfl⟩) hf ((oth e (m5 e4)).trans e1) (fun b o z=>(oth b fun y=>by rw [y,e3] at z;cases z).trans (hkb b o z)) hen hp hd (t6.mp e2).1 fun h' y u=>k h' y fun b o z nf=>u b o ((oth b (nT b o z nf)).trans z) nf
theorem pass(st:Stable P)(hfr:A.frames=some (env :: outer))(hf:env.frame=some L)(x:Fly base (env :: outer) e P .none s.heap)
  (k:∀h',Fly base outer e P .none h'->s.heap.UpToSlots h'->Q () {s with heap:=h'}):wpAny M A (leaving env (.ref e)) Q E s:=by
 unfold leaving;refine g0 (note st hfr hf x fun h' y u=>off y fun h2 z u2=>?_);obtain⟨y1,y2,⟨_,_,y3⟩,y4⟩:=z;exact k h2 ⟨y1,y2,y3,y4⟩ (u.trans u2)
end
end Fl
namespace DL
open PySem PySem.Spec PyProof.Rows L2
def PX(C:Addr)(od:Option Addr): Obj->Prop:=fun o=>o.cls=.ref C/\o.dict=od
theorem PX.st{C:Addr}{od:Option Addr}: Fl.Stable (PX C od):=fun o x h=>by
 obtain⟨oc,odd,dt,sl⟩:=o;cases dt <;> exact h
def CXR(P:Program)(w:World): CXT:=fun outer H s E e s'=>s'.os=s.os/\AllBare s'.gens/\∃(B:Heap) (H':Hp) (a C:Addr) (od:Option Addr),e=.ref a /\
 Fl.Fly B outer a (PX C od) .none s'.heap/\(∀h6,B.StaysIn h6->s'.heap.UpToSlots h6->Un (frs outer) [] H H' s.heap h6/\HOk P w H' h6) /\
 s.heap.get? a=none/\H' a=none/\E (.ref C) od H'
theorem has_obj{P:Program}{w:World}{H:Hp}{h:Heap}{a:Addr}{o:HO}(x:ObjOk P w H h a o): ∃ob,h.get? a=some ob:=by
 cases o with
 | lst xs=>obtain⟨_,_,_,_,e⟩:=x;exact⟨_,e⟩
 | tup xs=>obtain⟨_,_,_,ob,e,_⟩:=x;exact⟨_,e⟩
 | dK kvs=>obtain⟨_,_,_,_,o,_,_,e,_⟩:=x;exact⟨_,e⟩
 | dT kvs=>obtain⟨_,_,_,_,o,_,_,e,_⟩:=x;exact⟨_,e⟩
 | set S n=>obtain⟨o,_,_,_,e,_⟩:=x;exact⟨_,e⟩
 | ins C dx fs=>obtain⟨_,_,_,e,_⟩:=x;exact⟨_,e⟩
 | own y=>obtain⟨_,e⟩:=x;exact⟨_,e⟩
 | xd fs=>obtain⟨_,⟨_,_,_,e,_⟩,_⟩:=x;exact⟨_,e⟩
 | rng lo hi=>obtain⟨_,_,_,e⟩:=x;exact⟨_,e⟩
 | frz ob u=>obtain⟨e,_⟩:=x;exact⟨_,e⟩
 | tbl ps=>exact⟨_,(show h.get? a=some _ from x)⟩
 | met f y=>exact⟨_,(show h.get? a=some _ from x)⟩
 | ext φ =>obtain⟨_,⟨_,e⟩,_⟩:=x;exact⟨_,e⟩
section
variable{P:Program}{w:World}{K:Frag}{mg:Str->Option Value}{base:Heap}{N:List Str}{qual:Str}{scope:Scope}{f:Addr}{cd:Value}{A:Around}{outer:List Env}{s0:Shared}{H0:Hp}{E:XK}
variable{pins:List (Addr×Obj)}{σ : St}{H:Hp}{s:Shared}
theorem qfm{l:List Env}: (envOfC qual scope s0.heap.objs.size f cd :: l).filterMap (·.frame)=s0.heap.objs.size :: l.filterMap (·.frame):=rfl
theorem qao{C e:Addr}{od:Option Addr}{ob:Obj}{ws:Array Value}(I:Inv (z5 (CXR P w) P w K mg base N qual scope f cd A outer s0 H0 E) pins σ H s)(he:s.heap.get? e=some ob)(hp:PX C od ob)(hd:ob.data=.fields ws)(hw1:ws[1]? = some .none)(hH:H e=none)(hs0:s0.heap.get? e=none)(q:E (.ref C) od H):
  (z5 (CXR P w) P w K mg base N qual scope f cd A outer s0 H0 E).xe (.ref e) s:=by
 have hfr:=I.ok.frames;have hst:=I.stack;obtain⟨hid,hhid⟩:∃l,l=e :: (envOfC qual scope s0.heap.objs.size f cd :: outer).filterMap (·.frame):=⟨_,rfl⟩
 have hin:∀env∈(envOfC qual scope s0.heap.objs.size f cd :: outer),∀b,env.frame=some b->b∈hid:=fun env he b hb=>by rw [hhid];exact gy _ (g1u.mpr ⟨env,he,hb⟩)
 have hen:(PySem.W.hideAll s.heap hid).get? e=none:=PySem.W.hideAll_none _ (by rw [hhid];exact gv);refine Fl.first (base:=PySem.W.hideAll s.heap hid) PX.st hfr (PySem.W.funFrames_hide hst hin) rfl he (fun b o q=>PySem.W.of_hideAll _ q) hen hp hd hw1 fun h2 x1 x4=>?_;have stays:∀h6,(PySem.W.hideAll s.heap hid).StaysIn h6->∀b o,s.heap.get? b=some o->b≠e->b∉(envOfC qual scope s0.heap.objs.size f cd :: outer).filterMap (·.frame)->h6.get? b=some o:=
  fun h6 st b o e1 ne n=>st b o (PySem.W.hideAll_get _ e1 (by rw [hhid];intro z;exact(m4.mp z).elim ne n))
 have there0:∀b o,s0.heap.get? b=some o->∃o',s.heap.get? b=some o':=fun b o e=>I.base.there b o e (by intro z;cases z);have ne0:∀b o,s0.heap.get? b=some o->b≠e:=fun b o e1 z=>by subst z;rw [hs0] at e1;cases e1
 have any:∀h6,(PySem.W.hideAll s.heap hid).StaysIn h6->h2.UpToSlots h6->∀b o,s.heap.get? b=some o->b≠e->∃sl,h6.get? b=some {o with slots:=sl}:=fun h6 st u b o e1 ne=>by
  by_cases hb:b∈(envOfC qual scope s0.heap.objs.size f cd :: outer).filterMap (·.frame)
  ·obtain⟨_,o',e',nf⟩:=hst.mem hb
   rw [e1] at e';cases e';exact(x4.trans u) b o e1 nf
  ·exact⟨o.slots,stays h6 st b o e1 ne hb⟩
 refine⟨I.os,I.bare,_,H,e,C,od,rfl,x1,fun h6 st u=>⟨⟨fun b o e1 n hb _=>?_,fun b o e1 n hb _=>?_,fun b o e n _=>?_,fun b o e1 _=>?_,fun b xs e=>I.base.tups b xs e,fun b o xs e=>I.base.frzs b o xs e,fun b ps e=>I.base.tbls b ps e⟩,fun b o e1=>?_⟩,hs0,hH,q⟩
 ·have e2:=I.base.keep b o e1 n hb (by intro z;cases z)
  refine stays h6 st b o e2 (ne0 b o e1) fun z=>?_;rw [qfm] at z;rcases m4.mp z with z|z
  ·rw [z] at e1;exact absurd (gi e1) (ua _)
  ·exact hb z
 ·obtain⟨sl,e2⟩:=I.base.slot b o e1 n hb (by intro z;cases z)
  obtain⟨sl',e3⟩:=any h6 st u b _ e2 (ne0 b o e1);exact⟨sl',e3⟩
 ·exact I.base.free b o e n (by intro z;cases z)
 ·obtain⟨o',e2⟩:=there0 b o e1
  obtain⟨sl,e3⟩:=any h6 st u b o' e2 (ne0 b o e1);exact⟨_,e3⟩
 ·refine(I.hok b o e1).stay (fun c v hc r=>?_) (fun _ z=>z) fun _ _ z=>z
  have nc:c≠e:=fun z=>by
   subst z;rcases hc with hc|hc
   ·rw [hc,e1] at hH;cases hH
   ·rw [hH] at hc;cases hc
  refine stays h6 st c v r nc fun z=>?_;have n:=I.stkFree c z;rcases hc with hc|hc
  ·rw [hc,e1] at n;cases n
  ·rw [n] at hc;cases hc
theorem qec{C e:Addr}{vs:List Value}{h':Heap}(I:Inv (z5 (CXR P w) P w K mg base N qual scope f cd A outer s0 H0 E) pins σ H s)(hx:Heap.MadeExcOf s.heap h' e (.ref C) vs)(q:E (.ref C) none H):
  (z5 (CXR P w) P w K mg base N qual scope f cd A outer s0 H0 E).xe (.ref e) {s with heap:=h'}:=by
 obtain⟨t,he,_⟩:=hx.there;refine qao (I.kept (t':=s.toks) hx.keeps) he ⟨rfl,rfl⟩ rfl rfl ?_ ?_ q
 ·cases z:H e with
  | none=>rfl
  | some o=>
   obtain⟨ob,e1⟩:=has_obj (I.hok e o z);rw [hx.new] at e1;cases e1
 ·cases z:s0.heap.get? e with
  | none=>rfl
  | some o=>
   obtain⟨o',e1⟩:=I.base.there e o z (by intro z;cases z);rw [hx.new] at e1;cases e1
end
abbrev vB:List Value:=[.type "ValueError",.type "Exception",.type "BaseException",.type "object"]
theorem qfn:vB.contains (.type "BaseException")=true:=g0g.hasBase
abbrev q5q(K:Frag)(C:Addr): Prop:=PySem.W.excIn K C vB "ValueError.__new__" = true
theorem qod{K:Frag}{h:Heap}{C:Addr}(X:K.In h)(q:q5q K C): ∃bm N nm q bs hdct sn sub ab col dd k0 k1 k2 k3 k5 mN,h.get? C=some (excClassObj nm q C N bs bm hdct sn sub ab col dd k0 k1 k2 k3 k5 "ValueError.__new__")/\h.Ns N mN/\mN "__init__" = none/\OwnTail h vB bm:=by
 unfold q5q PySem.W.excIn at q
 split at q
 ·rename_i dd cd sl ho
  split at q
  ·rename_i C' bm k0 k1 k2 k3 n k5 hm hs
   simp only [mf,uc,Bool.not_eq_true'] at q;obtain⟨⟨⟨⟨⟨rfl,rfl⟩,hdel⟩,ht⟩,hok⟩,hni⟩:=q;obtain⟨nm,bs,mro,ns,qn,hd,sn,sub,ab,col,del⟩:=cd;dsimp only at hm hdel hok hni;subst hm hdel;have hsl:sl = #[k0,k1,k2,k3,some (.builtin "ValueError.__new__"),k5]:=by
    obtain⟨l⟩:=sl;simp only at hs;rw [hs]
   subst hsl;exact⟨bm,ns,nm,qn,bs,hd,sn,sub,ab,col,dd,k0,k1,k2,k3,k5,_,X _ _ ho,.of_isNs (PySem.W.isNs_of_in X hok),PySem.W.nsMap_none_of_in X hok hni,PySem.W.tail_of_in X ht⟩
  ·cases q
 ·cases q
section
variable{P:Program}{w:World}{K:Frag}{mg:Str->Option Value}{base:Heap}{N:List Str}{qual:Str}{scope:Scope}{f:Addr}{cd:Value}{A:Around}{outer:List Env}{s0:Shared}{H0:Hp}{E:XK}
theorem qlp{C:Addr}{x m:Str}{np p2 cpos pos:Pos}{j}(hC:q5q K C)(hg:Gl (z5 (CXR P w) P w K mg base N qual scope f cd A outer s0 H0 E) x)(hm:mg x=some (.ref C))(hd:(x==("__debug__" : Str))=false:=by decide):
  PS (z5 (CXR P w) P w K mg base N qual scope f cd A outer s0 H0 E) (.Raise (some (.Call (.Name x np) [.Constant (.str m) j p2] [] cpos)) none pos) (fun _ _ H=>E (.ref C) none H):=by
 intro pins s σ H D I q;obtain⟨tl,N,nm,qn,bs,hdct,sn,sub,ab,col,dd,k0,k1,k2,k3,k5,mN,hC,hN,hni,T⟩:=qod I.kIn hC;refine wpAny_Raise_call_subT (C:=C) (nm:=nm) (q:=qn) (N:=N) (bs:=bs) (bm:=tl) (hdct:=hdct) (sn:=sn) (sub:=sub) (ab:=ab) (col:=col) (dd:=dd) (k0:=k0) (k1:=k1) (k2:=k2) (k3:=k3) (k5:=k5)
  g0g (mN:=mN) (T.hasType qfn) (I.ok.hd rfl) rfl hni (kb I hg hm ⟨rfl,?_⟩ hd)
 refine g2r (Calls.spliced_cons ?_);show wpAny _ _ (eval (Expr.Constant (Const.str m) j p2) _) _ _ _;refine g1t ?_;show wpAny _ _ (spliced []) _ _ _;refine Calls.spliced_nil ⟨rfl,(by show 1<=sizeLine;decide),hC,hN,T,fun h' e hx=>?_⟩;exact qec (I.tok _) hx q
end
section
variable{X:Cx}{pins:List (Addr×Obj)}{σ σ1:St}{H H1:Hp}{s s1:Shared}
theorem qcv{p:Addr}{o:HO}(I0:Inv X pins σ H s)(hp0:s.heap.get? p=none)(I:Inv X pins σ1 H1 s1)(hp:H1 p=none)(new:ObjOk X.prog X.w (upd H1 p o) s1.heap p o): Inv X pins σ1 (upd H1 p o) s1:=by
 have ne:∀ {b:Addr} {u:HO},H1 b=some u->upd H1 p o b=some u:=fun {b u} e=>by rw [qy (xb e hp)];exact e
 have nz:∀b ob,s.heap.get? b=some ob->b≠p:=fun b ob e z=>by subst z;rw [hp0] at e;cases e
 refine⟨I.ok,I.os,I.bare,⟨I.base.keep,I.base.slot,fun b ob e n hx=>?_,I.base.there,fun b xs e=>ne (I.base.tups b xs e),fun b ob xs e=>ne (I.base.frzs b ob xs e),fun b ps e=>?_⟩,I.loc,I.cell,?_,fun y c e=>?_,fun q hq=>?_,fun b u e=>?_,I.len⟩
 ·obtain⟨o',e1⟩:=I0.base.there b ob e hx
  rw [qy (nz b o' e1)];exact I.base.free b ob e n hx
 ·obtain⟨more,e1⟩:=I.base.tbls b ps e
  exact⟨more,ne e1⟩
 ·obtain⟨m,⟨ob,_,_,ho,_⟩,_⟩:=I0.loc
  rw [qy (nz _ ob ho)];exact I.free
 ·obtain⟨v,ob,ho,_⟩:=I0.cell y c e
  rw [qy (nz _ ob ho)];exact I.freeC y c e
 ·obtain⟨e1,e2,e3⟩:=I.pin q hq
  obtain⟨f1,_⟩:=I0.pin q hq;exact⟨e1,by rw [qy (nz _ _ f1)];exact e2,e3⟩
 ·by_cases hb:b=p
  ·subst hb;rw [z9] at e;cases e;exact new
  ·rw [qy hb] at e
   exact(I.hok b u e).stay (fun c v _ q=>q) (fun c q=>ne q) fun c xs q=>ne q
abbrev inX(X:Cx)(a:Addr): Cx:={X with A:=X.A.mark (some (.ref a)),calm:=false,xe:=fun _ _=>False}
theorem qr6{a:Addr}(ok:X.Ok): (inX X a).Ok:=
 ⟨ok.mod,ok.kind,ok.glob,ok.blt,ok.above,ok.inj,ok.has,ok.cab,(fun z=>by cases z),ok.frames,ok.stk,ok.exf,ok.bs,ok.bsz,ok.noex,ok.exfs,ok.funs,ok.frf⟩
theorem q9s{a:Addr}(I:Inv X pins σ H s): Inv (inX X a) pins σ H s:=⟨qr6 I.ok,I.os,I.bare,I.base,I.loc,I.cell,I.free,I.freeC,I.pin,I.hok,I.len⟩
theorem q4s{a:Addr}(ok:X.Ok)(I:Inv (inX X a) pins σ H s): Inv X pins σ H s:=⟨ok,I.os,I.bare,I.base,I.loc,I.cell,I.free,I.freeC,I.pin,I.hok,I.len⟩
end
def qlq(i:Nat)(D:Ends): Ends:={nx:=fun σ H=>D.nx (σ.set i none) H,rt:=D.rt,bk:=fun σ H=>D.bk (σ.set i none) H,ct:=fun σ H=>D.ct (σ.set i none) H}
section
variable{X:Cx}{pins:List (Addr×Obj)}{σ : St}{H:Hp}{s:Shared}
theorem name_goes{M:Model}{A:Around}{E:Value->Shared->Prop}{i:Nat}{n:Str}{pos:Pos}{Q:Unit->Shared->Prop}(I:Inv X pins σ H s)(hN:X.N.Nodup)(hi:X.N[i]? = some n)(hx:X.env.scope.names.lookup n=some .local)
  (h:∀s',Inv X pins (σ.set i none) H s'->Q () s'):wpAny M A (do bindName X.env n .none;unbindBehindTheSuite X.env n pos) Q E s:=by
 obtain⟨m,hn,hl⟩:=id I.loc;have hcls:(X.env.scope.kind == .class || (X.env.scope.kind == .module&&X.env.locals != X.env.globals))=false:=by rw [I.ok.kind];rfl
 refine wpAny_nameGoes_keeps hx hn hcls fun h' v hn' hs=>h _ ?_;have same:∀b o,b≠X.env.locals->s.heap.get? b=some o->h'.get? b=some o:=fun b o q e=>(hs.2 b q).trans e;have l0:∀b o,X.s₀.heap.get? b=some o->b≠X.env.locals:=fun b o e=>gw (gj (gi e) I.ok.above);refine⟨I.ok,I.os,I.bare,⟨fun b o e n hb hx=>?_,fun b o e n hb hx=>?_,I.base.free,fun b o e hx=>?_,I.base.tups,I.base.frzs,I.base.tbls⟩,⟨_,hn',fun j y v' e1 e2 e3=>?_⟩,fun y c e=>?_,I.free,I.freeC,fun p hp=>?_,fun b u e=>?_,by simpa using I.len⟩
 ·exact same b o (l0 b o e) (I.base.keep b o e n hb hx)
 ·obtain⟨sl,e1⟩:=I.base.slot b o e n hb hx
  exact⟨sl,same b _ (l0 b o e) e1⟩
 ·obtain⟨o',e1⟩:=I.base.there b o e hx
  exact⟨o',same b _ (l0 b o e) e1⟩
 ·by_cases hj:j=i
  ·subst hj
   rw [g28] at e2;simp only [pz] at e2
   split at e2 <;> cases e2
  ·rw [gc (m5 hj)] at e2
   obtain⟨u,r,l⟩:=hl j y v' e1 e2 e3;have hy:y≠n:=fun z=>by
    subst z;exact hj ((List.getElem?_inj (mj.mp e1).1 hN).mp (e1.trans hi.symm))
   refine⟨u,r,?_⟩;rcases l with⟨k,l⟩|⟨k,c,e,z⟩
   ·exact .inl ⟨k,(show(if y=n then v else m y)=m y from m8 hy).trans l⟩
   ·obtain⟨o,ho,hd⟩:=z
    exact .inr ⟨k,c,e,o,same c o (I.cne y c e) ho,hd⟩
 ·obtain⟨v',o,ho,hd⟩:=I.cell y c e
  exact⟨v',o,same c o (I.cne y c e) ho,hd⟩
 ·obtain⟨e1,e2,e3,e4,e5⟩:=I.pin p hp
  exact⟨same _ _ e3 e1,e2,e3,e4,e5⟩
 ·refine(I.hok b u e).stay (fun c w' hc q=>same c _ ?_ q) (fun _ q=>q) fun _ _ q=>q
  rintro rfl
  rcases hc with hc|hc
  ·rw [<- hc,I.free] at e;cases e
  ·rw [I.free] at hc;cases hc
theorem qr7{D:Ends}{f:Flow}{s':Shared}{a:Addr}{i:Nat}{n:Str}{pos:Pos}{M:Model}{A:Around}{E:Value->Shared->Prop}(ok:X.Ok)(hN:X.N.Nodup)(hi:X.N[i]? = some n)(hx:X.env.scope.names.lookup n=some .local)(h:SP (inX X a) pins (qlq i D) f s'):
  wpAny M A (do bindName X.env n .none;unbindBehindTheSuite X.env n pos) (fun _ s5=>SP X pins D f s5) E s':=by
 cases f with
 | next=>obtain⟨σ',H',I,q⟩:=h;exact name_goes (q4s ok I) hN hi hx fun s5 I5=>⟨_,H',I5,q⟩
 | brk=>obtain⟨σ',H',I,q⟩:=h;exact name_goes (q4s ok I) hN hi hx fun s5 I5=>⟨_,H',I5,q⟩
 | cont=>obtain⟨σ',H',I,q⟩:=h;exact name_goes (q4s ok I) hN hi hx fun s5 I5=>⟨_,H',I5,q⟩
 | ret u=>obtain⟨v, σ',H',I,r,q⟩:=h;exact name_goes (q4s ok I) hN hi hx fun s5 I5=>⟨v,_,H',I5,r,q⟩
end
end DL
namespace DL
open PySem PySem.Spec PyProof.Rows L2
variable[Lam][Pin]
def q5r(n:Nat)(ds:List D): Rho:=ds.map (fun d=>some (.fz d))++List.replicate (n-ds.length) none
theorem qlr{K:Frag}{F H:Hp}{N:List Str}{ds:List D}{vs:List V}(fh:SameT F H)(rl:RepL K F ds vs)(hl:ds.length<=N.length): RS K F H F H (L2.start N vs) (q5r N.length ds):=by
 have hlen:=rl.length;have no:∀ {i:Nat} {b:B},(q5r N.length ds)[i]? = some (some b)->∃d,ds[i]? = some d/\b=.fz d:=fun {i b} h1=>by
  unfold q5r at h1
  by_cases hi:i<ds.length
  ·rw [nt (by simpa using hi),gz] at h1
   cases z:ds[i]? with
   | none=>rw [z] at h1;cases h1
   | some d'=>rw [z] at h1;cases h1;exact⟨d',rfl,rfl⟩
  ·rw [p8 (by simpa using hi),pw] at h1
   split at h1 <;> cases h1
 exact {
  t0:=⟨fh.t,fh.f⟩
  g:=.refl fh.s
  len:=by unfold L2.start q5r;simp only [mn,gr,g2l];lia
  fz:=fun i e h1=>by
   obtain⟨d,z,e1⟩:=no h1;cases e1;obtain⟨v,e1,e2⟩:=rl.get z;exact⟨v,qag e1,e2⟩
  ow:=fun i es h1=>by obtain⟨d,z,e1⟩:=no h1;cases e1
  dj:=fun i j us es a _ h1=>by obtain⟨d,z,e1⟩:=no h1;cases e1
  od:=fun i us h1=>by obtain⟨d,z,e1⟩:=no h1;cases e1
  o1:=fun i j us es h1=>by obtain⟨d,z,e1⟩:=no h1;cases e1}
section
variable{X:Cx}{K:Frag}{F0 H0 F H:Hp}{σ : St}{ρ : Rho}
theorem RS.unset(r:RS K F0 H0 F H σ ρ)(i:Nat): RS K F0 H0 F H (σ.set i none) (ρ.set i none):=by
 have back:∀ {j:Nat} {b:B},(ρ.set i none)[j]? = some (some b)->j≠i /\ ρ[j]? = some (some b):=fun {j b} h=>by
  by_cases q:j=i
  ·subst q;obtain⟨z,_⟩:=za h;cases z
  ·rw [gc (m5 q)] at h;exact⟨q,h⟩
 exact {
  t0:=r.t0
  g:=r.g
  len:=by rw [u6,u6];exact r.len
  fz:=fun j e h=>by
   obtain⟨q,h⟩:=back h;rw [gc (m5 q)];exact r.fz j e h
  ow:=fun j e h=>by
   obtain⟨q,h⟩:=back h;rw [gc (m5 q)];exact r.ow j e h
  dj:=fun j k ds es a hjk h1 h2 h3=>by
   obtain⟨q1,h1⟩:=back h1;obtain⟨q2,h2⟩:=back h2;rw [gc (m5 q1)] at h3;rw [gc (m5 q2)];exact r.dj j k ds es a hjk h1 h2 h3
  od:=fun j kvs h=>by
   obtain⟨q,h⟩:=back h;obtain⟨a,bs,e1,e2,e3⟩:=r.od j kvs h;rw [gc (m5 q)];refine⟨a,bs,e1,e2,fun k es b h2 h3=>?_⟩;obtain⟨q2,h2⟩:=back h2;rw [gc (m5 q2)];exact e3 k es b h2 h3
  o1:=fun j k k1 k2 h1 h2=>by
   obtain⟨q1,h1⟩:=back h1;obtain⟨q2,h2⟩:=back h2;exact r.o1 j k k1 k2 h1 h2}
def isX(x:Str)(b:Bool): D->Option D
 | .exc y _=>if x=y then some (.bl b) else none
 | _=>none
theorem q7n{x:Str}{b:Bool}{d d':D}(h:isX x b d=some d'): ∃f,d=.exc x f/\d'=.bl b:=by
 unfold isX at h
 split at h
 ·split at h
  ·rename_i e;subst e;cases h;exact⟨_,rfl,rfl⟩
  ·cases h
 ·cases h
theorem qcw{x:Str}{b:Bool}{C:Addr}{v2:V}{c:Value}(hns:PySem.W.nsIn X.K mainGlobals x=some (some (.ref C)))(hv:∀u,RelV v2 u->u=c)(hk:PySem.W.kitOne X.K (.ref C) c=some b):
  xv X (.builtin "isinstance") (fun xs H Q=>∃y F f,xs=[y,v2]/\Same F H/\Rep X.K F (.exc x f) y/\Q (.bl b) H):=by
 intro pins s σ H xs us Q I r h;obtain⟨y,F,fx,rfl,fh,rd,q⟩:=h;obtain⟨u,w',rfl,rx,rt⟩:=r.two;obtain rfl:=hv _ rt;obtain⟨a,C',rfl,⟨od',h1,_⟩,h2,c1,c2⟩:=rep_exc.mp rd;rw [hns] at h2;cases h2;cases rx;obtain⟨J,_,_⟩:=(show ObjOk X.prog X.w H s.heap a _ from I.hok a _ (fh _ _ h1))
 exact g2u (q7f c1) I.kIn J hk (fun z=>nomatch z) (fun tk=>⟨.bl _,H,I.tok _,rfl,q⟩)
variable{e:Expr}{pos:Pos}{f:FE}
theorem qfo{x y:Str}{b:Bool}{C C2:Addr}{p px:Pos}(hns:PySem.W.nsIn X.K mainGlobals x=some (some (.ref C)))(hk:PySem.W.kitOne X.K (.ref C) (.ref C2)=some b)(hg:Gl X "isinstance")(hm:X.mg "isinstance" = none)(hgT:Gl X y)(hmT:X.mg y=some (.ref C2))(ha:PE X e (tD X.K f))
  (hdT:(y==("__debug__" : Str))=false:=by decide) (he2:starEach [e,.Name y px] X.env=(false,eval e X.env) :: starEach [.Name y px] X.env:=by rfl) :
  PE X (.Call (.Name "isinstance" p) [e,.Name y px] [] pos) (tD X.K (eUn (isX x b) f)):=
 je (q0z (qcw (v2:=.ref C2) hns (fun u h=>by cases h;rfl) hk) hg hm q4j (zr ha (zr (vv (v:=.ref C2) hgT hmT rfl hdT) yj) he2) (by decide) (by decide) he2 rfl) fun σ H Q ⟨F0,H0,F, ρ,d,r,hf,q⟩=>by
  obtain⟨d',h1,h2⟩:=g8.mp hf;obtain⟨fx,rfl,rfl⟩:=q7n h2;exact⟨F0,H0,F, ρ,_,r,h1,fun v F' H' g' r'=>⟨v,F',fx,rfl,g'.fh,r',q _ F' H' g' (rep_bl.mpr rfl)⟩⟩
theorem qfp{x y:Str}{b:Bool}{C:Addr}{T:String}{p px:Pos}(hns:PySem.W.nsIn X.K mainGlobals x=some (some (.ref C)))(hk:PySem.W.kitOne X.K (.ref C) (.type T)=some b)(hg:Gl X "isinstance")(hm:X.mg "isinstance" = none)(hgT:Gl X y)(hmT:X.mg y=none)(hvT:bootBuiltins y=some (.type T))(ha:PE X e (tD X.K f))
  (hnT:y≠"__name__" :=by decide) (hdT:(y==("__debug__" : Str))=false:=by decide) (he2:starEach [e,.Name y px] X.env=(false,eval e X.env) :: starEach [.Name y px] X.env:=by rfl) :
  PE X (.Call (.Name "isinstance" p) [e,.Name y px] [] pos) (tD X.K (eUn (isX x b) f)):=
 je (q0z (qcw (v2:=.ty T) hns (fun u h=>by cases h;rfl) hk) hg hm q4j (zr ha (zr (qf0 (v:=.ty T) hgT hmT hvT rfl hnT hdT) yj) he2) (by decide) (by decide) he2 rfl) fun σ H Q ⟨F0,H0,F, ρ,d,r,hf,q⟩=>by
  obtain⟨d',h1,h2⟩:=g8.mp hf;obtain⟨fx,rfl,rfl⟩:=q7n h2;exact⟨F0,H0,F, ρ,_,r,h1,fun v F' H' g' r'=>⟨v,F',fx,rfl,g'.fh,r',q _ F' H' g' (rep_bl.mpr rfl)⟩⟩
theorem qap:∀ {Cs:List Addr} {us:List Value},Vals (Cs.map V.ref) us->us=Cs.map Value.ref
 | [],_,h=>by cases h;rfl
 | _ :: _,_,h=>by cases h with|cons p q=>cases p;rw [qap q];rfl
theorem qjn{x:Str}{b:Bool}{C:Addr}{Cs:List Addr}(hns:PySem.W.nsIn X.K mainGlobals x=some (some (.ref C)))(hk:PySem.W.kitAny X.K (.ref C) (Cs.map Value.ref)=some b):
  xv X (.builtin "isinstance") (fun xs H Q=>∃y F p f,xs=[y,.ref p]/\H p=some (.tup (Cs.map V.ref))/\Same F H/\Rep X.K F (.exc x f) y/\Q (.bl b) H):=by
 intro pins s σ H xs us Q I r h;obtain⟨y,F,p,fx,rfl,hp,fh,rd,q⟩:=h;obtain⟨u,w',rfl,rx,rt⟩:=r.two;cases rt;obtain⟨a,C',rfl,⟨od',h1,_⟩,h2,c1,c2⟩:=rep_exc.mp rd;rw [hns] at h2;cases h2;cases rx;obtain⟨J,_,_⟩:=(show ObjOk X.prog X.w H s.heap a _ from I.hok a _ (fh _ _ h1))
 obtain⟨_,its,rv,⟨oc,od,dt,sl⟩,e1,e2,_,n,e3⟩:=(show ObjOk X.prog X.w H s.heap p _ from I.hok p _ hp)
 cases qap rv;dsimp only at e2 e3;subst e2 e3;exact PySem.W.kia_tup (q7f c1) I.kIn J e1 hk (fun z=>nomatch z) (fun tk=>⟨.bl _,H,I.tok _,rfl,q⟩)
theorem qfq{x:Str}{b:Bool}{C:Addr}{Cs:List Addr}{p px:Pos}{es:List Expr}{x1}{t:TA}(hns:PySem.W.nsIn X.K mainGlobals x=some (some (.ref C)))(hk:PySem.W.kitAny X.K (.ref C) (Cs.map Value.ref)=some b)(hg:Gl X "isinstance")(hm:X.mg "isinstance" = none)(hl:Cs.length<=sizeLine)
  (hes:PA X es t) (ht:∀ σ H Q,Q (Cs.map V.ref) H->t σ H Q) (ha:PE X e (tD X.K f)) (he2:starEach [e,.Tuple es x1 px] X.env=(false,eval e X.env) :: starEach [.Tuple es x1 px] X.env:=by rfl) :
  PE X (.Call (.Name "isinstance" p) [e,.Tuple es x1 px] [] pos) (tD X.K (eUn (isX x b) f)):=
 je (q0z (qjn hns hk) hg hm q4j (zr ha (zr (qii hes) yj) he2) (by decide) (by decide) he2 rfl) fun σ H Q ⟨F0,H0,F, ρ,d,r,hf,q⟩=>by
  obtain⟨d',h1,h2⟩:=g8.mp hf;obtain⟨fx,rfl,rfl⟩:=q7n h2;refine⟨F0,H0,F, ρ,_,r,h1,fun v F' H' g' r'=>ht _ _ _ ⟨by rw [gr];exact hl,fun p hp=>?_⟩⟩;have g2:Grow F' H' F' (upd H' p (.tup (Cs.map V.ref))):=Grow.own g'.fh hp;exact⟨v,F',p,fx,rfl,z9,g2.fh,r',q _ F' _ (g'.trans g2) (rep_bl.mpr rfl)⟩
end
end DL
namespace DL
open PySem
theorem qfr{K:Frag}{C:Addr}(h1:PySem.W.kitOne K (.ref C) (.type "int")=some false)(h2:PySem.W.kitOne K (.ref C) (.type "bool")=some false)(h3:PySem.W.kitOne K (.ref C) (.type "tuple")=some false)(h4:PySem.W.kitOne K (.ref C) (.type "list")=some false)
  (h5:PySem.W.kitOne K (.ref C) (.type "str")=some false) (h6:PySem.W.kitOne K (.ref C) (.type "dict")=some false):∀T:String,T∈["int","bool","tuple","list","str","dict"]->PySem.W.kitOne K (.ref C) (.type T)=some false:=by
 intro T hT;simp only [m4,g4f,g2i] at hT;rcases hT with rfl|rfl|rfl|rfl|rfl|rfl <;> assumption
end DL
namespace DL
open PySem PySem.Spec PyProof.Rows L2
variable[Lam][Pin]
section
variable{P:Program}{w:World}{K:Frag}{mg:Str->Option Value}{base:Heap}{N:List Str}{qual:Str}{scope:Scope}{f:Addr}{cd:Value}{A:Around}{outer:List Env}{s0:Shared}{H0:Hp}{E:XK}
theorem qsv:q5d (CXR P w) (z5 (CXR P w) P w K mg base N qual scope f cd A outer s0 H0 E) E:=by
 intro pins σ H s e s' I h;obtain⟨os,bare,B,H2,a,C,od,rfl,hfl,hun,hna,hH2,q⟩:=h;refine Fl.pass PX.st I.ok.frames rfl hfl fun h' x1 x2=>?_;have nl:∀b o,s0.heap.get? b=some o->b∉frs outer->b∉frs (envOfC qual scope s0.heap.objs.size f cd :: outer):=fun b o e n z=>by
  unfold frs at z;rw [qfm] at z;rcases m4.mp z with z|z
  ·rw [z] at e;exact absurd (gi e) (ua _)
  ·exact n z
 have nx:∀ {b:Addr},b∉([]:List Addr):=fun {b} z=>by cases z
 refine⟨os.trans I.os,bare,B,H2,a,C,od,rfl,x1,fun h6 st u=>?_,?_,hH2,q⟩
 ·obtain⟨un,hok⟩:=hun h6 st (x2.trans u)
  refine⟨⟨fun b o e n hb _=>?_,fun b o e n hb _=>?_,fun b o e n _=>?_,fun b o e _=>?_,fun b xs e=>un.tups b xs (I.base.tups b xs e),fun b o xs e=>un.frzs b o xs (I.base.frzs b o xs e),fun b ps e=>?_⟩,hok⟩
  ·exact un.keep b o (I.base.keep b o e n hb nx) (I.base.free b o e n nx) (nl b o e hb) nx
  ·obtain⟨sl,e1⟩:=I.base.slot b o e n hb nx
   obtain⟨sl',e2⟩:=un.any e1 (I.base.free b o e n nx) nx;exact⟨sl',e2⟩
  ·obtain⟨o',e1⟩:=I.base.there b o e nx
   exact un.free b o' e1 (I.base.free b o e n nx) nx
  ·obtain⟨o',e1⟩:=I.base.there b o e nx
   exact un.there b o' e1 nx
  ·obtain⟨m1,e1⟩:=I.base.tbls b ps e
   obtain⟨m2,e2⟩:=un.tbls b _ e1;exact⟨m1++m2,by rw [e2,g39]⟩
 ·cases z:s0.heap.get? a with
  | none=>rfl
  | some o=>
   obtain⟨o',e1⟩:=I.base.there a o z nx;rw [hna] at e1;cases e1
end
abbrev Flds:=List (Str×D)
def qr8(i:Nat)(ρ : Rho): Option (Str×Flds):=match ρ[i]? with
 | some (some (.od o))=>some o
 | _=>none
section
omit [Lam] [Pin]
variable{K:Frag}{F:Hp}
end
def less(H:Hp)(a:Addr): Hp:=fun b=>if b=a then none else H b
section
omit [Lam] [Pin]
theorem qjo{H:Hp}{a b:Addr}{o:HO}(h:less H a b=some o): H b=some o/\b≠a:=by
 unfold less at h
 split at h
 ·cases h
 ·exact⟨h,by assumption⟩
theorem qls{H:Hp}{a b:Addr}(h:b≠a): less H a b=H b:=m8 h
end
structure OB0(K:Frag)(F H H0:Hp)(a:Addr)(o:Str×Flds): Prop where
 ex:∃C dx vs,H a=some (.ins C dx vs)/\PySem.W.nsIn K mainGlobals o.1=some (some (.ref C))/\FsR K F o.2 vs
 f:F a=none
 z:H0 a=none
section
variable{K:Frag}{F0 H0 F H F' H':Hp}{σ : St}{ρ : Rho}
end
section
variable{X:Cx}{st:Stmt}{e o:Expr}{es:List Expr}{pos apos p px:Pos}{f g:FE}{fa:FA}
abbrev FM:=Rho->Option (D×Rho)
abbrev FAM:=Rho->Option (List D×Rho)
abbrev FTM:=Rho->Option (Bool×Rho)
def qr9(c:Str)(m:Str)(i ar:Nat)(op:Flds->List D->Option (Flds×D))(fa:FA): FM:=fun ρ =>(qr8 i ρ).bind fun o=>(fa ρ).bind fun ds=>if o.1=c/\ds.length=ar/\(o.2.lookup m).isNone=true then(op o.2 ds).map fun p=>(p.2, ρ.set i (some (.od (c,p.1)))) else none
variable{rest:List Expr}{a b:Expr}{t u:FTM}
end
end DL
namespace L2
open PySem PySem.Spec PyProof.Rows
section
variable{X:Cx}{CX:CXT}{k:Nat}{f C:Addr}{fd:FuncData}{ps ks:List Str}{sp:Sp}{E:XK}{x:Str}{p pos:Pos}{e:Expr}{es:List Expr}{kws:List Keyword}{t tk:TA}{g:List Value->List Value->List Value}{gV:List V->List V->List V}
end
end L2
namespace DL
open PySem PySem.Spec PyProof.Rows L2
variable[Lam][Pin]
section
variable{K:Frag}{F0 H0 F H F' H':Hp}{σ : St}{ρ : Rho}
end
section
variable{X:Cx}{e:Expr}{es:List Expr}{kws:List Keyword}{pos p px spos:Pos}{fa fk:FA}
end
abbrev XV:=Str×Option (Str×Int)
abbrev FX:=Rho->Option (XV×Rho)
def xOk(K:Frag)(F0 H0:Hp)(C:Addr)(p:XV)(ρ':Rho)(E:XK): Prop:=∀F' H' σ' od,RS K F0 H0 F' H' σ' ρ'->XF F' od p.2->E (.ref C) od H'
def tXS(K:Frag)(v:FX)(E:XK): TS:=fun _ σ H=>∃F0 H0 F ρ p ρ' C,RS K F0 H0 F H σ ρ /\ v ρ = some (p, ρ')/\PySem.W.nsIn K mainGlobals p.1=some (some (.ref C))/\xOk K F0 H0 C p ρ' E
def tXE(K:Frag)(v:FX)(E:XK): TE:=fun σ H _=>∃F0 H0 F ρ p ρ' C,RS K F0 H0 F H σ ρ /\ v ρ = some (p, ρ')/\PySem.W.nsIn K mainGlobals p.1=some (some (.ref C))/\xOk K F0 H0 C p ρ' E
def spR(K:Frag)(ar:Nat)(op:List D->Option XV): Sp:=fun vs H _ E=>∃F ds p C,SameT F H/\RepL K F ds vs/\ds.length=ar/\op ds=some p/\PySem.W.nsIn K mainGlobals p.1=some (some (.ref C))/\∀F' H' od,Grow F H F' H'->XF F' od p.2->E (.ref C) od H'
def k6:FX:=fun _=>none
def q8o(x:Str): FX:=fun ρ =>some ((x,none), ρ)
def xIf(t:FT)(a b:FX): FX:=fun ρ =>(t ρ).bind fun c=>if c then a ρ else b ρ
def ko(u:FS)(a b:FX): FX:=fun ρ =>(a ρ).or (match u ρ with|some (.nx, ρ')=>b ρ'|_=>none)
def q24(ar:Nat)(op:List D->Option XV)(fa:FA): FX:=fun ρ =>(fa ρ).bind fun ds=>if ds.length=ar then(op ds).map fun p=>(p, ρ) else none
theorem PS.nox{X:Cx}{st:Stmt}{t:TS}(h:PS X.nox st t): PS X st t:=fun pins s σ H D I hw=>
 n5 (h pins s σ H D (I.wish _) hw) (fun _ _ q=>q.unwish) fun _ _ z=>False.elim z
theorem PA.nox'{X:Cx}{es:List Expr}{t:TA}(h:PA X.nox es t): PA X es t:=fun pos pins s σ H Q I hw=>
 n5 (h pos pins s σ H Q (I.wish _) hw) (fun _ _ ⟨v,H',I',r,q⟩=>⟨v,H',I'.unwish,r,q⟩) fun _ _ z=>False.elim z
theorem PE.nox'{X:Cx}{e:Expr}{t:TE}(h:PE X.nox e t): PE X e t:=fun pins s σ H Q I hw=>
 n5 (h pins s σ H Q (I.wish _) hw) (fun _ _ ⟨v,H',I',r,q⟩=>⟨v,H',I'.unwish,r,q⟩) fun _ _ z=>False.elim z
section
variable{P:Program}{w:World}{K:Frag}{mg:Str->Option Value}{base:Heap}{N:List Str}{qual:Str}{scope:Scope}{f:Addr}{cd:Value}{A:Around}{outer:List Env}{s0:Shared}{H0:Hp}{E:XK}
variable{st:Stmt}{rest:List Stmt}{u:FS}{v v':FX}{t:FT}{pos:Pos}
theorem qlt{X:Cx}: PS X st (tXS K k6 E):=fun _ _ _ _ _ _ ⟨_,_,_,_,_,_,_,_,h,_⟩=>by cases h
theorem q1k{X:Cx}{sts:List Stmt}: PSs X sts (tXS K k6 E):=fun _ _ _ _ _ _ ⟨_,_,_,_,_,_,_,_,h,_⟩=>by cases h
theorem qcx{C:Addr}{x m:Str}{np p2 cpos:Pos}{j}(hC:q5q K C)(hg:Gl (z5 (CXR P w) P w K mg base N qual scope f cd A outer s0 H0 E) x)(hm:mg x=some (.ref C))(hns:PySem.W.nsIn K mainGlobals x=some (some (.ref C)))(hd:(x==("__debug__" : Str))=false:=by decide):
  PS (z5 (CXR P w) P w K mg base N qual scope f cd A outer s0 H0 E) (.Raise (some (.Call (.Name x np) [.Constant (.str m) j p2] [] cpos)) none pos) (tXS K (q8o x) E):=xy (qlp hC hg hm hd) fun D σ H ⟨F0,H0,F, ρ,y, ρ',C',r,hv,hn,hE⟩=>by
 cases hv;rw [hns] at hn;cases hn;exact hE _ _ _ none r trivial
theorem q8p{X:Cx}(h:PS X st (tXS K v E)): PSs X [st] (tXS K v E):=q9a h
theorem q5s{X:Cx}(h1:PS X st (tDS K u))(h1x:PS X st (tXS K v E))(h2x:PSs X rest (tXS K v' E)): PSs X (st :: rest) (tXS K (ko u v v') E):=by
 intro pins s σ H D I ⟨F0,H0,F, ρ,x, ρ',C,r,hv,hn,hE⟩;unfold ko at hv;cases h:v ρ with
 | some y=>
  rw [h,g1d] at hv;cases hv;refine g1h (thn (h1x pins s σ H {nx:=fun _ _=>False,rt:=fun _ _=>False} I ⟨F0,H0,F, ρ,x, ρ',C,r,h,hn,hE⟩) fun fl s1 q=>?_);cases fl with
  | next=>obtain⟨_,_,_,q⟩:=q;exact q.elim
  | brk=>obtain⟨_,_,_,q⟩:=q;exact q.elim
  | cont=>obtain⟨_,_,_,q⟩:=q;exact q.elim
  | ret z=>obtain⟨_,_,_,_,_,q⟩:=q;exact q.elim
 | none=>
  rw [h,g1e] at hv
  split at hv
  ·rename_i ρ1 hu
   refine g1h (thn (h1 pins s σ H {D with nx:=fun σ' H'=>tXS K v' E D σ' H'} I ⟨F0,H0,F, ρ,.nx, ρ1,r,hu,fun σ' F' H' s' r'=>⟨F0,H0,F', ρ1,x, ρ',C,r',hv,hn,hE⟩⟩) fun fl s1 q=>?_);cases fl with
   | next=>obtain⟨σ',H',I',q⟩:=q;exact h2x pins s1 σ' H' D I' q
   | brk=>exact q
   | cont=>exact q
   | ret z=>exact q
  ·cases hv
theorem qgw{X:Cx}{c:Expr}{a b:List Stmt}(hc:PT X c (tDT K t))(ha:PSs X a (tXS K v E))(hb:PSs X b (tXS K v' E)): PS X (.If c a b pos) (tXS K (xIf t v v') E):=xy (qg1 hc ha hb) fun D σ H ⟨F0,H0,F, ρ,x, ρ',C,r,hv,hn,hE⟩=>by
 obtain⟨d,h1,h2⟩:=g8.mp hv;refine⟨F0,H0,F, ρ,d,r,h1,fun F' H' g=>?_⟩;cases d with
 | true=>exact qks ⟨F0,H0,F', ρ,x, ρ',C,r.grow g,h2,hn,hE⟩
 | false=>exact qkr ⟨F0,H0,F', ρ,x, ρ',C,r.grow g,h2,hn,hE⟩
theorem qfs{k k' ar:Nat}{fn:Addr}{fd:FuncData}{ps:List Str}{op:List D->Option XV}{x:Str}{p:Pos}{e:Expr}{es:List Expr}{fa:FA}(G:FnOk P w K mg base (CXR P w) k fn fd ps (spR K ar op))(hr:Room k' (z5 (CXR P w) P w K mg base N qual scope f cd A outer s0 H0 E).A)(hk':k<=k')(hg:Gl (z5 (CXR P w) P w K mg base N qual scope f cd A outer s0 H0 E) x)(hm:mg x=some (.ref fn))(hk:PySem.W.keepIn K (.ref fn)=true)(hb:Binds K fd ps [])
  (ha:PA (z5 (CXR P w) P w K mg base N qual scope f cd A outer s0 H0 E).nox (e :: es) (tDA K fa)) (hdb:(x==("__debug__" : Str))=false:=by decide) (he:starEach (e :: es) (z5 (CXR P w) P w K mg base N qual scope f cd A outer s0 H0 E).env=(false,eval e (z5 (CXR P w) P w K mg base N qual scope f cd A outer s0 H0 E).env) :: starEach es (z5 (CXR P w) P w K mg base N qual scope f cd A outer s0 H0 E).env:=by rfl) (hpl:(backTo pos (starEach es (z5 (CXR P w) P w K mg base N qual scope f cd A outer s0 H0 E).env)).any (·.1)=false:=by rfl) :
  PE (z5 (CXR P w) P w K mg base N qual scope f cd A outer s0 H0 E) (.Call (.Name x p) (e :: es) [] pos) (tXE K (q24 ar op fa) E):=
 je (qf5 (X:=(z5 (CXR P w) P w K mg base N qual scope f cd A outer s0 H0 E)) G (hr.mono hk') hg hm hk hb .nil qsv (PA.nox' ha) hdb he hpl) fun σ H Q ⟨F0,H0,F, ρ,y, ρ',C,r,hv,hn,hE⟩=>by
  obtain⟨ds,h1,h2⟩:=g8.mp hv
  split at h2
  ·rename_i hl
   obtain⟨p',h3,h4⟩:=gf.mp h2;cases h4;refine⟨F0,H0,F, ρ,ds,r,h1,fun vs F1 H1 g rl=>⟨F1,ds,y,C,r.sameT g,by rw [pk];exact rl,hl,h3,hn,fun F2 H2 od g2 xf=>hE F2 H2 σ od ((r.grow g).grow g2) xf⟩⟩
  ·cases h2
theorem qra{X:Cx}{e:Expr}(h:PE X e (tXE K v E)): PS X (.Return (some e) pos) (tXS K v E):=xy (qic h) fun D σ H q=>q
theorem qrb{X:Cx}{e:Expr}{i:Nat}{x:Str}{px:Pos}(hN:X.N.Nodup)(hi:X.N[i]? = some x)(hx:Loc X.env.scope x)(h:PE X e (tXE K v E))(hs:swapsWith e (some (.Name x px)) pos.line X.env=pure false:=by rfl)(hf:X.fn x=true\/X.env.scope.names.lookup x=some .local:=by first|exact .inl rfl|exact .inr rfl|assumption):
  PS X (.Assign [.Name x px] e pos) (tXS K v E):=xy (qbr hN hi hx h hs hf) fun D σ H q=>q
end
section
variable{P:Program}{w:World}{K:Frag}{mg:Str->Option Value}{base:Heap}{x qual:Str}{st:Stmt}{dV:Value}{f:Addr}{fd:FuncData}{N ps:List Str}
theorem q5t{k n ar k1:Nat}{v:FX}(F:Fun2 K x qual st dV f fd)(S:FnScope N ps (qh st))(hn:N.length=n)(ha:ps.length=ar)(hk:k+1=k1)
  (hb:∀(cdv:Value) (A:Around) (outer:List Env) (s:Shared) (H:Hp) (E:XK),Room k (A.deeper (envOfC qual (qh st) s.heap.objs.size f cdv))->PSs (z5 (CXR P w) P w K mg base N qual (qh st) f cdv A outer s H E) (qx st) (tXS K v E)) :
  FnOk P w K mg base (CXR P w) k1 f fd ps (spR K ar fun ds=>(v (q5r n ds)).map (·.1)):=by
 subst hn ha hk;obtain⟨oc,od,kV,doc,pm,an,cdv,ct,osl,rfl,lk,hcd⟩:=F.ex;have hpl:ps.length<=N.length:=by have:=t4 List.length S.pre;rw [ni] at this;lia
 refine qga lk hcd S (fun vs H Q E h=>?_) fun A outer s H vs Q E hr hsp=>?_
 ·obtain⟨F,ds,_,_,_,rl,el,_⟩:=h
  rw [<- rl.length];exact el
 ·obtain⟨F1,ds,y,C,fh,rl,el,hp,hn,q⟩:=hsp
  obtain⟨⟨y', ρ'⟩,h1,rfl⟩:=gf.mp hp;exact⟨_,hb cdv A outer s H E hr,⟨_,_,_,_,y', ρ',C,qlr fh rl (by lia),h1,hn,fun F' H' σ' od r' xf=>q F' H' od r'.g xf⟩⟩
end
section
variable{P:Program}{w:World}{K:Frag}{mg:Str->Option Value}{base:Heap}{CX:CXT}{k:Nat}{f:Addr}{fd:FuncData}{ps:List Str}{sp sp':Sp}
end
section
variable{M:Model}{A:Around}{E:Value->Shared->Prop}{s:Shared}{K:Frag}{a C C2:Addr}{od:Option Addr}
open PySem.W in
theorem q74{b:Bool}{Q:Bool->Shared->Prop}(X:K.In s.heap)(e:XE a C od s.heap)(c2:ExcC K C2)(ht:typeIn K (.ref C2)=some (.type "type"))(hs:mroIn K C (.ref C2)=some b)(hq:Q b s): wpAny M A (excMatches (.ref a) (.ref C2)) Q E s:=by
 obtain⟨hh,g,d,t,os⟩:=s;have L0:Looks M hh (isInstance (.ref C2) (.type "tuple")) false:=(looks_typeIn X ht).andThen (Looks.of_pure tc_notTuple);have L1:Looks M hh (isType (.ref C2)) true:=by
  obtain⟨cdD,hcD⟩:=t9.mp (q9f c2);unfold PySem.W.clsIn at hcD
  split at hcD
  ·rename_i c' d' cd' sl' ho
   intro A' Q' E' s' k q;unfold isType loadHead;exact g0 (wpAny_loadPart (k _ _ (X _ _ ho)) (g7 q))
  ·cases hcD
 have L2:Looks M hh (isExcClass (.ref C2)) true:=by
  refine L1.andThen ?_;rw [gx rfl];exact looks_mroIn X c2.cb
 have L3:=q2a (M:=M) e;have L4:=looks_mroIn (M:=M) X hs;unfold excMatches;refine g0 (L0.at ?_);simp only [gu,p7];refine g0 (g7 ?_);simp only [g2t,List.forIn_nil,bind_assoc,pure_bind];refine g0 (L2.at ?_);simp only [pd,gu,p7,pure_bind];refine g0 (L3.at ?_);refine g0 (L4.at ?_);cases b with
 | true=>
  simp only [pz,pure_bind];exact g7 hq
 | false=>
  simp only [gu,p7,pure_bind];exact g7 hq
end
section
variable{X:Cx}
def Handles(X:Cx)(C:Addr)(hs:List ExceptHandler)(th:Addr->Option Addr->TS): Prop:=∀(pins:List (Addr×Obj)) (σ : St) (H H2:Hp) (s s':Shared) (B:Heap) (a:Addr) (od:Option Addr) (D:Ends),Inv X pins σ H s->s.heap.get? a=none->H2 a=none ->
 (∀h6,B.StaysIn h6->s'.heap.UpToSlots h6->Inv X pins σ H2 {s' with heap:=h6})->Fl.Fly B (X.env :: X.outer) a (PX C od) .none s'.heap->th a od D σ H2 ->
 wpAny (model X.prog X.w) X.A (handleBy (.ref a) X.env hs) (SP X pins D) X.xe s'
theorem qft{pins:List (Addr×Obj)}{σ : St}{H2:Hp}{s':Shared}{B:Heap}(inv:∀h6,B.StaysIn h6->s'.heap.UpToSlots h6->Inv X pins σ H2 {s' with heap:=h6})(st:B.StaysIn s'.heap): Inv X pins σ H2 s':=inv s'.heap st (Heap.UpToSlots.refl _)
variable{C C2:Addr}{cx n:Str}{np hpos:Pos}{b₀:Stmt}{suite:List Stmt}{rest:List ExceptHandler}{ts:TS}{th:Addr->Option Addr->TS}{i:Nat}
theorem qgx{B h:Heap}{l:List Env}{a:Addr}{od:Option Addr}{fl:Value}(x:Fl.Fly B l a (PX C od) fl h): XE a C od h:=by
 obtain⟨oe,ws,hoe,hoec,hoed⟩:=x.there;exact⟨oe,ws,hoe,hoec.1,hoec.2,hoed⟩
theorem qgy(c2:ExcC X.K C2)(ht:PySem.W.typeIn X.K (.ref C2)=some (.type "type"))(hs:PySem.W.mroIn X.K C (.ref C2)=some true)(hg:Gl X cx)(hm:X.mg cx=some (.ref C2))(hN:X.N.Nodup)(hi:X.N[i]? = some n)(hx:X.env.scope.names.lookup n=some .local)
  (hb:∀a,PSs (inX X a) (b₀ :: suite) ts) (hdb:(cx==("__debug__" : Str))=false:=by decide) :
  Handles X C (.ExceptHandler (some (.Name cx np)) (some n) (b₀ :: suite) hpos :: rest) (fun a od D σ H2=>ts (qlq i D) (σ.set i (some (.ref a))) (upd H2 a (.ext (XE a C od)))):=by
 intro pins σ H H2 s s' B a od D I hna hH2 inv hfl q;have I5:=qft inv hfl.1;refine wpAny_handleBy_cons (codeAny_handlers_test (kb (q9s (a:=a) I5) hg hm ?_ hdb)) (by intro q;cases q);refine q74 I5.kIn (qgx hfl) c2 ht hs ?_;refine codeAny_handlers_suite_as (Fl.off hfl fun h6 fl6 sm6=>?_);have I6:=inv h6 fl6.1 sm6;obtain⟨oe,ws,hoe,hoec,hodd,hoed⟩:=qgx fl6;have I7:Inv X pins σ (upd H2 a (.ext (XE a C od))) {s' with heap:=h6}:=qcv I hna I6 hH2 ⟨⟨oe,ws,hoe,hoec,hodd,hoed⟩,⟨oe,hoe⟩,fun h1 h2 ⟨o,vs,e1,e2,e3⟩ k=>⟨o,vs,k o e1,e2,e3⟩⟩;refine q49 (X:=X) I7 hN hi (Or.inl hx) (v:=.ref a) rfl (fun s8 I8=>?_) (.inr hx);exact n5 (hb a pins s8 _ _ (qlq i D) (q9s I8) q) (fun f s9 z=>qr7 I.ok hN hi hx z) fun _ _ z=>z.elim
theorem qcy{nm:Option Str}(c2:ExcC X.K C2)(ht:PySem.W.typeIn X.K (.ref C2)=some (.type "type"))(hs:PySem.W.mroIn X.K C (.ref C2)=some false)(hg:Gl X cx)(hm:X.mg cx=some (.ref C2))(k:Handles X C rest th)(hdb:(cx==("__debug__" : Str))=false:=by decide):
  Handles X C (.ExceptHandler (some (.Name cx np)) nm (b₀ :: suite) hpos :: rest) th:=by
 intro pins σ H H2 s s' B a od D I hna hH2 inv hfl q;have I5:=qft inv hfl.1;refine wpAny_handleBy_cons (codeAny_handlers_test (kb (q9s (a:=a) I5) hg hm ?_ hdb)) (by intro q;cases q);exact q74 I5.kIn (qgx hfl) c2 ht hs (k pins σ H H2 s s' B a od D I hna hH2 inv hfl q)
end
section
variable{X:Cx}
abbrev pnX(X:Cx)(pins:List (Addr×Obj)): Cx:={X with pn:=X.pn++pins}
abbrev XT(X:Cx)(pins:List (Addr×Obj))(σ0:St)(Ex:XK): Cx:=(pnX X pins).wish fun e s1=>∃p H1 s,Inv (pnX X pins) p σ0 H1 s/\CXR X.prog X.w X.stack H1 s Ex e s1
theorem qsw{pins:List (Addr×Obj)}(ok:X.Ok): (pnX X pins).Ok:=
 ⟨ok.mod,ok.kind,ok.glob,ok.blt,ok.above,ok.inj,ok.has,ok.cab,ok.hd,ok.frames,ok.stk,ok.exf,ok.bs,ok.bsz,ok.noex,ok.exfs,ok.funs,ok.frf⟩
theorem qoe{pins:List (Addr×Obj)}(ok:(pnX X pins).Ok): X.Ok:=
 ⟨ok.mod,ok.kind,ok.glob,ok.blt,ok.above,ok.inj,ok.has,ok.cab,ok.hd,ok.frames,ok.stk,ok.exf,ok.bs,ok.bsz,ok.noex,ok.exfs,ok.funs,ok.frf⟩
theorem qrc{pins:List (Addr×Obj)}{σ : St}{H:Hp}{s:Shared}(I:Inv X pins σ H s): Inv (pnX X pins) [] σ H s:=
 ⟨qsw I.ok,I.os,I.bare,I.base,I.loc,I.cell,I.free,I.freeC,fun p hp=>I.pin p (by rw [pk] at hp;exact hp),I.hok,I.len⟩
theorem q2p{pins p:List (Addr×Obj)}{σ : St}{H:Hp}{s:Shared}(I:Inv (pnX X pins) p σ H s): Inv X pins σ H s:=
 ⟨qoe I.ok,I.os,I.bare,I.base,I.loc,I.cell,I.free,I.freeC,fun q hq=>I.pin q (g0k _ hq),I.hok,I.len⟩
theorem qof{pins p:List (Addr×Obj)}{D:Ends}{f:Flow}{s':Shared}(h:SP (pnX X pins) p D f s'): SP X pins D f s':=by
 cases f with
 | next=>obtain⟨σ',H',I,q⟩:=h;exact⟨σ',H',q2p I,q⟩
 | brk=>obtain⟨σ',H',I,q⟩:=h;exact⟨σ',H',q2p I,q⟩
 | cont=>obtain⟨σ',H',I,q⟩:=h;exact⟨σ',H',q2p I,q⟩
 | ret u=>obtain⟨v, σ',H',I,r,q⟩:=h;exact⟨v, σ',H',q2p I,r,q⟩
def exT(okC:Addr->Prop)(th:Addr->Addr->Option Addr->TS)(D:Ends)(σ : St): XK:=fun c od H2=>∃C,c=.ref C/\okC C/\∀a,H2 a=none->th C a od D σ H2
theorem qog{body:List Stmt}{h0:ExceptHandler}{hs:List ExceptHandler}{pos:Pos}{tb:St->XK->TS}{okC:Addr->Prop}{th:Addr->Addr->Option Addr->TS}(hst:X.stack=X.env :: X.outer/\X.env.frame=some X.env.locals)
  (hbody:∀(pins:List (Addr×Obj)) (σ0:St) (Ex:XK),PSs (XT X pins σ0 Ex) body (tb σ0 Ex)) (hh:∀C,okC C->Handles X C (h0 :: hs) (th C)):PS X (.Try body (h0 :: hs) [] [] pos) (fun D σ H=>tb σ (exT okC th D σ) D σ H):=by
 intro pins s σ H D I h;refine wpAny_Try_except ?_;refine n5 (hbody pins σ (exT okC th D σ) [] s σ H D ((qrc I).wish _) h) (fun f s1 q=>?_) fun e s1 q=>?_
 ·have q':SP X pins D f s1:=qof (SP.unwish q)
  cases f with
  | next=>exact g1o q'
  | brk=>exact q'
  | cont=>exact q'
  | ret u=>exact q'
 ·obtain⟨p,H1,s2,I2,os,bare,B,H2,a,C',od,rfl,hfl,hun,hna,hH2,C,hc,hok,hq⟩:=q
  cases hc;have I3:Inv X pins σ H1 s2:=q2p I2;rw [hst.1] at hfl;have hfr:X.A.frames=some (X.env :: X.outer):=by rw [I.ok.frames,hst.1]
  refine Fl.note PX.st hfr hst.2 hfl fun h4 held4 sm4=>?_;refine Fl.off held4 fun h5 held sm5=>?_;exact hh C' hok pins σ H1 H2 s2 {s1 with heap:=h5} B a od D I3 hna hH2 (fun h6 st u=>I3.call' (s':={s1 with heap:=h6}) (ch:=[]) os (hun h6 st ((sm4.trans sm5).trans u)).1 (hun h6 st ((sm4.trans sm5).trans u)).2 bare fun b z=>absurd z (by simp)) held (hq a hH2)
end
def qrd(K:Frag)(F0 H0 F:Hp)(C:Addr)(p:XV)(σ0:St)(ρ':Rho)(E:XK): Prop:=∀F' H' od,Same F F'->RS K F0 H0 F' H' σ0 ρ'->XF F' od p.2->E (.ref C) od H'
def tXC(K:Frag)(v:FX)(σ0:St)(E:XK): TS:=fun _ σ H=> σ = σ0/\∃F0 H0 F ρ p ρ' C,RS K F0 H0 F H σ ρ /\ v ρ = some (p, ρ')/\PySem.W.nsIn K mainGlobals p.1=some (some (.ref C))/\qrd K F0 H0 F C p σ0 ρ' E
def qlu(K:Frag)(v:FX)(σ0:St)(E:XK): TE:=fun σ H _=> σ = σ0/\∃F0 H0 F ρ p ρ' C,RS K F0 H0 F H σ ρ /\ v ρ = some (p, ρ')/\PySem.W.nsIn K mainGlobals p.1=some (some (.ref C))/\qrd K F0 H0 F C p σ0 ρ' E
section
variable{X:Cx}{K:Frag}{st:Stmt}{v v':FX}{t:FT}{pos:Pos}{σ0:St}{E:XK}{pins:List (Addr×Obj)}
theorem qsx{c:Expr}{a b:List Stmt}(hc:PT X c (tDT K t))(ha:PSs X a (tXC K v σ0 E))(hb:PSs X b (tXC K v' σ0 E)): PS X (.If c a b pos) (tXC K (xIf t v v') σ0 E):=xy (qg1 hc ha hb) fun D σ H ⟨e0,F0,H0,F, ρ,x, ρ',C,r,hv,hn,hE⟩=>by
 obtain⟨d,h1,h2⟩:=g8.mp hv;refine⟨F0,H0,F, ρ,d,r,h1,fun F' H' g=>?_⟩;cases d with
 | true=>exact qks ⟨e0,F0,H0,F', ρ,x, ρ',C,r.grow g,h2,hn,fun F2 H2 od s2 r2 xf=>hE F2 H2 od (g.ff.trans s2) r2 xf⟩
 | false=>exact qkr ⟨e0,F0,H0,F', ρ,x, ρ',C,r.grow g,h2,hn,fun F2 H2 od s2 r2 xf=>hE F2 H2 od (g.ff.trans s2) r2 xf⟩
theorem qfu{e:Expr}(h:PE X e (qlu K v σ0 E))(hs:swapsWith e none pos.line X.env=pure false:=by rfl): PS X (.Expr e pos) (tXC K v σ0 E):=xy (q6g h hs) fun D σ H q=>q
theorem qoh{k:Nat}{fn:Addr}{fd:FuncData}{ps:List Str}{sp:Sp}{p0:List (Addr×Obj)}{H:Hp}{s:Shared}{Q:VK}{us:List Value}{vs:List V}(G:FnOk X.prog X.w X.K X.mg X.base (CXR X.prog X.w) k fn fd ps sp)(hr:Room k X.A)(hb:Binds X.K fd ps [])
  (I:Inv (XT X pins σ0 E) p0 σ0 H s) (rv:Vals vs us) (q:sp vs H Q E):wpAny (model X.prog X.w) X.A (call (.ref fn) us) (EP (XT X pins σ0 E) p0 σ0 Q) (XT X pins σ0 E).xe s:=by
 have hlu:us.length=ps.length:=by rw [<- rv.length];exact G.len _ _ _ _ q
 have hl':(us++[]).length=ps.length:=by rw [pk];exact hlu
 have hb':=hb s us I.kIn hl';rw [pk] at hb';refine g06 (g0n (G.run X.A X.stack s H ⟨us,[]⟩ us vs _ _ hr I.env0 hb' rv q) fun rr s' hq=>?_);cases rr with
 | error e1=>exact⟨p0,H,s,I.unwish,hq⟩
 | ok fl=>
  cases fl with
  | ret u=>exact I.after hq
  | next=>exact False.elim hq
  | brk=>exact False.elim hq
  | cont=>exact False.elim hq
theorem qoi{k k' ar:Nat}{fn:Addr}{fd:FuncData}{ps:List Str}{op:List D->Option XV}{x:Str}{p:Pos}{e:Expr}{es:List Expr}{fa:FA}(G:FnOk X.prog X.w X.K X.mg X.base (CXR X.prog X.w) k fn fd ps (spR X.K ar op))(hr:Room k' X.A)(hk':k<=k')(hg:Gl X x)(hm:X.mg x=some (.ref fn))(hk:PySem.W.keepIn X.K (.ref fn)=true)(hb:Binds X.K fd ps [])
  (ha:PA (XT X pins σ0 E).nox (e :: es) (tDA X.K fa)) (hdb:(x==("__debug__" : Str))=false:=by decide) (he:starEach (e :: es) X.env=(false,eval e X.env) :: starEach es X.env:=by rfl) (hpl:(backTo pos (starEach es X.env)).any (·.1)=false:=by rfl) :
  PE (XT X pins σ0 E) (.Call (.Name x p) (e :: es) [] pos) (qlu X.K (q24 ar op fa) σ0 E):=by
 intro q0 s σ H Q I ⟨e0,F0,H0,F, ρ,y, ρ',C,r,hv,hn,hE⟩;subst e0;obtain⟨ds,h1,h2⟩:=g8.mp hv
 split at h2
 ·rename_i hl
  obtain⟨p',h3,h4⟩:=gf.mp h2;cases h4;refine ue (kb I hg hm ?_ hdb);refine g0u (h₀:=X.base) I.ok.mod.kin hk (n5 (ha pos q0 s σ H (fun vs H1=>spR X.K ar op vs H1 Q E) (I.wish _) ⟨F0,H0,F, ρ,ds,r,h1,fun vs F1 H1 g rl=>⟨F1,ds,y,C,r.sameT g,rl,hl,h3,hn,fun F2 H2 od g2 xf=>hE F2 H2 od (g.ff.trans g2.ff) ((r.grow g).grow g2) xf⟩⟩) (fun us s1 ⟨vs,H1,I1,rv,q⟩=>⟨I1.kIn,?_⟩) fun _ _ z=>False.elim z) he hpl;exact qoh G (hr.mono hk') hb (I1.unwish) rv q
 ·cases h2
end
def sAs(i:Nat)(x:Str)(us:FS)(f:Option (Str×Int)): FS:=fun ρ =>(us (ρ.set i (some (.fz (.exc x f))))).map fun r=>(r.1,r.2.set i none)
def q25(ub:FS)(vb:FX)(xs:List Str)(hd:Str->Option (Str×Int)->FS): FS:=fun ρ =>match vb ρ with
 | some (p, ρ')=>if p.1∈xs then hd p.1 p.2 ρ' else none
 | none=>ub ρ
def qlv(K:Frag)(hd:Option (Str×Int)->FS)(od:Option Addr): TS:=fun D σ H=>∃F0 H0 F ρ f fl ρ',RS K F0 H0 F H σ ρ /\ XF F od f/\hd f ρ = some (fl, ρ')/\qbc K F0 H0 F D fl ρ'
section
variable{X:Cx}
theorem Handles.imp{C:Addr}{hs:List ExceptHandler}{th th':Addr->Option Addr->TS}(k:Handles X C hs th)(i:∀a od D σ H,H a=none->th' a od D σ H->th a od D σ H): Handles X C hs th':=
 fun pins σ H H2 s s' B a od D I hna hH2 inv hfl q=>k pins σ H H2 s s' B a od D I hna hH2 inv hfl (i a od D σ H2 hH2 q)
variable{C C2:Addr}{cx n x:Str}{np hpos:Pos}{b₀:Stmt}{suite:List Stmt}{rest:List ExceptHandler}{us:FS}{i:Nat}
theorem qn5(c2:ExcC X.K C2)(ht:PySem.W.typeIn X.K (.ref C2)=some (.type "type"))(hs:PySem.W.mroIn X.K C (.ref C2)=some true)(hns:PySem.W.nsIn X.K mainGlobals x=some (some (.ref C)))(hcx:q4b X.K C)(hg:Gl X cx)(hm:X.mg cx=some (.ref C2))(hN:X.N.Nodup)(hi:X.N[i]? = some n)(hx:X.env.scope.names.lookup n=some .local)
  (hb:∀a,PSs (inX X a) (b₀ :: suite) (tDS X.K us)) (hdb:(cx==("__debug__" : Str))=false:=by decide) :
  Handles X C (.ExceptHandler (some (.Name cx np)) (some n) (b₀ :: suite) hpos :: rest) (fun _ od=>qlv X.K (sAs i x us) od):=
 (qgy c2 ht hs hg hm hN hi hx hb hdb).imp fun a od D σ H hna ⟨F0,H0,F, ρ,f,fl, ρ',r,xf,hf,q⟩=>by
  obtain⟨⟨fl1, ρ1⟩,h5,h6⟩:=gf.mp hf;cases h6;have g3:Grow F H (upd F a (.ext (XE a C od))) (upd H a (.ext (XE a C od))):=Grow.new r.fh hna;have r4:=(r.grow g3).set i (rep_exc.mpr ⟨a,C,rfl,⟨od,z9,xf.mono g3.ff⟩,hns,hcx⟩:Rep X.K (upd F a (.ext (XE a C od))) (.exc x f) (.ref a));refine⟨F0,H0,_,_,_, ρ1,r4,h5,?_⟩;cases fl1 with
  | nx=>exact fun σ' F' H' s' r'=>q _ F' H' (g3.ff.trans s') (r'.unset i)
  | bk=>exact fun σ' F' H' s' r'=>q _ F' H' (g3.ff.trans s') (r'.unset i)
  | ct=>exact fun σ' F' H' s' r'=>q _ F' H' (g3.ff.trans s') (r'.unset i)
  | rt d=>exact fun v σ' F' H' r' rv=>q v _ F' H' (r'.unset i) rv
theorem qoj{body:List Stmt}{h0:ExceptHandler}{hs:List ExceptHandler}{pos:Pos}{ub:FS}{vb:FX}{xs:List Str}{hd:Str->Option (Str×Int)->FS}(hst:X.stack=X.env :: X.outer/\X.env.frame=some X.env.locals)
  (hb:∀(pins:List (Addr×Obj)) (σ0:St) (Ex:XK),PSs (XT X pins σ0 Ex) body (tDS X.K ub)) (hx:∀(pins:List (Addr×Obj)) (σ0:St) (Ex:XK),PSs (XT X pins σ0 Ex) body (tXC X.K vb σ0 Ex))
  (hh:∀x C,x∈xs->PySem.W.nsIn X.K mainGlobals x=some (some (.ref C))->Handles X C (h0 :: hs) (fun _ od=>qlv X.K (hd x) od)) (hn:∀x,x∈xs->∃C,PySem.W.nsIn X.K mainGlobals x=some (some (.ref C))) :
  PS X (.Try body (h0 :: hs) [] [] pos) (tDS X.K (q25 ub vb xs hd)):=by
 refine xy (qog (tb:=fun σ0 Ex D σ H=>tXC X.K vb σ0 Ex D σ H\/tDS X.K ub D σ H) (okC:=fun C=>∃x,x∈xs/\PySem.W.nsIn X.K mainGlobals x=some (some (.ref C)))
  (th:=fun C _ od D σ H=>∃x,x∈xs/\PySem.W.nsIn X.K mainGlobals x=some (some (.ref C))/\qlv X.K (hd x) od D σ H) hst (fun pins σ0 Ex p s σ H D I h=>h.elim (hx pins σ0 Ex p s σ H D I) (hb pins σ0 Ex p s σ H D I))
  fun C _ pins σ H H2 s s' B a od D I hna hH2 inv hfl ⟨x,h1,h2,q⟩=>hh x C h1 h2 pins σ H H2 s s' B a od D I hna hH2 inv hfl q) fun D σ H ⟨F0,H0,F, ρ,fl, ρ',r,hf,q⟩=>?_
 unfold q25 at hf
 split at hf
 ·rename_i p ρ1 hv
  split at hf
  ·rename_i hxs
   obtain⟨C,hC⟩:=hn p.1 hxs;refine .inl ⟨rfl,F0,H0,F, ρ,p, ρ1,C,r,hv,hC,fun F' H' od s' r' xf=>⟨C,rfl,⟨p.1,hxs,hC⟩,fun a _=>⟨p.1,hxs,hC,F0,H0,F', ρ1,p.2,fl, ρ',r',xf,hf,q2m s' q⟩⟩⟩
  ·cases hf
 ·exact .inr ⟨F0,H0,F, ρ,fl, ρ',r,hf,q⟩
end
theorem q7o{X:Cx}{K:Frag}{st:Stmt}{rest:List Stmt}{v:FX}{σ0:St}{E:XK}(h:PS X st (tXC K v σ0 E)): PSs X (st :: rest) (tXC K v σ0 E):=by
 intro pins s σ H D I q;refine g1h (thn (h pins s σ H {nx:=fun _ _=>False,rt:=fun _ _=>False} I q) fun fl s1 q=>?_);cases fl with
 | next=>obtain⟨_,_,_,q⟩:=q;exact q.elim
 | brk=>obtain⟨_,_,_,q⟩:=q;exact q.elim
 | cont=>obtain⟨_,_,_,q⟩:=q;exact q.elim
 | ret z=>obtain⟨_,_,_,_,_,q⟩:=q;exact q.elim
def qtv(l:List (Str×(Option (Str×Int)->FS)))(x:Str): Option (Str×Int)->FS:=(l.lookup x).getD fun _=>q1j
end DL
namespace DL
open PySem PySem.Spec PyProof.Rows L2
section
variable{prog:Program}{w:World}{A:Around}{E:Value->Shared->Prop}{h:Heap}{g:Array GenState}{d:Drawn}{t:Nat}{os:OsState}
variable{nm q:Str}{C N:Addr}{bs bm:List Value}{hdct:Bool}{sn:List Str}{sub:List Value}{ab:Bool}{col:Option Bool}{dd:Option Addr}{k0 k1 k2 k3 k5:Option Value}
theorem qjp{mN:Str->Option Value}{rest:List Value}{fI:Addr}{oI:Obj}{Q:Fin->Shared->Prop}(T:OwnTail h vB bm)(hC:h.get? C=some (excClassObj nm q C N bs bm hdct sn sub ab col dd k0 k1 k2 k3 k5 "ValueError.__new__"))(hn:h.Ns N mN)(hi:mN "__init__" = some (.ref fI))
  (hfI:h.get? fI=some oI) (hfc:oI.cls=.type "function") (hrest:rest.length<=sizeLine)
  (hq:∀h' e,Heap.MadeExcOf h h' e (.ref C) rest->wpAny (model prog w) A (call (.ref fI) (.ref e :: rest)) (fun r s'=>r=.none/\Q (.done (.ret (.ref e))) s') E ⟨h',g,d,t,os⟩) :
  wpAny (model prog w) A (Builtin.«type.__call__» ⟨.ref C :: rest,[]⟩) Q E ⟨h,g,d,t,os⟩:=by
 have F:=g0g
 repeat (first|with_reducible refine g16 hC ?_|with_reducible refine wpAny_madeBy_exc hC ?_|wp_step)
 refine codeAny_call_builtin_code (g1x _ F.quiet) (wpAny_check_new_subT F T hC (codeAny_exc_new_subT F T hC ?_ hrest));show wpAny _ _ _ _ _ _;obtain⟨h2,eh⟩:∃h2,h2=(h.push {cls:=.type "tuple",data:=.seq rest.toArray}).push {cls:=.ref C,data:=.fields #[.ref h.objs.size,.none,.none,.none,.bool false,.none]}:=⟨_,rfl⟩
 have keep:∀b o,h.get? b=some o->h2.get? b=some o:=fun b o e=>by rw [eh];exact g9 _ (g9 _ e)
 have hget:h2.get? (h.objs.size+1)=some {cls:=.ref C,data:=.fields #[.ref h.objs.size,.none,.none,.none,.bool false,.none]}:=by rw [eh];heap_get
 have hm:Heap.MadeExcOf h h2 (h.objs.size+1) (.ref C) rest:=⟨keep,g0j (g38 _),h.objs.size,hget,g0j (gq _),by rw [eh];exact g9 _ (Heap.get?_push_at rfl rfl)⟩
 rw [<- eh];have hcC:(Value.ref C :: bm).contains (.ref C)=true:=by simp
 unfold isInstance
 repeat (first|with_reducible refine g16 hget ?_|(with_reducible refine wpAny_isSubtype_exc (keep _ _ hC) ?_;rw [hcC])|wp_step)
 show wpAny _ _ (typeLookup (.ref C) _) _ _ _;refine wpAny_typeLookup_tail (keep _ _ hC) (hn.keeps keep) (T.keeps keep) F.mroIs F.init.lookup ?_;rw [hi];refine mq (g0 ?_);unfold bindSpecial;refine g0 (td (T:="function") ⟨_,keep _ _ hfI,hfc⟩ ?_);rw [gx (by decide)];refine g7 (g0 (n5 (hq h2 _ hm) (fun r s' hr=>?_) fun _ _ x=>x));obtain⟨rfl,hQ⟩:=hr
 wp_walk
 exact hQ
theorem qjq{mN:Str->Option Value}{rest:List Value}{fI:Addr}{oI:Obj}{Q:Value->Shared->Prop}(T:OwnTail h vB bm)(hC:h.get? C=some (excClassObj nm q C N bs bm hdct sn sub ab col dd k0 k1 k2 k3 k5 "ValueError.__new__"))(hn:h.Ns N mN)(hi:mN "__init__" = some (.ref fI))
  (hfI:h.get? fI=some oI) (hfc:oI.cls=.type "function") (hrest:rest.length<=sizeLine)
  (hq:∀h' e,Heap.MadeExcOf h h' e (.ref C) rest->wpAny (model prog w) (A.under (.builtin "type.__call__" ⟨.ref C :: rest,[]⟩)) (call (.ref fI) (.ref e :: rest)) (fun r s'=>r=.none/\Q (.ref e) s') E ⟨h',g,d,t,os⟩) :
  wpAny (model prog w) A (call (.ref C) rest) Q E ⟨h,g,d,t,os⟩:=by
 have f1:=tc_lookup;have f2:=tc_bind (.ref C);have hT:(⟨h,g,d,t,os⟩:Shared).TypeIs (.ref C) "type" :=⟨_,hC,rfl⟩
 refine g06 (g4o ?_);show wpAny _ _ (callAny (.ref C) _) _ _ _
 repeat (any_goals (first|assumption|with_reducible refine g16 hC ?_|wp_step))
 exact⟨rfl,codeAny_call_builtin_at (g1x _ (by decide +kernel)) entry_typeCall (wpAny_check_type_call_sub hC (qjp T hC hn hi hfI hfc hrest fun h' e hm=>hq h' e hm))⟩
theorem qjr{e:Addr}{oe:Obj}{vs:Array Value}{x:Value}{Q:Value->Shared->Prop}(T:OwnTail h vB bm)(hC:h.get? C=some (excClassObj nm q C N bs bm hdct sn sub ab col dd k0 k1 k2 k3 k5 "ValueError.__new__"))(he:h.get? e=some oe)(hcls:oe.cls=.ref C)(hd:oe.data=.fields vs){t1:Addr}(h0:vs[0]? = some (.ref t1))
  (hq:∀h' t0,(∀b o,b≠e->h.get? b=some o->h'.get? b=some o)->h.get? t0=none->t0≠e->h'.get? t0=some {cls:=.type "tuple",data:=.seq #[x]}->h'.get? e=some {oe with data:=.fields (vs.setIfInBounds 0 (.ref t0))}->Q .none ⟨h',g,d,t,os⟩) :
  wpAny (model prog w) A (call (.builtin "ValueError.__init__") [.ref e,x]) Q E ⟨h,g,d,t,os⟩:=by
 have F:=g0g;refine g06 (tq F.init.plain F.initEntry (wpAny_check_init_subT F T hC he hcls ?_))
 wp_walk
 rw [hd];refine g7 ?_;rw [h0];refine g7 ?_;have he2:=g9 (h:=h) {cls:=.type "tuple",data:=.seq #[x]} he;have hsz:0<vs.size:=(t6.mp h0).1;refine g0 (g0m he2 hd hsz ?_);have ne:h.objs.size≠e:=t5 (gi he);have hd3:=g0a hd (·.setIfInBounds 0 (Value.ref h.objs.size));have fin:=hq ((h.push {cls:=.type "tuple",data:=.seq #[x]}).update e (Obj.mapFields (·.setIfInBounds 0 (Value.ref h.objs.size)))) h.objs.size (fun b o hb e1=>by rw [mm _ _ (m5 hb)];exact g9 _ e1) (g0j (gq _)) ne
  (by rw [mm _ _ (m5 ne)];exact gp _ rfl)
  (by
   rw [ny _ he2 (g1a hd3)];obtain⟨oc,od,dt,sl⟩:=oe;cases hd
   rfl)
 wp_walk
 exact fin
end
abbrev vBx:List Value:=[.type "ValueError",.type "Exception",.type "BaseException",.type "object"]
theorem qre(self:Value): refuseLoop self "__setattr__" vBx=pure ():=by kernel_rfl
def qgz:List Value->Bool
 | .ref _ :: r=>qgz r
 | r=>r==vBx
theorem qaq(self:Value): ∀l:List Value,qgz l=true->refuseLoop self "__setattr__" l=pure ()
 | [],e=>by cases e
 | c :: r,e=>by
  cases c with
  | ref a=>rw [refuseLoop_ref];exact qaq self r e
  | type n=>
   have:(Value.type n :: r)=vBx:=uc.mp e;rw [this];exact qre self
  | _=>exact absurd (uc.mp e) (by intro z;cases z)
theorem qcz:∀l:List Value,qgz l=true->l.contains (.type "object")=true
 | [],e=>by cases e
 | c :: r,e=>by
  cases c with
  | ref a=>rw [List.contains_cons,qcz r e,g58]
  | type n=>
   have:(Value.type n :: r)=vBx:=uc.mp e;rw [this];decide
  | _=>exact absurd (uc.mp e) (by intro z;cases z)
def qh0(K:PySem.W.Frag)(C:Addr): Bool:=(PySem.W.clsIn K C).any fun cd=>qgz cd.mro
section
variable{prog:Program}{w:World}{A:Around}{E:Value->Shared->Prop}{K:PySem.W.Frag}{s:Shared}{x D:Addr}{ox:Obj}{name:Str}{v:Value}
open PySem.W Builtin Builtin.ObjectAttr
theorem qlw{od:Obj}{ws:Array Value}{expr:Bool}{Q:Value->Shared->Prop}(c:ExcC K D)(X:K.In s.heap)(J:PySem.W.InstAt s.heap x ox D (some od))(hd:ox.data=.fields ws)
  (hf:findObj K D (some od) name=some (.value v)) (hh:handedIn v=true) (h:Q v {s with toks:=s.toks+1}):wpAny (model prog w) A (getAttr (.ref x) name expr) Q E s:=by
 have I:XE x D ox.dict s.heap:=⟨ox,ws,J.at_,J.cls,rfl,hd⟩
 obtain⟨hp,g,dr,t,os⟩:=s;have L0:=J.type (M:=model prog w);have L1:=looks_findIn (M:=model prog w) X c.ga;have L2:=looks_findIn (M:=model prog w) X c.gk;have L3:=looks_find (M:=model prog w) X J hf;have f3:=g08.ga.bind (.ref x);unfold getAttr getAttrBy;refine g0 (wpAny_mkText (mq (g0 (L0.at (g0 (L1.at ?_))))));show wpAny _ _ (getAttrByItsOwn _ _ _ _ _ _) _ _ _;unfold getAttrByItsOwn hookBefore;rw [gx (show onTheHeap (Value.ref D)=true from rfl)];refine g0 (L2.at ?_);refine g0 (g0t (mq ?_));unfold callGetattribute boundAndCalled;rw [m8 (by cases expr <;> decide)];rw [f3];refine g0 (g7 ?_);refine g06 (tq g08.ga.plain F.entry_bexc_ga (qbw c X I ?_));unfold Builtin.«object.__getattribute__»;refine g0 (g7 (g0 (g7 (g0 (L0.at (g0 (L3.at ?_)))))));refine g7 ?_;dsimp only;exact handed_on hh h
theorem qlx{ws:Array Value}{Q:Unit->Shared->Prop}(X:K.In s.heap)(hx:s.heap.get? x=some ox)(hcls:ox.cls=.ref D)(hdn:ox.dict=none)(hd:ox.data=.fields ws)
  (hs:findIn K (.ref D) "__setattr__" = some (some (.builtin "object.__setattr__"))) (ho:qh0 K D=true) (ha:findIn K (.ref D) name=some none) (hh:hasDictIn K D=true)
  (h:∀h' dx,(∀b o,b≠x->s.heap.get? b=some o->h'.get? b=some o)->s.heap.get? dx=none->h'.get? x=some {ox with dict:=some dx}->h'.Ns1 dx (fun y=>if y=name then some v else none)->Q () {s with heap:=h',toks:=s.toks+2}) :
  wpAny (model prog w) A (setAttr (.ref x) name v) Q E s:=by
 obtain⟨oc,odd,odt,osl⟩:=ox;dsimp only at hcls hdn hd;subst hcls hdn hd;have J:PySem.W.InstAt s.heap x ⟨.ref D,none,.fields ws,osl⟩ D none:=⟨hx,rfl,rfl,trivial⟩
 have SF:=PySem.F.store_object;obtain⟨cd,hc,hom⟩:=any_some ho;have ne:cd.mro.isEmpty=false:=by cases q:cd.mro with|nil=>rw [q] at hom;cases hom|cons _ _=>rfl
 have sub:Looks (model prog w) s.heap (isInstance (.ref x) (.type "object")) true:=J.type.andThen (looks_mroIn X (by unfold mroIn;rw [hc,gb,m8 (by rw [ne];decide),qcz _ hom]));refine set_plain X J hs ?_;refine tq SF.slot.plain SF.entry (@check_slot (model prog w) _ _ {s with toks:=s.toks+1} "object.__setattr__" "object" "__setattr__" (.ref x) [.str name s.toks,v] [] _ SF.kind SF.split sub (SF.args (.ref x) (.str name s.toks) v) ?_);have hm:Looks (model prog w) s.heap (mroOf (.ref D)) cd.mro:=(looks_clsIn X hc).andThen .now;rw [osa_eq,refuse_eq];refine g0 (g0 (g0x (s:={s with toks:=s.toks+1}) J.type (g0 (g0x (s:={s with toks:=s.toks+1}) hm ?_))));rw [qaq _ _ hom];refine g7 (g0 (g0x (s:={s with toks:=s.toks+1}) J.type (g0 (g0x (s:={s with toks:=s.toks+1}) (looks_findIn X ha) (g0 (g7 ?_))))));dsimp only;obtain⟨cd',hc',hd'⟩:=any_some hh;unfold storeInOwnDict;refine g0 (g7 ?_);show wpAny _ _ (ownDictForStores (.ref x) >>= _) _ _ _;unfold ownDictForStores instanceDict;refine g0 (g0 (wpAny_loadPart hx (g0 (g0x (s:={s with toks:=s.toks+1}) (PySem.W.looks_clsIn X hc') ?_))));rw [hd'];have hdx:s.heap.get? s.heap.objs.size=none:=g0j (gq _);have hxd:x≠s.heap.objs.size:=gw (gi hx);show wpAny _ _ (alloc {cls:=Value.type "dict",data:=Data.dict #[]} >>= fun d=>update x (fun o=>{o with dict:=some d}) >>= fun _=>dictMade (.ref D) x d) _ _ _;refine g0 (wpAny_alloc (g0 (wpAny_update (g9 _ hx) ?_)));obtain⟨h2,eh⟩:∃h2,h2=(s.heap.push {cls:=Value.type "dict",data:=Data.dict #[]}).update x (fun o=>{o with dict:=some s.heap.objs.size}):=⟨_,rfl⟩
 have ex:h2.get? x=some ⟨.ref D,some s.heap.objs.size,.fields ws,osl⟩:=by
  rw [eh];exact ny (fun o=>{o with dict:=some s.heap.objs.size}) (g9 _ hx) rfl
 have ed:h2.get? s.heap.objs.size=some {cls:=Value.type "dict",data:=Data.dict #[]}:=by
  rw [eh,mm _ _ hxd];exact gp _ rfl
 have kp:∀b o,b≠x->s.heap.get? b=some o->h2.get? b=some o:=fun b o ne e=>by
  rw [eh,mm _ _ (m5 ne)];exact g9 _ e
 dsimp only;rw [<- eh];have n0:h2.Ns s.heap.objs.size (fun _=>none):=⟨_, #[],_,ed,rfl,(fun e he=>absurd he (by simp)),fun _=>rfl⟩
 refine g7 (a:=some s.heap.objs.size) ?_;show wpAny _ _ (storeInDict s.heap.objs.size (.str name s.toks) name v) _ _ _;unfold storeInDict;refine g0 (g7 (g0 ?_));refine wpAny_nsSet1 (s:={s with heap:=h2,toks:=s.toks+1}) (Heap.Ns1.of_empty n0) fun h' hn2 hs2=>?_;obtain⟨oD,esD,epD,hoD,hdD,hcD⟩:=hn2.count (PySem.Within.cons name v (ns:=[]) (fun y hy=>absurd rfl hy));refine g0 (wpAny_lookBehind hoD (by rw [hdD];exact pastItsLine_dict (mh hcD (by rw [nj];decide))) ?_);exact g7 (h h' s.heap.objs.size (fun b o ne e=>by
  have nb:b≠s.heap.objs.size:=fun z=>by rw [z,hdx] at e;cases e
  exact(hs2.2 b nb).trans (kp b o ne e)) hdx ((hs2.2 x hxd).trans ex) hn2)
end
def XG(e C:Addr)(h:Heap): Prop:=∃o ws t,h.get? e=some o/\o.cls=.ref C/\o.dict=none/\o.data=.fields ws/\ws[0]? = some (.ref t)/\ws[1]? = some .none
def XH(e C dx:Addr)(h:Heap): Prop:=∃o ws,h.get? e=some o/\o.cls=.ref C/\o.dict=some dx/\o.data=.fields ws/\ws[1]? = some .none
section
variable{X:Cx}{e:Expr}{pos jp p1 p2 fp:Pos}{j1 j2:Nat}
theorem qok{s1 s2:Str}{te:TE}(he:PE X e te)(h1:s1.length<=1000)(h2:s2.length<=1000): PE X (.JoinedStr [.Constant (.str s1) j1 p1,.FormattedValue e (-1) none fp,.Constant (.str s2) j2 p2] jp)
  (fun σ H Q=>te σ H fun x H1=>∃i,x=.int i/\i.natAbs.log2<1920/\∀y,Q (.str y) H1):=by
 intro pins s σ H Q I h;have l0:(Str.empty++s1).length=s1.length:=by rw [strLen_append];show 0+_=_;omega
 refine JoinedStr_many (joinParts_cons (g1t ⟨by rw [l0,g05];omega,joinParts_cons (FormattedValue_plain (thn (he pins _ σ H _ (I.tok _) h) fun u s2 ⟨x,H1,I1,rx,i,ex,hd,q⟩=>?_))⟩));subst ex;obtain⟨t,rfl⟩:=(show ∃t,u=Value.int i t from rx)
 have li:=int_text_length_le (k:=1920) (by decide) hd;have l3:(Str.empty++s1++Str.ofString (toString i)).length<=1000+1922:=by rw [strLen_append,l0,PySem.ofString_length];omega
 refine formatField_int_small hd ⟨by rw [g05];omega,joinParts_cons (g1t ⟨?_,joinParts_nil ⟨.str _,H1,I1.tok _,⟨_,rfl⟩,q _⟩ ?_⟩)⟩ <;> (rw [strLen_append,g05];omega)
def q01(K:Frag)(C f:Addr): Bool:=match K.lookup C with
 | some ⟨.type "type",_,.cls cd,sl⟩=>(match cd.mro,sl.toList with
  | .ref C' :: bm,[_,_,_,_,some (.builtin n),_]=>C'==C&&n=="ValueError.__new__" && !cd.hasDel&&PySem.W.tailIn K vB bm&&PySem.W.nsOkIn K cd.ns&&PySem.W.nsIn K cd.ns "__init__" == some (some (.ref f))
  | _,_=>false)
 | _=>false
open PySem.W in
theorem qsy{K:Frag}{h:Heap}{N:Addr}{mN:Str->Option Value}{y:Str}{v:Value}(X:K.In h)(G:h.Ns N mN)(hy:nsIn K N y=some (some v)): mN y=some v:=by
 obtain⟨ob,es,ep,g1,g2,_,g3⟩:=G;unfold nsIn at hy
 split at hy
 ·rename_i q
  cases g1.symm.trans (X _ _ q);cases g2
  split at hy
  ·rename_i he
   cases hy;refine(g3 y).symm.trans ?_;unfold nsFind findBy;rw [<- Array.find?_toList,he]
   rfl
  ·split at hy <;> cases hy
 ·cases hy
theorem q7p{K:Frag}{h:Heap}{C f:Addr}(X:K.In h)(q:q01 K C f=true): ∃bm N nm q bs hdct sn sub ab col dd k0 k1 k2 k3 k5 mN,h.get? C=some (excClassObj nm q C N bs bm hdct sn sub ab col dd k0 k1 k2 k3 k5 "ValueError.__new__")/\h.Ns N mN/\mN "__init__" = some (.ref f)/\OwnTail h vB bm:=by
 unfold q01 at q
 split at q
 ·rename_i dd cd sl ho
  split at q
  ·rename_i C' bm k0 k1 k2 k3 n k5 hm hs
   simp only [mf,uc,Bool.not_eq_true'] at q;obtain⟨⟨⟨⟨⟨rfl,rfl⟩,hdel⟩,ht⟩,hok⟩,hni⟩:=q;obtain⟨nm,bs,mro,ns,qn,hd,sn,sub,ab,col,del⟩:=cd;dsimp only at hm hdel hok hni;subst hm hdel;have hsl:sl = #[k0,k1,k2,k3,some (.builtin "ValueError.__new__"),k5]:=by
    obtain⟨l⟩:=sl;simp only at hs;rw [hs]
   subst hsl;have hN:=Heap.Ns.of_isNs (PySem.W.isNs_of_in X hok);exact⟨bm,ns,nm,qn,bs,hd,sn,sub,ab,col,dd,k0,k1,k2,k3,k5,_,X _ _ ho,hN,qsy X hN hni,PySem.W.tail_of_in X ht⟩
  ·cases q
 ·cases q
variable{pins:List (Addr×Obj)}{σ : St}{H:Hp}{s:Shared}
theorem qrf{H:Hp}{a:Addr}{o:HO}(h:H a=some o): upd H a o=H:=by
 funext b
 by_cases z:b=a
 ·subst z;rw [z9,h]
 ·rw [qy z]
theorem qol{B0 C f:Addr}{b slf m s1 s2:Str}{bp apos sp mp cpos epos:Pos}{pl:Sem Bool}(hg:Gl X b)(hm:X.mg b=some (.ref B0))(hsp:PySem.W.specialIn X.K (.ref B0) "__getattribute__" = some (some (.builtin "type.__getattribute__")))(hr:PySem.W.readsIn X.K B0 (.type "type")=true)
  (hf:PySem.W.findCls X.K (.ref B0) (.type "type") "__init__" = some (.val (.builtin "ValueError.__init__"))) (hC:q01 X.K C f=true) (hv0:PE X (.Name slf sp) (q4a 0)) (hv1:PE X (.Name m mp) (q4a 1)) (h1:s1.length<=1000) (h2:s2.length<=1000)
  (hdb:(b==("__debug__" : Str))=false:=by decide) (hst:starEach [.Name slf sp,.JoinedStr [.Constant (.str s1) j1 p1,.FormattedValue (.Name m mp) (-1) none fp,.Constant (.str s2) j2 p2] jp] X.env=(false,eval (.Name slf sp) X.env) :: starEach [.JoinedStr [.Constant (.str s1) j1 p1,.FormattedValue (.Name m mp) (-1) none fp,.Constant (.str s2) j2 p2] jp] X.env:=by rfl)
  (hpl:(backTo cpos (starEach [.JoinedStr [.Constant (.str s1) j1 p1,.FormattedValue (.Name m mp) (-1) none fp,.Constant (.str s2) j2 p2] jp] X.env)).any (·.1)=false:=by rfl)
  (hsw:swapsWith (.Call (.Attribute (.Name b bp) "__init__" apos) [.Name slf sp,.JoinedStr [.Constant (.str s1) j1 p1,.FormattedValue (.Name m mp) (-1) none fp,.Constant (.str s2) j2 p2] jp] [] cpos) none epos.line X.env=pure false:=by rfl)
  (ht:eval (.Call (.Attribute (.Name b bp) "__init__" apos) [.Name slf sp,.JoinedStr [.Constant (.str s1) j1 p1,.FormattedValue (.Name m mp) (-1) none fp,.Constant (.str s2) j2 p2] jp] [] cpos) X.env=(do
   let ov <- eval (.Name b bp) X.env
   standAt apos.atName
   let(fv,first) <- holding [ov] (getMethod ov "__init__" pl)
   callWith cpos fv first (backTo cpos (starEach [.Name slf sp,.JoinedStr [.Constant (.str s1) j1 p1,.FormattedValue (.Name m mp) (-1) none fp,.Constant (.str s2) j2 p2] jp] X.env)) (backToKw cpos (keywordEach [] X.env))):=by rfl) :
  PS X (.Expr (.Call (.Attribute (.Name b bp) "__init__" apos) [.Name slf sp,.JoinedStr [.Constant (.str s1) j1 p1,.FormattedValue (.Name m mp) (-1) none fp,.Constant (.str s2) j2 p2] jp] [] cpos) epos)
   (fun D σ H=>∃e i, σ[0]? = some (some (.ref e)) /\ σ[1]? = some (some (.int i))/\H e=some (.ext (XG e C))/\i.natAbs.log2<1920/\D.nx σ H):=by
 intro pins s σ H D I ⟨e,i,g1,g2,g3,hd,q⟩;refine wpAny_Expr_any ?_ I.quiet hsw;refine g4z (pl:=pl) (kb I hg hm ?_ hdb) ht;refine PySem.W.method_cls I.kIn hsp (PySem.W.cls_value I.kIn hr hf rfl ?_);refine g2q (thn ((zr hv0 (zr (qok hv1 h1 h2) yj) hst) cpos pins _ σ H (fun vs H1=>∃y,vs=[.ref e,.str y]/\H1=H) (I.tok _) ⟨.ref e,g1,.int i,g2,i,rfl,hd,fun y=>⟨y,rfl,rfl⟩⟩) fun us s1 ⟨vs,H1,I1,rv,y,ev,eH⟩=>?_) hst hpl;subst ev eH;obtain⟨u1,u2,rfl,r1,r2⟩:=rv.two;obtain rfl:u1=Value.ref e:=r1;obtain⟨tl,N,nm,qn,bs,hdct,sn,sub,ab,col,dd,k0,k1,k2,k3,k5,mN,hCo,hNs,hni,T⟩:=q7p I1.kIn hC;obtain⟨⟨o,ws,t1,e1,e2,e3,e4,e5,e6⟩,_,_⟩:=(show ObjOk X.prog X.w H1 s1.heap e _ from I1.hok e _ g3)
 obtain⟨hp,gg,dr,tk,os⟩:=s1;refine qjr T hCo e1 e2 e4 e5 fun h' t0 k1' n1 n2 x1 x2=>?_;have hz:0<ws.size:=(t6.mp e5).1;refine⟨σ,H1,?_,q⟩;have I2:=I1.write (x:=e) (e:=e) (o:=.ext (XG e C)) (h':=h') (t':=tk) (by rw [g3];exact True.intro) (.inl rfl) k1' ⟨_,x2⟩ ⟨⟨_,_,t0,x2,e2,e3,rfl,by simp [hz],by rw [Array.getElem?_setIfInBounds_ne (by decide)];exact e6⟩,⟨_,x2⟩,fun ha hb ⟨o',ws',t',f1,fr⟩ kk=>⟨o',ws',t',kk o' f1,fr⟩⟩;rw [qrf g3] at I2;exact I2
structure ClsI(K:Frag)(C:Addr)(nm:Str): Prop where
 sa:PySem.W.findIn K (.ref C) "__setattr__" = some (some (.builtin "object.__setattr__"))
 ov:qh0 K C=true
 na:PySem.W.findIn K (.ref C) nm=some none
 hd:PySem.W.hasDictIn K C=true
theorem qom{C:Addr}{slf m nm:Str}{sp mp apos:Pos}(c:ClsI X.K C nm)(hv0:PE X (.Name slf sp) (q4a 0))(hv1:PE X (.Name m mp) (q4a 1))(hs:swapsWith (.Name m mp) (some (.Attribute (.Name slf sp) nm apos)) pos.line X.env=pure false:=by rfl):
  PS X (.Assign [.Attribute (.Name slf sp) nm apos] (.Name m mp) pos) (fun D σ H=>∃e i, σ[0]? = some (some (.ref e)) /\ σ[1]? = some (some (.int i))/\H e=some (.ext (XG e C))/\∀dx,H dx=none->dx≠e->D.nx σ (upd (upd H e (.ext (XH e C dx))) dx (.xd [(nm,.int i)]))):=by
 intro pins s σ H D I ⟨e,i,g1,g2,g3,q⟩;refine plainObj_wpAny_Assign_Attribute (thn (hv1 pins s σ H (fun x H1=>x=.int i/\H1=H) I ⟨.int i,g2,rfl,rfl⟩) fun u s1 ⟨y,H1,I1,ry,ey,eH⟩=>thn (hv0 pins s1 σ H1 (fun x H2=>x=.ref e/\H2=H) I1 ⟨.ref e,g1,rfl,eH⟩) fun ov s2 ⟨x,H2,I2,rx,ex,eH2⟩=>?_) hs;subst ey ex eH2;obtain rfl:ov=Value.ref e:=rx;obtain⟨tu,rfl⟩:=(show ∃t,u=Value.int i t from ry)
 obtain⟨⟨o,ws,t1,e1,e2,e3,e4,e5,e6⟩,_,_⟩:=(show ObjOk X.prog X.w H2 s2.heap e _ from I2.hok e _ g3)
 refine qlx I2.kIn e1 e2 e3 e4 c.sa c.ov c.na c.hd fun h' dx k n x2 ns=>?_;have hdx:H2 dx=none:=by
  cases z:H2 dx with
  | none=>rfl
  | some o'=>
   obtain⟨ob,z1⟩:=has_obj (I2.hok dx o' z);rw [n] at z1;cases z1
 have ne:dx≠e:=fun z=>by rw [z,e1] at n;cases n
 refine⟨σ,_,?_,q dx hdx ne⟩;have I3:=I2.write (x:=e) (e:=e) (o:=.ext (XH e C dx)) (h':=h') (t':=s2.toks+2) (by rw [g3];exact True.intro) (.inl rfl) k ⟨_,x2⟩ ⟨⟨_,ws,x2,e2,rfl,e4,e6⟩,⟨_,x2⟩,fun ha hb ⟨o',ws',f1,fr⟩ kk=>⟨o',ws',kk o' f1,fr⟩⟩;refine qcv I2 n I3 (by rw [qy ne];exact hdx) ⟨_,ns,fun f=>?_⟩;show RelO (List.lookup f [(nm,V.int i)]) (if f=nm then some (Value.int i tu) else none);rw [my]
 by_cases z:f=nm
 ·subst z
  rw [gx rfl,show(f==f)=true from g2g f];exact⟨tu,rfl⟩
 ·rw [m8 z,show(f==nm)=false from ur.mpr z]
  exact True.intro
end
end DL
namespace DL
open PySem PySem.Spec PyProof.Rows L2
variable[Lam][Pin]
def tIn(C:Addr)(nm:Str): TS:=fun D σ H=>∃e i, σ[0]? = some (some (.ref e)) /\ σ[1]? = some (some (.int i))/\H e=some (.ext (XG e C))/\i.natAbs.log2<1920/\∀dx,H dx=none->dx≠e->D.nx σ (upd (upd H e (.ext (XH e C dx))) dx (.xd [(nm,.int i)]))
def spI(C:Addr)(nm:Str): Sp:=fun vs H Q _=>∃e i,vs=[.ref e,.int i]/\H e=some (.ext (XG e C))/\i.natAbs.log2<1920/\∀dx,H dx=none->dx≠e->Q .non (upd (upd H e (.ext (XH e C dx))) dx (.xd [(nm,.int i)]))
section
variable{X:Cx}
omit [Pin] in
theorem qly{C:Addr}{nm:Str}{st1 st2:Stmt}(h1:PS X st1 (fun D σ H=>∃e i, σ[0]? = some (some (.ref e)) /\ σ[1]? = some (some (.int i))/\H e=some (.ext (XG e C))/\i.natAbs.log2<1920/\D.nx σ H))
  (h2:PS X st2 (fun D σ H=>∃e i, σ[0]? = some (some (.ref e)) /\ σ[1]? = some (some (.int i))/\H e=some (.ext (XG e C))/\∀dx,H dx=none->dx≠e->D.nx σ (upd (upd H e (.ext (XH e C dx))) dx (.xd [(nm,.int i)])))):PSs X [st1,st2] (tIn C nm):=
 q6i (qbq h1 (q9a h2)) fun D σ H ⟨e,i,a1,a2,a3,a4,a5⟩=>⟨e,i,a1,a2,a3,a4,⟨e,i,a1,a2,a3,a5⟩⟩
end
section
variable{P:Program}{w:World}{K:Frag}{mg:Str->Option Value}{base:Heap}{x qual:Str}{st:Stmt}{dV:Value}{f:Addr}{fd:FuncData}{N ps:List Str}
omit [Pin] in
theorem Fun2.okI{C:Addr}{nm:Str}{k k1:Nat}(F:Fun2 K x qual st dV f fd)(S:FnScope N ps (qh st))(hn:N.length=2)(ha:ps.length=2)(hk:k+1=k1)
  (hb:∀(cdv:Value) (A:Around) (outer:List Env) (s:Shared) (H:Hp) (E:XK),Room k (A.deeper (envOfC qual (qh st) s.heap.objs.size f cdv))->PSs (z5 CX0 P w K mg base N qual (qh st) f cdv A outer s H E).nox (qx st) (tIn C nm)) :
  FnOk P w K mg base CX0 k1 f fd ps (spI C nm):=by
 subst hk;obtain⟨oc,od,kV,doc,pm,an,cdv,ct,osl,rfl,lk,hcd⟩:=F.ex;refine qga lk hcd S (fun vs H Q E h=>?_) fun A outer s H vs Q E hr hsp=>?_
 ·obtain⟨e,i,rfl,_⟩:=h
  exact ha.symm
 ·obtain⟨e,i,rfl,h1,h2,h3⟩:=hsp
  refine⟨_,(hb cdv A outer s H E hr).nox,e,i,?_,?_,h1,h2,fun dx a b=>h3 dx a b⟩ <;> (unfold L2.start;rw [hn];rfl)
end
def qfv(x nm:Str)(f:FE): FX:=fun ρ =>(f ρ).bind fun d=>match d with
 | .int i=>if i.natAbs.log2<1920 then some ((x,some (nm,i)), ρ) else none
 | _=>none
omit [Lam] [Pin] in
theorem Inv.dropX{X:Cx}{pins:List (Addr×Obj)}{σ : St}{H:Hp}{s:Shared}{e:Addr}{φ : Heap->Prop}(I:Inv X pins σ H s)(he:H e=some (.ext φ)): Inv X pins σ (less H e) s:=by
 have nn:∀ {b:Addr} {u:HO},H b=some u->(∀ φ,u ≠ .ext φ)->less H e b=some u:=fun {b u} e1 e2=>by
  rw [qls,e1];intro z;subst z;rw [he] at e1;cases e1;exact e2 _ rfl
 have nz:∀ {b:Addr},H b=none->less H e b=none:=fun {b} e1=>by unfold less;split <;> first|rfl|exact e1
 refine⟨I.ok,I.os,I.bare,⟨I.base.keep,I.base.slot,fun b o e1 n hx=>nz (I.base.free b o e1 n hx),I.base.there,fun b xs e1=>nn (I.base.tups b xs e1) nofun,fun b o xs e1=>nn (I.base.frzs b o xs e1) nofun,fun b ps e1=>?_⟩,I.loc,I.cell,nz I.free,fun y c e1=>nz (I.freeC y c e1),fun p hp=>?_,fun b u e1=>?_,I.len⟩
 ·obtain⟨more,e2⟩:=I.base.tbls b ps e1
  exact⟨more,nn e2 nofun⟩
 ·obtain⟨a1,a2,a3⟩:=I.pin p hp
  exact⟨a1,nz a2,a3⟩
 ·obtain⟨e2,ne⟩:=qjo e1
  exact(I.hok b u e2).stay (fun c v _ q=>q) (fun c q=>nn q nofun) fun c xs q=>nn q nofun
def qrg(s0:Heap)(C:Addr)(nm:Str)(te:TE): TE:=fun σ H Q=>te σ H fun x H1=>∃i,[x]=[V.int i]/\i.natAbs.log2<1920/\∀e dx,s0.get? e=none->H1 e=none->H1 dx=none->dx≠e->Q (.ref e) (upd (upd H1 e (.ext (XH e C dx))) dx (.xd [(nm,.int i)]))
section
variable{X:Cx}{pos:Pos}
omit [Lam] [Pin] in
theorem qtw{H:Hp}{a:Addr}{o o':HO}: upd (upd H a o) a o'=upd H a o':=by
 funext b
 unfold upd
 split <;> rfl
omit [Lam] [Pin] in
theorem qlz{C fI:Addr}{fdI:FuncData}{psI:List Str}{kI k':Nat}{x nm:Str}{np:Pos}{ea:Expr}{te:TE}(hC:q01 X.K C fI=true)(G:FnOk X.prog X.w X.K X.mg X.base CX0 kI fI fdI psI (spI C nm))(hbI:Binds X.K fdI psI [])(hfn:PySem.W.typeIn X.K (.ref fI)=some (.type "function"))(hkp:PySem.W.keepIn X.K (.ref C)=true)
  (hr:Room k' X.A) (hk:kI+1<=k') (hex:X.ex=[]) (hg:Gl X x) (hm:X.mg x=some (.ref C)) (ha:PE X ea te) (hd:(x==("__debug__" : Str))=false:=by decide)
  (hs:starEach [ea] X.env=(false,eval ea X.env) :: starEach [] X.env:=by rfl) (hpl:(backTo pos (starEach [] X.env)).any (·.1)=false:=by rfl) :
  PE X (.Call (.Name x np) [ea] [] pos) (qrg X.s₀.heap C nm te):=by
 intro pins s σ H Q I h;refine ue (kb I hg hm ?_ hd);refine g0u (h₀:=X.base) I.ok.mod.kin hkp (thn ((zr ha yj hs) pos pins s σ H (fun vs H1=>∃i,vs=[.int i]/\i.natAbs.log2<1920/\∀e dx,X.s₀.heap.get? e=none->H1 e=none->H1 dx=none->dx≠e->Q (.ref e) (upd (upd H1 e (.ext (XH e C dx))) dx (.xd [(nm,.int i)]))) I ?_) fun us s1 ⟨vs,H1,I1,r,i,ev,hi,q⟩=>⟨I1.kIn,?_⟩) hs hpl
 ·exact h
 subst ev;obtain⟨tl,N,nm',qn,bs,hdct,sn,sub,ab,col,dd,k0,k1,k2,k3,k5,mN,hCo,hNs,hni,T⟩:=q7p I1.kIn hC;obtain⟨oI,f1,f2⟩:∃oI,s1.heap.get? fI=some oI/\oI.cls=.type "function" :=by
  obtain⟨o,ho,e⟩:=gf.mp hfn;exact⟨o,I1.kIn _ _ ho,e⟩
 obtain⟨u,rfl,ru⟩:=r.one;obtain⟨hp,g,dr,tk,os⟩:=s1;refine qjq (rest:=[u]) T hCo hNs hni f1 f2 (by show 1<=sizeLine;decide) fun h' e hx=>?_;obtain⟨t,he,_,_⟩:=hx.there;have hH:H1 e=none:=by
  cases z:H1 e with
  | none=>rfl
  | some o=>
   obtain⟨ob,e1⟩:=has_obj (I1.hok e o z);rw [hx.new] at e1;cases e1
 have h0:X.s₀.heap.get? e=none:=by
  cases z:X.s₀.heap.get? e with
  | none=>rfl
  | some o=>
   obtain⟨o',e1⟩:=I1.base.there e o z (by rw [hex];intro z;cases z);rw [hx.new] at e1;cases e1
 have I2:Inv X pins σ (upd H1 e (.ext (XG e C))) ⟨h',g,dr,tk,os⟩:=qcv I1 hx.new (I1.kept (t':=tk) hx.keeps) hH ⟨⟨_,_,t,he,rfl,rfl,rfl,rfl,rfl⟩,⟨_,he⟩,fun ha hb ⟨o',ws',t',e1,er⟩ kk=>⟨o',ws',t',kk o' e1,er⟩⟩;have hq:spI C nm [.ref e,.int i] (upd H1 e (.ext (XG e C))) (fun v H'=>v=.non/\Q (.ref e) H') E0:=⟨e,i,rfl,z9,hi,fun dx a b=>⟨rfl,by rw [qtw];exact q e dx h0 hH (by rw [qy b] at a;exact a) b⟩⟩
 have r2:Vals [.ref e,.int i] [Value.ref e,u]:=.cons rfl (.cons ru .nil);have hl:([Value.ref e,u]++([]:List Value)).length=psI.length:=by rw [<- G.len _ _ _ _ hq];rfl
 refine g06 (g0n (G.run _ X.stack _ _ ⟨[Value.ref e,u],[]⟩ [Value.ref e,u] _ _ E0 ((hr.mono hk).make C [u] []) (I2.env0.make C [u] []) (hbI _ [Value.ref e,u] I2.kIn hl) r2 hq) fun r s' hq'=>?_)
 ·cases r with
  | error e=>exact hq'.elim
  | ok fl=>
   cases fl with
   | ret v=>
    obtain⟨v',H',I',rv,rfl,q'⟩:=I2.after hq';exact⟨rv,.ref e,H',I',(rfl:RelV (.ref e) (Value.ref e)),q'⟩
   | next=>exact False.elim hq'
   | brk=>exact False.elim hq'
   | cont=>exact False.elim hq'
end
section
variable{M:Model}{A:Around}{Ex:Value->Shared->Prop}{env:Env}{nm q:Str}{C N:Addr}{bs bm:List Value}{hdct:Bool}{sn:List Str}{sub:List Value}{ab:Bool}{col:Option Bool}{dd:Option Addr}{k0 k1 k2 k3 k5:Option Value}{newId:String}
omit [Lam] [Pin] in
theorem qh1{s:Shared}{x:Sem Value}{Q:Flow->Shared->Prop}(hh:A.handled=none)
  (h:wpAny M A x (fun v s₁=>∃nm q N bs bm hdct sn sub ab col dd k0 k1 k2 k3 k5 newId e o ws,bm.contains (.type "BaseException")=true/\v=.ref e/\s₁.heap.get? C=some (excClassObj nm q C N bs bm hdct sn sub ab col dd k0 k1 k2 k3 k5 newId)/\s₁.heap.get? e=some o/\o.cls=.ref C/\o.data=.fields ws/\ws[1]? = some .none/\Ex (.ref e) s₁) Ex s) :
  wpAny M A (raiseStmt env (some x) none) Q Ex s:=by
 unfold raiseStmt;refine g0 (n5 h (fun v s₁ h₁=>?_) fun _ _ x=>x);obtain⟨nm,q,N,bs,bm,hdct,sn,sub,ab,col,dd,k0,k1,k2,k3,k5,newId,e,o,ws,hbase,rfl,hC,he,hc,hdt,hw,hE⟩:=h₁;have hcB:(Value.ref C :: bm).contains (.type "BaseException")=true:=by rw [List.contains_cons,hbase,g58]
 obtain⟨hp,g,d,tk,os⟩:=s₁;obtain⟨oc,odd,odt,osl⟩:=o;dsimp only at hc hdt;subst hc hdt
 repeat (first|with_reducible refine g16 he ?_|with_reducible refine g16 hC ?_|(with_reducible refine wpAny_isSubtype_exc hC ?_;rw [hcB])|wp_step)
 rw [hw];refine g7 ?_;rw [m8 (by decide)];exact g7 (wpAny_raiseNew_none hh hE)
end
section
variable{P:Program}{w:World}{K:Frag}{mg:Str->Option Value}{base:Heap}{N:List Str}{qual:Str}{scope:Scope}{f:Addr}{cd:Value}{A:Around}{outer:List Env}{s0:Shared}{H0:Hp}{E:XK}{pos:Pos}
theorem qjs{C fI:Addr}{fdI:FuncData}{psI:List Str}{kI k':Nat}{x nm:Str}{np cpos:Pos}{ea:Expr}{fe:FE}(hC:q01 K C fI=true)(G:FnOk P w K mg base CX0 kI fI fdI psI (spI C nm))(hbI:Binds K fdI psI [])(hfn:PySem.W.typeIn K (.ref fI)=some (.type "function"))(hkp:PySem.W.keepIn K (.ref C)=true)
  (hr:Room k' (z5 (CXR P w) P w K mg base N qual scope f cd A outer s0 H0 E).A) (hk:kI+1<=k') (hg:Gl (z5 (CXR P w) P w K mg base N qual scope f cd A outer s0 H0 E) x) (hm:mg x=some (.ref C)) (hns:PySem.W.nsIn K mainGlobals x=some (some (.ref C)))
  (ha:PE (z5 (CXR P w) P w K mg base N qual scope f cd A outer s0 H0 E).nox ea (tD K fe)) (hd:(x==("__debug__" : Str))=false:=by decide)
  (hs:starEach [ea] (z5 (CXR P w) P w K mg base N qual scope f cd A outer s0 H0 E).env=(false,eval ea (z5 (CXR P w) P w K mg base N qual scope f cd A outer s0 H0 E).env) :: starEach [] (z5 (CXR P w) P w K mg base N qual scope f cd A outer s0 H0 E).env:=by rfl) :
  PS (z5 (CXR P w) P w K mg base N qual scope f cd A outer s0 H0 E) (.Raise (some (.Call (.Name x np) [ea] [] cpos)) none pos) (tXS K (qfv x nm fe) E):=by
 intro pins s σ H D I ⟨F0,H0',F, ρ,p, ρ',C',r,hv,hn,hE⟩;obtain⟨d,h1,h2⟩:=g8.mp hv
 split at h2
 ·rename_i i
  split at h2
  ·rename_i hi
   cases h2;rw [hns] at hn;cases hn;rw [arm_exec_Raise];refine g0 (g3j ?_);refine qh1 (C:=C) (I.ok.hd rfl) (g0 (thn ((qlz hC G hbI hfn hkp hr hk rfl hg hm (PE.nox' ha) hd hs) pins s σ H (fun v H'=>∃e dx F1 H1,s0.heap.get? e=none/\v=.ref e/\H1 e=none/\H1 dx=none/\dx≠e/\Grow F H F1 H1/\H'=upd (upd H1 e (.ext (XH e C dx))) dx (.xd [(nm,.int i)])) I ?_) fun v s1 ⟨v',H',I1,rv,e,dx,F1,H1,q0,ev,qe,qd,ne,g,eH⟩=>g0 (g3j (g7 ?_))))
   ·refine⟨F0,H0',F, ρ,_,r,h1,fun v F1 H1 g rp=>?_⟩
    obtain rfl:v=V.int i:=rp;exact⟨i,rfl,hi,fun e dx q0 qe qd ne=>⟨e,dx,F1,H1,q0,rfl,qe,qd,ne,g,rfl⟩⟩
   subst ev eH;obtain rfl:v=Value.ref e:=rv;obtain⟨tl,N,nm',qn,bs,hdct,sn,sub,ab,col,dd,k0,k1,k2,k3,k5,mN,hCo,hNs,hni,T⟩:=q7p I1.kIn hC;have he':upd (upd H1 e (.ext (XH e C dx))) dx (.xd [(nm,.int i)]) e=some (.ext (XH e C dx)):=by rw [qy (m5 ne),z9]
   obtain⟨⟨o,ws,e1,e2,e3,e4,e5⟩,_,_⟩:=(show ObjOk _ _ _ s1.heap e _ from I1.hok e _ he')
   refine⟨_,_,_,_,_,_,_,_,_,_,_,_,_,_,_,_,_,e,o,ws,T.hasType qfn,rfl,hCo,e1,e2,e4,e5,?_⟩;have hl:less (upd (upd H1 e (.ext (XH e C dx))) dx (.xd [(nm,.int i)])) e=upd H1 dx (.xd [(nm,.int i)]):=by
    funext b
    unfold less upd
    split
    ·rename_i z;subst z;rw [m8 (m5 ne)];exact qe.symm
    ·rfl
   have I2:=Inv.dropX I1 he';rw [hl] at I2;refine qao I2 e1 ⟨e2,e3⟩ e4 e5 (by rw [qy (m5 ne)];exact qe) q0 ?_;exact hE (upd F1 dx (.xd [(nm,.int i)])) _ σ (some dx) ((r.grow g).grow (Grow.new g.fh qd)) (z9)
  ·cases h2
 ·cases h2
end
def eXF(x nm:Str)(f:FE): FE:=fun ρ =>(f ρ).bind fun d=>match d with
 | .exc y (some p)=>if y=x/\p.1=nm then some (.int p.2) else none
 | _=>none
section
variable{X:Cx}{pos:Pos}
theorem qon{x nm:Str}{C:Addr}{e:Expr}{f:FE}(hns:PySem.W.nsIn X.K mainGlobals x=some (some (.ref C)))(c:ClsI X.K C nm)(he:PE X e (tD X.K f))(hb:attributeBase e nm X.env (eval e X.env)=eval e X.env:=by rfl): PE X (.Attribute e nm pos) (tD X.K (eXF x nm f)):=by
 intro pins s σ H Q I ⟨F0,H0,F, ρ,d',r,hf,q⟩;obtain⟨d,h1,h2⟩:=g8.mp hf
 split at h2
 ·rename_i y p
  split at h2
  ·rename_i hc
   obtain⟨rfl,rfl⟩:=hc;cases h2;refine qnm hb (thn (he pins s σ H (fun v H1=>∃F1,Grow F H F1 H1/\Rep X.K F1 (.exc y (some p)) v) I ⟨F0,H0,F, ρ,_,r,h1,fun v F1 H1 g rv=>⟨F1,g,rv⟩⟩) fun u s1 ⟨v,H1,I1,rv,F1,g,rp⟩=>?_);obtain⟨a,C',rfl,⟨od,ea,xf⟩,hn,cx⟩:=rep_exc.mp rp;obtain rfl:u=Value.ref a:=rv;cases hns.symm.trans hn;cases od with
   | none=>exact xf.elim
   | some dx=>
    obtain⟨⟨o,vs,e1,e2,e3,e4⟩,_,_⟩:=(show ObjOk X.prog X.w H1 s1.heap a _ from I1.hok a _ (g.fh _ _ ea))
    obtain⟨mA,ns1,rl⟩:=(show ObjOk X.prog X.w H1 s1.heap dx _ from I1.hok dx _ (g.fh _ _ xf))
    have rl1:=rl p.1;rw [my,show(p.1==p.1)=true from g2g p.1] at rl1;obtain⟨ob,ho,hl⟩:=qa6 ns1;cases hm:mA p.1 with
    | none=>rw [hm] at rl1;exact rl1.elim
    | some u=>
     rw [hm] at rl1;obtain⟨t,rfl⟩:=(show ∃t,u=Value.int p.2 t from rl1)
     exact qlw cx.1 I1.kIn ⟨e1,e2,by unfold PySem.W.notCls;rw [e4],by rw [e3];exact ho⟩ e4 (PySem.W.findObj_own c.hd c.na rfl (by rw [hl,hm])) rfl ⟨.int p.2,H1,I1.tok _,⟨t,rfl⟩,q _ F1 H1 g (by simp only [Rep])⟩
  ·cases h2
 ·cases h2
end
end DL
namespace DL
open PySem PySem.Spec PyProof.Rows L2
section
variable{K:Frag}{F:Hp}{a:Addr}{xs0:List V}{ds:List D}
end
variable[Lam][Pin]
open Classical in
section
variable{K:Frag}{F0 H0 F H F' H':Hp}{σ : St}{ρ ρ1:Rho}{i:Nat}{ds:List D}{a:Addr}{xs:List V}
end
section
variable{X:Cx}{e:Expr}{f:FE}{m:FM}
end
end DL
namespace DL
open PySem PySem.Spec PyProof.Rows L2
variable[Lam][Pin]
section
variable{X:Cx}{K:Frag}{st:Stmt}{rest:List Stmt}{u u1 u2:FS}{i:Nat}{pos p px:Pos}{x:Str}
end
section
variable{P:Program}{w:World}{K:Frag}{mg:Str->Option Value}{base:Heap}{x qual:Str}{st:Stmt}{dV:Value}{f:Addr}{fd:FuncData}{N ps:List Str}
end
section
variable{X:Cx}{e e':Expr}{f:FE}{y:Str}{b:Bool}{t:List (Str×Bool)}
end
section
variable{X:Cx}{pos p:Pos}{σ0:St}{E:XK}{pins:List (Addr×Obj)}
end
section
variable{X:Cx}{a b e:Expr}{es:List Expr}{pos p:Pos}{f g:FM}{fa:FAM}
end
end DL
namespace Js
open PySem
open Sem (wp)
abbrev PK2:=List Int×List Int
def IsPair(prog:Program)(w:World)(h:Heap)(k:PK2)(a:Addr): Prop:=∃o p q n,h.get? a=some o/\o.cls=.type "tuple" /\ o.data=.seq #[.ref p,.ref q] n/\(TK prog w).is h k.1 p/\(TK prog w).is h k.2 q
section
variable{prog:Program}{w:World}{A:Around}{E:Value->Shared->Prop}{s:Shared}
theorem IsPair.typeIs{k:PK2}{a:Addr}(x:IsPair prog w s.heap k a): s.TypeIs (.ref a) "tuple" :=let⟨o,_,_,_,ho,hc,_⟩:=x; ⟨o,ho,hc⟩
theorem IsPair.inj{h:Heap}{a:Addr}{x y:PK2}(hx:IsPair prog w h x a)(hy:IsPair prog w h y a): x=y:=by
 obtain⟨o,p,q,n,ho,_,hd,h1,h2⟩:=hx;obtain⟨o',p',q',n',ho',_,hd',h1',h2'⟩:=hy;obtain rfl:o=o':=mi (ho.symm.trans ho');rw [hd] at hd';injection hd' with e1 _
 simp only [Array.mk.injEq,g4q,Value.ref.injEq,and_true] at e1;obtain⟨rfl,rfl⟩:=e1;have a1:=(TK prog w).inj h1 h1';have a2:=(TK prog w).inj h2 h2';obtain⟨x1,x2⟩:=x;obtain⟨y1,y2⟩:=y;simp only at a1 a2;rw [a1,a2]
theorem IsPair.keeps{h h':Heap}{k:PK2}{a d:Addr}{o:Obj}{es ep}(x:IsPair prog w h k a)(ho:h.get? d=some o)(hd:o.data=.dict es ep)(hs:Heap.SameBut d h h'): IsPair prog w h' k a:=by
 obtain⟨o',p,q,n,ho',hc,hd',h1,h2⟩:=x;have hne:a≠d:=by
  rintro rfl
  obtain rfl:o'=o:=mi (ho'.symm.trans ho);rw [hd] at hd';exact nomatch hd'
 exact⟨o',p,q,n,(hs.2 a hne).trans ho',hc,hd',(TK prog w).keeps h1 ho hd hs,(TK prog w).keeps h2 ho hd hs⟩
theorem IsPair.stay{h h':Heap}{k:PK2}{a:Addr}(x:IsPair prog w h k a)(e:∀b o,h.get? b=some o->(b=a\/True)->h'.get? b=some o): IsPair prog w h' k a:=by
 obtain⟨o,p,q,n,ho,hc,hd,h1,h2⟩:=x;exact⟨o,p,q,n,e a o ho (.inl rfl),hc,hd,w4 h1 fun o z=>e _ o z (.inr trivial),w4 h2 fun o z=>e _ o z (.inr trivial)⟩
def qn6(k:PK2): Int:=reduceHash (Builtin.Tuple.tupleHashOf [tupleKeyHash (intKind prog w) k.1,tupleKeyHash (intKind prog w) k.2])
def q5u(k:PK2): Nat:=(k.1.length+1)+(k.2.length+1)+1
theorem qed{k:PK2}{a:Addr}{Q:Int->Shared->Prop}(hu:A.units+8<cLine)(hk:IsPair prog w s.heap k a)(h:Q (qn6 (prog:=prog) (w:=w) k) {s with toks:=s.toks+q5u k}):
  wpAny (model prog w) A (pyHash (.ref a)) Q E s:=by
 have hT:=hk.typeIs;obtain⟨o,p,q,n,ho,_,hd,h1,h2⟩:=hk;unfold pyHash
 first|unfold pyHashByItsType|skip
 first|refine g0 (wpAny_cRoomFor_or (.inr (by lia)) ?_)|skip
 refine g0 (g1r hT g2c.lookup ?_);show wpAny _ _ (if(some (Value.builtin "tuple.__hash__")==some Value.none)=true then _ else _) Q E s;rw [m8 (by rw [beq_builtin_none];exact gs)];refine g0 (g1r hT g2c.lookup ?_);show wpAny _ _ (callSpecialIfBoundUnlessNone? (.ref a) "__hash__" _ >>= _) Q E s;refine g0 (wpAny_callSpecialIfBoundUnlessNone?_slot hT g2c (n6 g2c hT F.entry_tuple_hash ?_ (F.args_tuple_hash_1 _)));show wpAny _ _ (Builtin.Tuple.tupleItemsOf (.ref a) >>= _) _ _ s;refine g0 (g3h ho hd ?_);refine g0 ?_;rw [<- g20];refine g2j _
  (fun rest (b:Array Int) s'=>∃done left:List (List Int×Addr),[(k.1,p),(k.2,q)]=done++left/\rest=left.map (fun z=>Value.ref z.2)/\b.toList=done.map (fun z=>tupleKeyHash (intKind prog w) z.1)/\s' = {s with toks:=s.toks+(done.map fun z=>z.1.length+1).sum})
  _ ?_ ?_ _ _ ⟨[],[(k.1,p),(k.2,q)],rfl,rfl,rfl,rfl⟩
 ·rintro x rest b s' ⟨done,left,e,hl,hb,rfl⟩
  cases left with
  | nil=>cases hl
  | cons z left=>
   simp only [gh,g4q] at hl;obtain⟨rfl,rfl⟩:=hl;have hz:z∈[(k.1,p),(k.2,q)]:=by rw [e];simp
   have hz2:(TK prog w).is s.heap z.1 z.2:=by
    rcases m4.mp hz with rfl|hz
    ·exact h1
    ·rw [tf.mp hz];exact h2
   refine g0 ((TK prog w).pyHash (s:={s with toks:=s.toks+(done.map fun z=>z.1.length+1).sum}) (show A.units+1<cLine by lia) hz2 ?_)
   first
    | exact g7 ⟨done++[z],left,by rw [e];simp,rfl,by simp [hb];rfl,by simp [g3l];rfl⟩
    | exact g0 (g7 (g7 ⟨done++[z],left,by rw [e];simp,rfl,by simp [hb];rfl,by simp [g3l];rfl⟩))
 ·rintro b s' ⟨done,left,e,hl,hb,rfl⟩
  have el:left=[]:=by
   cases left with
   | nil=>rfl
   | cons z l=>cases hl
  rw [el,pk] at e;rw [<- e] at hb ⊢;show wpAny _ _ (retInt (Builtin.Tuple.tupleHashOf b.toList)) _ _ _;rw [hb];refine wpAny_ret_mkInt ?_;generalize eh:Builtin.Tuple.tupleHashOf (([(k.1,p),(k.2,q)]:List (List Int×Addr)).map (fun z=>tupleKeyHash (intKind prog w) z.1))=hh;have h':Q (reduceHash hh) {s with toks:=s.toks+q5u k}:=by rw [<- eh];exact h
  show wpAny _ _ (if(decide (-(2:Int) ^ 63<=hh)&&decide (hh<2 ^ 63))=true then _ else _) Q E _;unfold reduceHash at h'
  by_cases hr:(decide (-(2:Int) ^ 63<=hh)&&decide (hh<2 ^ 63))=true
  ·rw [gx hr]
   rw [gx hr] at h';exact g7 (by simpa [q5u,g3l] using h')
  ·rw [m8 hr]
   rw [m8 hr] at h';exact g0 (g07 (g7 (by simpa [q5u,g3l] using h')))
theorem qd0{x y:PK2}{a b:Addr}{P:Fin->Shared->Prop}(hu:A.units+4<cLine)(hx:IsPair prog w s.heap x a)(hy:IsPair prog w s.heap y b)(h:P (.done (.ret (.bool (decide (x=y))))) s):
  wpAny (model prog w) A (Builtin.«tuple.__eq__» ⟨[.ref a,.ref b],[]⟩) P E s:=by
 have hTb:=hy.typeIs;obtain⟨oa,p,q,na,hoa,_,hda,h1,h2⟩:=hx;obtain⟨ob,p',q',nb,hob,_,hdb,h1',h2'⟩:=hy;show wpAny _ _ (isInstance (.ref b) (.type "tuple") >>= _) _ _ s;refine g0 (g04 hTb g2p ?_);simp only [pd,gu,p7];refine g0 (g3h hoa hda ?_);refine g0 (g3h hob hdb ?_);refine g0 ?_;refine g2j _
  (fun rest r s'=>r.1=none/\s'=s/\∃done left:List ((List Int×Addr)×(List Int×Addr)),[((x.1,p),(y.1,p')),((x.2,q),(y.2,q'))]=done++left/\rest=left.map (fun z=>(Value.ref z.1.2,Value.ref z.2.2))/\∀z∈done,z.1.1=z.2.1)
  _ ?_ ?_ _ _ ⟨rfl,rfl,[],[((x.1,p),(y.1,p')),((x.2,q),(y.2,q'))],rfl,rfl,fun z hz=>(nomatch hz)⟩
 ·rintro⟨u,v⟩ rest r s' ⟨hr,rfl,done,left,e,hl,hd⟩
  cases left with
  | nil=>cases hl
  | cons z left=>
   simp only [gh,g4q,Prod.mk.injEq] at hl;obtain⟨⟨rfl,rfl⟩,rfl⟩:=hl;have hz:z∈[((x.1,p),(y.1,p')),((x.2,q),(y.2,q'))]:=by rw [e];simp
   have hz2:(TK prog w).is s'.heap z.1.1 z.1.2/\(TK prog w).is s'.heap z.2.1 z.2.2/\(z.1.1≠z.2.1->x≠y):=by
    rcases m4.mp hz with rfl|hz
    ·exact⟨h1,h1',fun n e=>n (by rw [e])⟩
    ·rw [tf.mp hz];exact⟨h2,h2',fun n e=>n (by rw [e])⟩
   refine g0 ((TK prog w).eqBool (show A.units<cLine by lia) hz2.1 hz2.2.1 ?_)
   by_cases hk:z.1.1=z.2.1
   ·rw [ma hk]
    simp only [pd,gu,p7];refine g7 ⟨rfl,rfl,done++[z],left,by rw [e];simp,rfl,fun c hc=>?_⟩;rcases nh.mp hc with hc|hc
    ·exact hd c hc
    ·rw [tf.mp hc];exact hk
   ·rw [m6 hk]
    simp only [g36,pz];have hf:decide (x=y)=false:=m6 (hz2.2.2 hk);rw [hf] at h;exact g0 (g7 (g7 (g7 h)))
 ·rintro⟨r1,r2⟩ s' ⟨hr,rfl,done,left,e,hl,hd⟩
  simp only at hr;subst hr;refine g7 ?_;have el:left=[]:=by
   cases left with
   | nil=>rfl
   | cons z l=>cases hl
  rw [el,pk] at e;have a1:=hd ((x.1,p),(y.1,p')) (by rw [<- e];simp);have a2:=hd ((x.2,q),(y.2,q')) (by rw [<- e];simp);have hxy:x=y:=by
   obtain⟨x1,x2⟩:=x;obtain⟨y1,y2⟩:=y;simp only at a1 a2;rw [a1,a2]
  rw [ma hxy] at h;exact h
theorem qee{x y:PK2}{a b:Addr}{Q:Bool->Shared->Prop}(hu:A.units+8<cLine)(hx:IsPair prog w s.heap x a)(hy:IsPair prog w s.heap y b)(h:Q (decide (x=y)) s):
  wpAny (model prog w) A (eqBool (.ref a) (.ref b)) Q E s:=by
 unfold eqBool
 try with_reducible refine mq ?_
 show wpAny _ _ (if(Value.ref a==Value.ref b)=true then _ else _) Q E s
 by_cases hab:(Value.ref a==Value.ref b)=true
 ·rw [gx hab]
  have e:a=b:=by have:=eq_of_beq hab;injection this
  subst e;obtain rfl:=hx.inj hy;exact g0 (g07 (g7 (by simpa using h)))
 ·rw [m8 hab]
  exact g0 (wpAny_richCompare_same_room (op:=.Eq) hx.typeIs hy.typeIs g30
   (n6 g30 hx.typeIs F.entry_tuple_eq (qd0 (show A.units+1+4<cLine by lia) hx hy ⟨_,rfl,(fun e=>nomatch e),um h⟩) (F.args_tuple_eq_2 _ _)) (by lia))
theorem qjt{ks:List Int}{a:Addr}{Q:Bool->Shared->Prop}(hk:(TK prog w).is s.heap ks a)(h:Q true s): wpAny (model prog w) A (eqIsQuiet 7 (.ref a)) Q E s:=by
 have hT:=IsTupleKey.typeIs hk;obtain⟨o,items,n,ho,_,hd,hi⟩:=hk;unfold eqIsQuiet;refine g0 (g1r hT g30.lookup ?_);show wpAny _ _ (isInstance (.ref a) (.type "tuple") >>= _) _ _ s;refine g0 (g04 hT g2p ?_);simp only [pd,gu,p7];refine g0 (g26 ho hd ?_);refine g0 ?_;show wpAny _ _ (forIn items _ _) _ _ s;rw [<- g20];refine g2j _ (fun rest r s'=>r.1=none/\s'=s/\∀v∈rest,carriedByValue v=true) _ ?_ ?_ _ _ ⟨rfl,rfl,hi.byValue⟩
 ·rintro v rest r s' ⟨hr,rfl,hall⟩
  rw [eqIsQuiet_byValue _ (hall v gv)];refine g0 (g7 ?_);simp only [pd,gu,p7];exact g7 ⟨rfl,rfl,fun u hu'=>hall u (gy _ hu')⟩
 ·rintro⟨r1,r2⟩ s' ⟨hr,rfl,_⟩
  simp only at hr;subst hr;exact g7 h
theorem qh2{k:PK2}{a:Addr}{Q:Bool->Shared->Prop}(hk:IsPair prog w s.heap k a)(h:Q true s): wpAny (model prog w) A (eqIsQuiet 8 (.ref a)) Q E s:=by
 have hT:=hk.typeIs;obtain⟨o,p,q,n,ho,_,hd,h1,h2⟩:=hk;unfold eqIsQuiet;refine g0 (g1r hT g30.lookup ?_);show wpAny _ _ (isInstance (.ref a) (.type "tuple") >>= _) _ _ s;refine g0 (g04 hT g2p ?_);simp only [pd,gu,p7];refine g0 (g26 ho hd ?_);refine g0 ?_;show wpAny _ _ (forIn #[Value.ref p,Value.ref q] _ _) _ _ s;rw [<- g20];refine g2j _ (fun rest r s'=>r.1=none/\s'=s/\∀v∈rest,v=Value.ref p\/v=Value.ref q) _ ?_ ?_ _ _ ⟨rfl,rfl,by intro v hv;simpa using hv⟩
 ·rintro v rest r s' ⟨hr,rfl,hall⟩
  have hv:=hall v gv;have go:wpAny (model prog w) A (eqIsQuiet 7 v) (fun b s''=>b=true/\s''=s') E s':=by
   rcases hv with rfl|rfl
   ·exact qjt h1 ⟨rfl,rfl⟩
   ·exact qjt h2 ⟨rfl,rfl⟩
  refine g0 (n5 go (fun b s'' hb=>?_) fun _ _ z=>z);obtain⟨rfl,rfl⟩:=hb;simp only [pd,gu,p7];exact g7 ⟨rfl,rfl,fun u hu'=>hall u (gy _ hu')⟩
 ·rintro⟨r1,r2⟩ s' ⟨hr,rfl,_⟩
  simp only at hr;subst hr;exact g7 h
end
def PKd(prog:Program)(w:World): HeapKind prog w PK2 where
 is:=IsPair prog w
 hash:=qn6 (prog:=prog) (w:=w)
 draws:=q5u
 room:=fun A=>A.units+8<cLine
 inj:=fun hx hy=>hx.inj hy
 keeps:=fun x ho hd hs=>x.keeps ho hd hs
 pyHash:=fun hu hk h=>qed hu hk h
 eqBool:=fun hu hx hy h=>qee hu hx hy h
 quiet:=fun hk h=>qh2 hk h
end Js
namespace Js
open PySem
structure Prs2(prog:Program)(w:World)(h:Heap)(vs:List Value)(ps:List (PK2×Addr×Value)): Prop where
 len:vs.length=ps.length
 pair:∀(i:Nat) (p:PK2×Addr×Value),ps[i]? = some p->∃q,vs[i]? = some (.ref q)/\h.IsTuple q #[.ref p.2.1,p.2.2]
 key:∀p∈ps,(PKd prog w).is h p.1 p.2.1
theorem q5v{prog:Program}{w:World}{h h':Heap}{k:PK2}{a:Addr}(x:(PKd prog w).is h k a)(e:∀b o,h.get? b=some o->h'.get? b=some o): (PKd prog w).is h' k a:=IsPair.stay x fun b o z _=>e b o z
section
variable{prog:Program}{w:World}{A:Around}{R:Result->Shared->Prop}
theorem qh3{vs:List Value}{ps:List (PK2×Addr×Value)}{N I S L:Addr}(hu:A.units+9<cLine)(hh:A.in1.handled=none)(hSN:N<=S)(hIN:N<=I)(hLN:L<N)(hSI:S≠I)(h0:Heap)(hN:∀b o,h0.get? b=some o->b<N)(P0:Prs2 prog w h0 vs ps)(hl0:h0.IsList L vs.toArray)(hnd:(ps.map (·.1)).Nodup)(hz:ps.length<=sizeLine):
  ∀(k i:Nat) (s:Shared) (j:Int) (tj:Tok),ps.length-i=k->i<=ps.length->s.heap.IsListIter I L i->(∀b o,h0.get? b=some o->s.heap.get? b=some o)->s.heap.DictOfH (PKd prog w) S (ps.take i) ->
   (∀s',s'.gens=s.gens->s'.drawn=s.drawn->s'.os=s.os->s.toks<=s'.toks->(∀b o,h0.get? b=some o->s'.heap.get? b=some o)->s'.heap.DictOfH (PKd prog w) S ps->R (.ok (.ret .none)) s') ->
   codeAny (model prog w) A (.builtin "dict.update.loop" ⟨[.ref S,.ref I,.int j tj,.none],[]⟩) R s:=by
 intro k
 induction k with
 | zero=>
  intro i s j tj hk hi hit hkeep hd hR;have hin:i=ps.length:=by lia
  subst hin;refine nu q0b ?_;rw [ng xk _];have hls:s.heap.IsList L vs.toArray:=let⟨o,ho,r⟩:=hl0; ⟨o,hkeep L o ho,r⟩
  show wpAny _ A.in1 (pyNext (.ref I) >>= _) _ _ s;refine g0 (g2k hh hit hls (by simp [P0.len]) fun h' he=>?_);show wpAny _ A.in1 (Builtin.Dict.addKeywords S [] >>= _) _ _ _;refine g0 (g7 (g7 ?_));rw [u9 (gq _)] at hd;refine hR _ rfl rfl rfl (gq _) (fun b o e=>he b o (gw (gj (hN b o e) hIN)) (hkeep b o e)) ?_;obtain⟨o,es,ep,ho,hc,hdd,hes,his,hn⟩:=hd;exact⟨o,es,ep,he S o hSI ho,hc,hdd,hes,fun x hx=>q5v (P0.key x hx) fun b o' e=>he b o' (gw (gj (hN b o' e) hIN)) (hkeep b o' e),hn⟩
 | succ k ih=>
  intro i s j tj hk hi hit hkeep hd hR;have hlt:i<ps.length:=by lia
  have hp:ps[i]? = some ps[i]:=m9 hlt;obtain⟨q,hq,hqt⟩:=P0.pair i _ hp;have hkey:=P0.key _ (g0p hlt);generalize ps[i]=p at hp hq hqt hkey;refine nu q0b ?_;rw [ng xk _];have hls:s.heap.IsList L vs.toArray:=let⟨o,ho,r⟩:=hl0; ⟨o,hkeep L o ho,r⟩
  show wpAny _ A.in1 (pyNext (.ref I) >>= _) _ _ s;refine g0 (g2d hit hls (x:=.ref q) (by simpa using hq) fun h' hit' hs'=>?_);have keep1:∀b o,h0.get? b=some o->h'.get? b=some o:=fun b o e=>hs'.extBut b o (gw (gj (hN b o e) hIN)) (hkeep b o e);have hqt1:h'.IsTuple q #[.ref p.2.1,p.2.2]:=let⟨o,ho,r⟩:=hqt; ⟨o,keep1 q o ho,r⟩
  have hkey1:(PKd prog w).is h' p.1 p.2.1:=q5v hkey fun b o e=>keep1 b o e;have hd1:h'.DictOfH (PKd prog w) S (ps.take i):=by
   obtain⟨o,es,ep,ho,hc,hdd,hes,his,hn⟩:=hd;exact⟨o,es,ep,hs'.extBut S o hSI ho,hc,hdd,hes,fun x hx=>q5v (P0.key x (g2x hx)) fun b o' e=>keep1 b o' e,hn⟩
  dsimp only;refine g0 (mq ?_);refine g0 (wpAny_tryCatch ?_);unfold Builtin.Dict.pairItems;obtain⟨oq,hoq,hcq,nq,hdq⟩:=hqt1;refine g0 (td (s:={s with heap:=h'}) (T:="tuple") ⟨oq,hoq,hcq⟩ ?_);rw [gx (by decide)];refine g0 (g26 (s:={s with heap:=h'}) hoq hdq (g7 ?_));dsimp only [Option.getD_some];refine mq ?_;have hnone:atKey (ps.take i) p.1=none:=by
   refine g2b fun jj pp e=>?_;have hjj:jj<i:=by
    have:=(mj.mp e).1;rw [ni] at this;lia
   have e':ps[jj]? = some (p.1,pp):=by rw [g0o hjj] at e;exact e
   have:=idxH_unique hnd e' (show ps[i]? = some (p.1,p.2) from hp);lia
  refine g3e (s:={s with heap:=h'}) (show(PKd prog w).room A.in1 from hu) hkey1 hd1 (fun h2 hd2 hs2=>?_) (by rw [ni];lia);rw [storedH_new hnone,show ps.take i++[(p.1,p.2.1,p.2.2)]=ps.take (i+1) by rw [g25,hp];rfl] at hd2;have ne2:∀b o,h0.get? b=some o->b≠S:=fun b o e=>gw (gj (hN b o e) hSN);refine g7 ⟨ud xk _,ih (i+1) _ _ _ (by lia) hlt ?_ (fun b o e=>?_) hd2 fun s' a1 a2 a3 a4 a5 a6=>?_⟩
  ·obtain⟨o,ho,r⟩:=hit'
   exact⟨o,hs2.extBut I o (m5 hSI) ho,r⟩
  ·exact hs2.extBut b o (ne2 b o e) (keep1 b o e)
  ·exact hR s' a1 a2 a3 (mh (g4a _ _) a4) a5 a6
end
section
variable{prog:Program}{w:World}{A:Around}{E:Value->Shared->Prop}{s:Shared}
theorem q7q{L:Addr}{vs:List Value}{n0:Nat}{ps:List (PK2×Addr×Value)}{Q:Value->Shared->Prop}(hu:A.units+16<cLine)(hh:A.handled=none){sl:Array (Option Value)}(hL:s.heap.get? L=some {cls:=.type "list",dict:=none,data:=.seq vs.toArray n0,slots:=sl})(P0:Prs2 prog w s.heap vs ps)(hnd:(ps.map (·.1)).Nodup)(hz:ps.length<=sizeLine)
  (h:∀h' tk,(∀b o,s.heap.get? b=some o->h'.get? b=some o)->h'.DictOfH (PKd prog w) s.heap.objs.size ps->Q (.ref s.heap.objs.size) {s with heap:=h',toks:=tk}) :
  wpAny (model prog w) A (call (.type "dict") [.ref L]) Q E s:=by
 refine callType_codes (Q₁:=fun obj s₁=>obj=.ref s.heap.objs.size/\s₁ = {s with heap:=s.heap.push {cls:=.type "dict",data:=.dict #[]} }) g4b (g2y _) g3s (g4c _ ⟨rfl,rfl⟩) ?_
 rintro obj s₁ ⟨rfl,rfl⟩
 let dO:Obj:={cls:=.type "dict",data:=.dict #[]}
 have hnew:(s.heap.push dO).DictOfH (PKd prog w) s.heap.objs.size []:=g4d s.heap;have hTd:Shared.TypeIs {s with heap:=s.heap.push dO} (.ref s.heap.objs.size) "dict" :=⟨dO,gp _ rfl,rfl⟩
 have hL1:(s.heap.push dO).get? L=some {cls:=.type "list",dict:=none,data:=.seq vs.toArray n0,slots:=sl}:=g9 _ hL;refine⟨hTd,g3f _ _,?_⟩;unfold Builtin.«dict.__init__»;refine g0 ?_;unfold Builtin.Dict.selfAndRest;refine g0 (g1c hTd ?_);show wpAny _ _ (pure (s.heap.objs.size,[Value.ref L])) _ _ _;refine g7 ?_;show wpAny _ _ (Builtin.Dict.updateFrom "dict.__init__" s.heap.objs.size (.ref L) [] .none) _ _ _;unfold Builtin.Dict.updateFrom;refine g0 (td (T:="list") ⟨_,hL1,rfl⟩ ?_);rw [gx (by decide)];refine g0 (qan (s:={s with heap:=s.heap.push dO}) hL1 (by simpa using hh) fun h1 tk1 k1=>?_);rw [gx (by rfl)];refine g0 (g07 ?_);have hL2:h1.IsList L vs.toArray:=⟨_,k1 _ _ hL1,rfl,n0,rfl⟩
 refine g0 (g13 (s:={s with heap:=h1,toks:=tk1}) hL2 ?_)
 let iO:Obj:={cls:=.type "list_iterator",data:=.fields #[.ref L,.int 0 0]}
 have hz1:s.heap.objs.size+1<=h1.objs.size:=gi (k1 _ _ (gp s.heap (o:=dO) rfl));have hLs:L<s.heap.objs.size:=gi hL;have keep:∀b o,s.heap.get? b=some o->(h1.push iO).get? b=some o:=fun b o e=>g9 _ (k1 b o (g9 _ e));have hd0:(h1.push iO).DictOfH (PKd prog w) s.heap.objs.size []:=by
  obtain⟨o,es,ep,ho,hc,hdd,hes,his,hn⟩:=hnew;exact⟨o,es,ep,g9 _ (k1 _ _ ho),hc,hdd,hes,fun x hx=>(nomatch hx),hn⟩
 refine g7 ⟨ud xk _,qh3 (A:=A.in1) (N:=s.heap.objs.size) (I:=h1.objs.size) (S:=s.heap.objs.size) (L:=L) (vs:=vs) (ps:=ps) (by show A.units+1+9<cLine;lia) (by simpa using hh) (gq _) (g3t hz1) hLs (gw hz1) s.heap (fun b o e=>gi e) P0 ⟨_,hL,rfl,n0,rfl⟩ hnd hz
  ps.length 0 _ _ _ rfl (pj _) ⟨iO,gp _ rfl,rfl,rfl⟩ keep hd0 fun s' a1 a2 a3 a4 a5 a6=>?_⟩
 obtain⟨h',g',d',tk',os'⟩:=s';dsimp only at a1 a2 a3 a4 a5 a6;subst a1;subst a2;subst a3;exact⟨rfl,h h' tk' a5 a6⟩
end
end Js
namespace DL
open PySem PySem.Spec PyProof.Rows L2
variable[Lam][Pin]
def q4t:List D->Option (List (List Int×List Int))
 | []=>some []
 | .tup [.tup [.tup a,.tup b],.bl true] :: r=>(zy a).bind fun k1=>(zy b).bind fun k2=>(q4t r).map fun p=>(k1,k2) :: p
 | _ :: _=>none
def q8q:List D->Option D
 | [.lst ds]=>(q4t ds).bind fun p=>if p.Nodup/\ds.length<=lim then some (.dt2 p) else none
 | _=>none
def q26:D->D->Option D
 | .tup [.tup a,.tup b],.dt2 ks=>(zy a).bind fun k1=>(zy b).map fun k2=>.bl (decide ((k1,k2)∈ks))
 | _,_=>none
section
variable{X:Cx}{pins:List (Addr×Obj)}{σ : St}{H F:Hp}{s:Shared}
omit [Lam] [Pin] in
theorem q9t(I:Inv X pins σ H s)(fh:Same F H){k:List Int×List Int}{a:Addr}(h:SqP X.K F a k): (Js.PKd X.prog X.w).is s.heap k a:=by
 obtain⟨p,q,h1,h2,h3⟩:=h;obtain⟨its,r,⟨o,ho,hc,n,hd⟩,_⟩:=I.tuple (qu fh h1);obtain⟨u1,u2,rfl,r1,r2⟩:=r.two;cases r1;cases r2;exact⟨o,p,q,n,ho,hc,hd,w6 I fh h2,w6 I fh h3⟩
omit [Lam] [Pin] in
theorem qd1{a b:List D}{k1 k2:List Int}{v:V}(h1:zy a=some k1)(h2:zy b=some k2)(r:Rep X.K F (.tup [.tup a,.tup b]) v): ∃c,v=.ref c/\SqP X.K F c (k1,k2):=by
 obtain⟨c,xs,rfl,c1,c2⟩:=rep_tup.mp r;obtain⟨x1,z1,rfl,d1,d2⟩:=c2.cons_inv;obtain⟨x2,z2,rfl,e1,e2⟩:=d2.cons_inv;cases e2.nil_inv;obtain⟨p,ps,rfl,p1,p2⟩:=rep_tup.mp d1;obtain⟨q,qs,rfl,q1,q2⟩:=rep_tup.mp e1;rw [ints_rep h1 p2] at p1;rw [ints_rep h2 q2] at q1;exact⟨c,rfl,p,q,c1,p1,q1⟩
omit [Lam] [Pin] in
theorem qfw (I:Inv X pins σ H s) (fh:Same F H):∀ {ds:List D} {ys:List V} {its:List Value} {ks:List (List Int×List Int)},q4t ds=some ks->RepL X.K F ds ys->Vals ys its ->
  ∃(ps:List ((List Int×List Int)×Addr×Value)),Js.Prs2 X.prog X.w s.heap its ps/\ps.map (·.1)=ks/\(∀p∈ps,SqP X.K F p.2.1 p.1)
 | [],ys,its,ks,h,k,r=>by
  cases h;cases k.nil_inv;cases r;exact⟨[],⟨rfl,fun i p e=>by simp at e,fun p hp=>(nomatch hp)⟩,rfl,fun p hp=>(nomatch hp)⟩
 | d :: ds,ys,its,ks,h,k,r=>by
  unfold q4t at h
  split at h
  ·cases ‹_ :: _=[]›
  ·rename_i da db r' e
   injection e with e1 e2
   subst e1;subst e2;obtain⟨k1,h1,h⟩:=g8.mp h;obtain⟨k2,h2,h⟩:=g8.mp h;obtain⟨p,h3,h4⟩:=gf.mp h;cases h4;obtain⟨x,ys',rfl,a1,a2⟩:=k.cons_inv;obtain⟨q,qs,rfl,b1,b2⟩:=rep_tup.mp a1;obtain⟨x1,z1,rfl,c1,c2⟩:=b2.cons_inv;obtain⟨x2,z2,rfl,d1,d2⟩:=c2.cons_inv;cases d2.nil_inv;obtain⟨ka,rfl,kk⟩:=qd1 h1 h2 c1;cases r with
   | cons r1 r2=>
    cases r1;obtain⟨uu,hu,⟨oq,hoq,hcq,nq,hdq⟩,_⟩:=I.tuple (qu fh b1);cases hu with
    | cons u1 u2=>
     cases u1;cases u2 with
     | cons u3 u4=>
      cases u4;rename_i uv;obtain⟨ps,P,e1,e2⟩:=qfw I fh h3 a2 r2;refine⟨((k1,k2),ka,uv) :: ps,⟨by simp [P.len],fun i p e=>?_,fun p hp=>?_⟩,by simp [e1],fun p hp=>?_⟩
      ·cases i with
       | zero=>
        simp only [g0s,g11] at e;subst e;exact⟨q,rfl,oq,hoq,hcq,nq,hdq⟩
       | succ i=>exact P.pair i p (by simpa using e)
      ·rcases m4.mp hp with rfl|hp
       ·exact q9t I fh kk
       ·exact P.key p hp
      ·rcases m4.mp hp with rfl|hp
       ·exact kk
       ·exact e2 p hp
  ·cases h
end
section
variable{X:Cx}
theorem qm0(hc:X.calm=true)(hu:X.A.units+64<cLine): xv X (.type "dict") (rC X.K q8q):=fun pins s σ H xs us Q I rv ⟨F,ds,d,fh,rl,ho,q⟩=>by
 unfold q8q at ho
 split at ho
 ·rename_i ds'
  obtain⟨ks,h1,h2⟩:=g8.mp ho
  split at h2
  ·rename_i hok
   cases h2;obtain⟨x,rfl,rx⟩:=rep1 rl;obtain⟨a,ys,rfl,k1,k2⟩:=rep_lst.mp rx;obtain⟨u,rfl,ru⟩:=vals1 rv;cases ru;obtain⟨its,r1,⟨o,n,e1,e2,e3,e4⟩,hz⟩:=I.list (fh.seq k1);obtain⟨oc,od,oda,osl⟩:=o;dsimp only at e2 e3 e4;subst e2;subst e3;subst e4;obtain⟨ps,P,p1,p2⟩:=qfw I fh h1 k2 r1;have hl:ps.length<=lim:=by
    rw [<- P.len, <- r1.length, <- k2.length];exact hok.2
   refine Js.q7q (by lia) (I.ok.hd hc) e1 P (by rw [p1];exact hok.1) (jt hl) fun h' tk old hd=>?_;have hnn:H s.heap.objs.size=none:=I.hok.fresh (gq _);obtain⟨o,es,ep,g1,g2,g3,g4,_,g5⟩:=hd;have de:DE2 s.heap.objs.size ps ep h':=⟨o,es,g1,g2,g3,g4⟩
   refine⟨.ref _,_,I.laid (t':=tk) (a:=s.heap.objs.size) (o:=.ext (DE2 s.heap.objs.size ps ep)) old (gq _) ⟨de,⟨o,g1⟩,fun h1 h2 ⟨o,es,z,r⟩ e=>⟨o,es,e o z,r⟩⟩,rfl,?_⟩;have g:=Grow.new (o:=.ext (DE2 s.heap.objs.size ps ep)) fh hnn;refine q _ _ _ g (rep_dt2.mpr ⟨_,ps,ep,rfl,z9,p1,hok.1,jt hl,ur.mpr (t5 (q6n I)),fun x hx=>(p2 x hx).mono g.ff⟩)
  ·cases h2
 ·cases ho
theorem qoo(hu:X.A.units+64<cLine): OpR X (compareOp .In) (rD X.K q26):=fun pins s σ H x y v u Q I rx ry ⟨F,d1,d2,d,fh,r1,r2,ho,q⟩=>by
 unfold q26 at ho
 split at ho
 ·rename_i da db ks
  obtain⟨k1,h1,ho⟩:=g8.mp ho;obtain⟨k2,h2,rfl⟩:=gf.mp ho;obtain⟨b,rfl,kk⟩:=qd1 h1 h2 r1;obtain⟨a,xs,ep,rfl,e1,e2,e3,e4,e5,e6⟩:=rep_dt2.mp r2;cases rx;cases ry;obtain⟨⟨o,es,g1,g2,g3,g4⟩,_,_⟩:=(show ObjOk X.prog X.w H s.heap a _ from I.hok a _ (fh _ _ e1))
  have dd:s.heap.DictOfH (Js.PKd X.prog X.w) a xs:=⟨o,es,ep,g1,g2,g3,g4,fun x hx=>q9t I fh (e6 x hx),by rw [e2];exact e3⟩
  refine wpAny_in_heap (show X.A.units+1+8<cLine by lia) (q9t I fh kk) e5 dd ?_;have:(atKey xs (k1,k2)).isSome=decide ((k1,k2)∈ks):=by
   rw [<- e2,ph,mx]
   constructor
   ·intro h
    obtain⟨p,hp⟩:=t9.mp h;obtain⟨z,hz,rfl⟩:=gf.mp hp;have:=List.find?_some hz;exact md.mpr ⟨z,g3z hz,by simpa using this⟩
   ·intro h
    obtain⟨z,hz,hzk⟩:=md.mp h;obtain⟨i,hi⟩:=g53.mp hz;rw [<- hzk,g4e (by rw [e2];exact e3) (show xs[i]? = some (z.1,z.2) from hi)]
    rfl
  rw [this];exact⟨.bl _,H,I.tok _,rfl,q _ F H (.refl fh) (rep_bl.mpr rfl)⟩
 ·cases ho
end
def qd2(ar:Nat)(dds:List D)(op:List D->Option XV)(fa:FA): FX:=fun ρ =>(fa ρ).bind fun ds=>if(ds++dds).length=ar then(op (ds++dds)).map fun p=>(p, ρ) else none
section
variable{X:Cx}{pos:Pos}{σ0:St}{E:XK}{pins:List (Addr×Obj)}
theorem qm1{k:Nat}{fn:Addr}{fd:FuncData}{ps:List Str}{sp:Sp}{p0:List (Addr×Obj)}{H:Hp}{s:Shared}{Q:VK}{us dv:List Value}{vs dvs:List V}(G:FnOk X.prog X.w X.K X.mg X.base (CXR X.prog X.w) k fn fd ps sp)(hr:Room k X.A)(hb:Binds X.K fd ps dv)(hd:Vals dvs dv)
  (I:Inv (XT X pins σ0 E) p0 σ0 H s) (rv:Vals vs us) (q:sp (vs++dvs) H Q E):wpAny (model X.prog X.w) X.A (call (.ref fn) us) (EP (XT X pins σ0 E) p0 σ0 Q) (XT X pins σ0 E).xe s:=by
 have hl':(us++dv).length=ps.length:=by rw [<- (rv.append hd).length];exact G.len _ _ _ _ q
 have hb':=hb s us I.kIn hl';refine g06 (g0n (G.run X.A X.stack s H ⟨us,[]⟩ (us++dv) (vs++dvs) _ _ hr I.env0 hb' (rv.append hd) q) fun rr s' hq=>?_);cases rr with
 | error e1=>exact⟨p0,H,s,I.unwish,hq⟩
 | ok fl=>
  cases fl with
  | ret u=>exact I.after hq
  | next=>exact False.elim hq
  | brk=>exact False.elim hq
  | cont=>exact False.elim hq
theorem qm2{k k' ar:Nat}{fn:Addr}{fd:FuncData}{ps:List Str}{op:List D->Option XV}{x:Str}{p:Pos}{e:Expr}{es:List Expr}{fa:FA}{dvs:List V}{dds:List D}{dv:List Value}(G:FnOk X.prog X.w X.K X.mg X.base (CXR X.prog X.w) k fn fd ps (spR X.K ar op))(hr:Room k' X.A)(hk':k<=k')(hg:Gl X x)(hm:X.mg x=some (.ref fn))(hk:PySem.W.keepIn X.K (.ref fn)=true)(hb:Binds X.K fd ps dv)(hd:Vals dvs dv)(hdd:∀H,RepL X.K H dds dvs)
  (ha:PA (XT X pins σ0 E).nox (e :: es) (tDA X.K fa)) (hdb:(x==("__debug__" : Str))=false:=by decide) (he:starEach (e :: es) X.env=(false,eval e X.env) :: starEach es X.env:=by rfl) (hpl:(backTo pos (starEach es X.env)).any (·.1)=false:=by rfl) :
  PE (XT X pins σ0 E) (.Call (.Name x p) (e :: es) [] pos) (qlu X.K (qd2 ar dds op fa) σ0 E):=by
 intro q0 s σ H Q I ⟨e0,F0,H0,F, ρ,y, ρ',C,r,hv,hn,hE⟩;subst e0;obtain⟨ds,h1,h2⟩:=g8.mp hv
 split at h2
 ·rename_i hl
  obtain⟨p',h3,h4⟩:=gf.mp h2;cases h4;refine ue (kb I hg hm ?_ hdb);refine g0u (h₀:=X.base) I.ok.mod.kin hk (n5 (ha pos q0 s σ H (fun vs H1=>spR X.K ar op (vs++dvs) H1 Q E) (I.wish _) ⟨F0,H0,F, ρ,ds,r,h1,fun vs F1 H1 g rl=>⟨F1,ds++dds,y,C,r.sameT g,rl.append (hdd _),hl,h3,hn,fun F2 H2 od g2 xf=>hE F2 H2 od (g.ff.trans g2.ff) ((r.grow g).grow g2) xf⟩⟩) (fun us s1 ⟨vs,H1,I1,rv,q⟩=>⟨I1.kIn,?_⟩) fun _ _ z=>False.elim z) he hpl;exact qm1 G (hr.mono hk') hb hd (I1.unwish) rv q
 ·cases h2
end
end DL
namespace My
open PySem PySem.Spec PyProof.Rows L2 DL
local macro_rules | `(tactic| walk_at "A")=> `(tactic| ((refine qny (hs:=?hs) ?a ?_);(case hs=>exact qf9 rfl)))
local macro_rules | `(tactic| walk_at "L")=> `(tactic| first|exact .inl rfl|exact .inr rfl|assumption)
def top(i:Nat): Stmt:=PySem.Challenge.pw_oftentogether_k34_sayings_refused.main.body.getD i (.Pass ⟨0,0,0,0⟩)
def qm3(i j:Nat): Stmt:=match top i with | .ClassDef _ _ _ body _ _ _ _ _ _ _=>body.getD j (.Pass ⟨0,0,0,0⟩)|x=>x
section
variable[Lam]{P:Program}{w:World}{K:Frag}{mg:Str->Option Value}{base:Heap}
abbrev j3:Stmt:=qm3 8 0
noncomputable def kq:List Str:=["self","most"]
theorem q4u:(kq).Nodup:=by decide +kernel
theorem q4v:FnScope kq ["self","most"] (qh j3):=⟨rfl,rfl,rfl,q4u,rfl,by decide +kernel,by decide +kernel⟩
theorem q4w{fa:Addr}{cdv:Value}{A:Around}{outer:List Env}{s:Shared}{H:Hp}{E:XK}{C_OftenError:Addr}(m_OftenError:mg "OftenError" = some (.ref C_OftenError))(sp_OftenError:PySem.W.specialIn K (.ref C_OftenError) "__getattribute__" = some (some (.builtin "type.__getattribute__")))(rd_OftenError:PySem.W.readsIn K C_OftenError (.type "type")=true)(fc_OftenError:PySem.W.findCls K (.ref C_OftenError) (.type "type") "__init__" = some (.val (.builtin "ValueError.__init__"))){C_TooGreat:Addr}(ei_TooGreat:q01 K C_TooGreat fa=true)(ci_TooGreat:ClsI K C_TooGreat "most"):
  PSs (z5 CX0 P w K mg base kq "TooGreat.__init__" (qh j3) fa cdv A outer s H E).nox (qx j3) (tIn C_TooGreat "most"):=
 qly (qol rfl m_OftenError sp_OftenError rd_OftenError fc_OftenError ei_TooGreat (pv 0) (pv 1) (by decide) (by decide)) (qom ci_TooGreat (pv 0) (pv 1))
theorem q4x{fa:Addr}{dV:Value}{fd:FuncData}(F:Fun2 K "__init__" "TooGreat.__init__" j3 dV fa fd){C_OftenError:Addr}(m_OftenError:mg "OftenError" = some (.ref C_OftenError))(sp_OftenError:PySem.W.specialIn K (.ref C_OftenError) "__getattribute__" = some (some (.builtin "type.__getattribute__")))(rd_OftenError:PySem.W.readsIn K C_OftenError (.type "type")=true)(fc_OftenError:PySem.W.findCls K (.ref C_OftenError) (.type "type") "__init__" = some (.val (.builtin "ValueError.__init__"))){C_TooGreat:Addr}(ei_TooGreat:q01 K C_TooGreat fa=true)(ci_TooGreat:ClsI K C_TooGreat "most"): FnOk P w K mg base CX0 1 fa fd ["self","most"] (spI C_TooGreat "most"):=
 F.okI (k:=0) q4v rfl rfl rfl fun cdv A outer s H E hr=>q4w m_OftenError sp_OftenError rd_OftenError fc_OftenError ei_TooGreat ci_TooGreat
abbrev kc:Stmt:=top 44
noncomputable def q3i:List Str:=["_law_script","_law_k","_law_cell_here"]
theorem w8:(q3i).Nodup:=by decide +kernel
theorem qd3:FnScope q3i ["_law_script","_law_k"] (qh kc):=⟨rfl,rfl,rfl,w8,rfl,by decide +kernel,by decide +kernel⟩
noncomputable def ke:FS:=(z0 (zi 2 (eOp zq (eOp zz (eC (.int 7)) (eV 1)) (eC (.int 5)))) (z0 (sIf (z6 oGt (ql km (qc (eV 0) qk)) (eC (.int 0))) (zi 2 (eOp zq (eOp zq (eOp oMod (eOp oIx (eV 0) (eOp oMod (eV 1) (ql km (qc (eV 0) qk)))) (eC (.int 2147483587))) (eOp zz (eC (.int 11)) (eOp oDivB (eV 1) (ql km (qc (eV 0) qk))))) (eC (.int 1)))) xl) (z0 (zi 2 (eOp oMod (eOp zq (eOp zq (eOp zz (eV 2) (eOp zq (eC (.int 48271)) (eOp zz (eOp zz (eC (.int 2)) (eV 1)) (eV 1)))) (eOp zz (eV 1) (eC (.int 7919)))) (eC (.int 3))) (eC (.int 2147483629)))) (z0 (zi 2 (eOp oMod (eOp zz (eV 2) (eV 2)) (eC (.int 2147483647)))) (zu (eOp oMod (eOp zz (eV 2) (eOp zq (eC (.int 69621)) (eV 1))) (eC (.int 2147483563))))))))
noncomputable def jk:List D->Option D:=zj 3 ke
theorem q5w{fa:Addr}{cdv:Value}{A:Around}{outer:List Env}{s:Shared}{H:Hp}{E:XK}(n_len:mg "len" = none)(hr:Room 0 (A.deeper (envOfC "_law_mixed" (qh kc) s.heap.objs.size fa cdv))):
  PSs (z5 CX0 P w K mg base q3i "_law_mixed" (qh kc) fa cdv A outer s H E).nox (qx kc) (tDS K ke):=by
 unfold ke;refine(qq ?_ ?_);refine(zb (i:=2) ?_ ?_ ?_ ?_ ?_ ?_);exact w8;exact rfl;exact(Or.inl rfl);refine(qr jb ?_ qg);refine(qr xg qg ?_);exact(qf (pv 1));exact rfl;walk_at "L";refine(qq ?_ ?_);refine(xm ?_ (qt ?_) jw);refine(zf q6j ?_ qg);refine(ju (ky) rfl n_len DL.v7 ?_);walk_at "A";exact(qf (pv 0));exact qi;refine(zb (i:=2) ?_ ?_ ?_ ?_ ?_ ?_);exact w8;exact rfl;exact(Or.inl rfl);refine(qr jb ?_ qg);refine(qr jb ?_ ?_);refine(qr j0 ?_ qg);refine(j8 ?_ ?_);exact(qf (pv 0));refine(qr j0 ?_ ?_);exact(qf (pv 1));refine(ju (ky) rfl n_len DL.v7 ?_);walk_at "A";exact(qf (pv 0));exact qi;refine(qr xg qg ?_);refine(qr q6p ?_ ?_);exact(qf (pv 1));refine(ju (ky) rfl n_len DL.v7 ?_);walk_at "A";exact(qf (pv 0));exact qi;exact rfl;walk_at "L";refine(qq ?_ ?_);refine(zb (i:=2) ?_ ?_ ?_ ?_ ?_ ?_);exact w8;exact rfl;exact(Or.inl rfl);refine(qr j0 ?_ qg);refine(qr jb ?_ qg);refine(qr jb ?_ ?_);refine(qr xg ?_ ?_);exact(qf (pv 2));refine(qr jb qg ?_);refine(qr xg ?_ ?_);refine(qr xg qg ?_);exact(qf (pv 1));exact(qf (pv 1));refine(qr xg ?_ qg);exact(qf (pv 1));exact rfl;walk_at "L";refine(qq ?_ ?_);refine(zb (i:=2) ?_ ?_ ?_ ?_ ?_ ?_);exact w8;exact rfl;exact(Or.inl rfl);refine(qr j0 ?_ qg);refine(qr xg ?_ ?_);exact(qf (pv 2));exact(qf (pv 2));exact rfl;walk_at "L";refine(qt ?_);refine(ze ?_);refine(qr j0 ?_ qg);refine(qr xg ?_ ?_);exact(qf (pv 2));refine(qr jb qg ?_);exact(qf (pv 1))
theorem qd4{fa:Addr}{dV:Value}{fd:FuncData}(F:Fun2 K "_law_mixed" "_law_mixed" kc dV fa fd)(n_len:mg "len" = none): FnOk P w K mg base CX0 1 fa fd ["_law_script","_law_k"] (spD K 2 jk):=
 F.okn (k:=0) (n:=3) (ar:=2) (k1:=1) (u:=ke) qd3 rfl rfl rfl fun cdv A outer s H E hr=>(by first|(with_reducible exact q5w n_len hr)|exact q5w n_len hr)
abbrev wj:Stmt:=top 45
noncomputable def q4y:List Str:=["_law_script","_law_k"]
theorem qef:(q4y).Nodup:=by decide +kernel
theorem qeg:FnScope q4y ["_law_script","_law_k"] (qh wj):=⟨rfl,rfl,rfl,qef,rfl,by decide +kernel,by decide +kernel⟩
noncomputable def wk:FS:=(z0 (sIf (z6 oLt' (eV 1) (ql km (qc (eV 0) qk))) (zu (eOp oIx (eV 0) (eV 1))) xl) (zu (eC (.int 0))))
noncomputable def xw:List D->Option D:=zj 2 wk
theorem q75{fa:Addr}{cdv:Value}{A:Around}{outer:List Env}{s:Shared}{H:Hp}{E:XK}(n_len:mg "len" = none)(hr:Room 0 (A.deeper (envOfC "_law_cell" (qh wj) s.heap.objs.size fa cdv))):
  PSs (z5 CX0 P w K mg base q4y "_law_cell" (qh wj) fa cdv A outer s H E).nox (qx wj) (tDS K wk):=by
 unfold wk;refine(qq ?_ ?_);refine(xm ?_ (qt ?_) jw);refine(zf qj5 ?_ ?_);exact(qf (pv 1));refine(ju (ky) rfl n_len DL.v7 ?_);walk_at "A";exact(qf (pv 0));exact qi;refine(ze ?_);refine(j8 ?_ ?_);exact(qf (pv 0));exact(qf (pv 1));refine(qt ?_);exact(ze qg)
theorem qeh{fa:Addr}{dV:Value}{fd:FuncData}(F:Fun2 K "_law_cell" "_law_cell" wj dV fa fd)(n_len:mg "len" = none): FnOk P w K mg base CX0 1 fa fd ["_law_script","_law_k"] (spD K 2 xw):=
 F.okn (k:=0) (n:=2) (ar:=2) (k1:=1) (u:=wk) qeg rfl rfl rfl fun cdv A outer s H E hr=>(by first|(with_reducible exact q75 n_len hr)|exact q75 n_len hr)
abbrev yg:Stmt:=top 46
noncomputable def q1x:List Str:=["_law_mark"]
theorem q9u:(q1x).Nodup:=by decide +kernel
theorem q9v:FnScope q1x ["_law_mark"] (qh yg):=⟨rfl,rfl,rfl,q9u,rfl,by decide +kernel,by decide +kernel⟩
theorem q7r:(["_law_ware","_law_mark"]:List Str).Nodup:=by decide +kernel
noncomputable def k7:FS:=(zu (ql yz (qc (eL (zp (iR1 (qc (eC (.int 12)) qk)) [none,some 0] (bN 0) (z6 oEq (eOp oBand (eOp oShr (eV 1) (eV 0)) (eC (.int 1))) (eC (.int 1))) (eV 0))) qk)))
noncomputable def k8:List D->Option D:=zj 1 k7
theorem q3z{fa:Addr}{cdv:Value}{A:Around}{outer:List Env}{s:Shared}{H:Hp}{E:XK}(n_tuple:mg "tuple" = none)(n_range:mg "range" = none)(hr:Room 0 (A.deeper (envOfC "_law_of_mark" (qh yg) s.heap.objs.size fa cdv))):
  PSs (z5 CX0 P w K mg base q1x "_law_of_mark" (qh yg) fa cdv A outer s H E).nox (qx yg) (tDS K k7):=by
 unfold k7;refine(qt ?_);refine(ze ?_);refine(v3 (kz) rfl n_tuple DL.boot_tuple ?_);walk_at "A";refine(j9 ?_);refine(jr (N':=["_law_ware","_law_mark"]) (cap:=[none,some 0]) rfl (j6 rfl rfl) (zv rfl) ?_ (fun _ _ _ _ _=>(zt q7r rfl (Or.inl rfl) (.inr rfl))) (fun _ _ _ _ _=>(q1i ?_)) (fun _ _ _ _ _=>?_));refine(q1h rfl n_range ?_);walk_at "A";exact qg;exact qi;refine(zf (wg hr.units) ?_ qg);refine(qr qfi ?_ qg);refine(qr qqb ?_ ?_);exact(qf (pv 1));exact(qf (pv 0));exact(qf (pv 0));exact qi
theorem q9w{fa:Addr}{dV:Value}{fd:FuncData}(F:Fun2 K "_law_of_mark" "_law_of_mark" yg dV fa fd)(n_tuple:mg "tuple" = none)(n_range:mg "range" = none): FnOk P w K mg base CX0 1 fa fd ["_law_mark"] (spD K 1 k8):=
 F.okn (k:=0) (n:=1) (ar:=1) (k1:=1) (u:=k7) q9v rfl rfl rfl fun cdv A outer s H E hr=>(by first|(with_reducible exact q3z n_tuple n_range hr)|exact q3z n_tuple n_range hr)
abbrev q0c:Stmt:=top 47
noncomputable def q5x:List Str:=["_law_number","_law_wares","_law_great"]
theorem qh4:(q5x).Nodup:=by decide +kernel
theorem qh5:FnScope q5x ["_law_number","_law_wares","_law_great"] (qh q0c):=⟨rfl,rfl,rfl,qh4,rfl,by decide +kernel,by decide +kernel⟩
noncomputable def q1l:FS:=(zu (z8 (qc (eOp zq (eC (.int 1)) (eOp oMod (eOp oDiv (eV 0) (eC (.int 4096))) (eV 2))) (qc (ql (qp 1 [] k8) (qc (eOp oMod (eV 0) (eOp oShl (eC (.int 1)) (eV 1))) qk)) qk))))
noncomputable def q0d:List D->Option D:=zj 3 q1l
theorem q8r{fa:Addr}{cdv:Value}{A:Around}{outer:List Env}{s:Shared}{H:Hp}{E:XK}{a__law_of_mark:Addr}{fd__law_of_mark:FuncData}(c_15:Cal P w K mg base "_law_of_mark" 1 ["_law_mark"] 1 k8 a__law_of_mark fd__law_of_mark)(b_15:Binds K fd__law_of_mark ["_law_mark"] [])(hr:Room 1 (A.deeper (envOfC "_law_run" (qh q0c) s.heap.objs.size fa cdv))):
  PSs (z5 CX0 P w K mg base q5x "_law_run" (qh q0c) fa cdv A outer s H E).nox (qx q0c) (tDS K q1l):=by
 unfold q1l;refine(qt ?_);refine(ze ?_);refine(z7 ?_);walk_at "A";refine(qr jb qg ?_);refine(qr j0 ?_ ?_);refine(qr q2k ?_ qg);exact(qf (pv 0));exact(qf (pv 2));walk_at "A";refine(qz c_15 b_15 hr (by decide) rfl ?_);walk_at "A";refine(qr j0 ?_ ?_);exact(qf (pv 0));refine(qr qc0 qg ?_);exact(qf (pv 1));exact qi;exact qi
theorem qh6{fa:Addr}{dV:Value}{fd:FuncData}(F:Fun2 K "_law_run" "_law_run" q0c dV fa fd){a__law_of_mark:Addr}{fd__law_of_mark:FuncData}(c_15:Cal P w K mg base "_law_of_mark" 1 ["_law_mark"] 1 k8 a__law_of_mark fd__law_of_mark)(b_15:Binds K fd__law_of_mark ["_law_mark"] []): FnOk P w K mg base CX0 2 fa fd ["_law_number","_law_wares","_law_great"] (spD K 3 q0d):=
 F.okn (k:=1) (n:=3) (ar:=3) (k1:=2) (u:=q1l) qh5 rfl rfl rfl fun cdv A outer s H E hr=>(by first|(with_reducible exact q8r c_15 b_15 hr)|exact q8r c_15 b_15 hr)
abbrev wm:Stmt:=top 48
noncomputable def q4z:List Str:=["_law_script","_law_wares","_law_most_runs","_law_great","_law_runs","_law_cell_here","_law_base","_law_k","_law_number"]
theorem vp:(q4z).Nodup:=by decide +kernel
theorem qei:FnScope q4z ["_law_script","_law_wares","_law_most_runs"] (qh wm):=⟨rfl,rfl,rfl,vp,rfl,by decide +kernel,by decide +kernel⟩
noncomputable def k9:FS:=(q5k 4 (ql (qp 3 [] q0d) (qc (eV 5) (qc (eV 1) (qc (eV 3) qk)))))
noncomputable def yh:FS:=(z0 (zi 8 (ql (qp 2 [] jk) (qc (eV 0) (qc (eOp zq (eC (.int 10)) (eV 7)) qk)))) (z0 (sIf (z6 oEq (eOp oMod (eV 8) (eC (.int 3))) (eC (.int 0))) (zi 8 (eOp zq (eOp zz (eOp oDiv (eV 8) (eC (.int 4096))) (eC (.int 4096))) (eOp oMod (eOp oBor (eV 8) (eV 6)) (eC (.int 4096))))) xl) (q5k 4 (ql (qp 3 [] q0d) (qc (eV 8) (qc (eV 1) (qc (eV 3) qk)))))))
noncomputable def wo:FS:=(z0 (zi 3 (eOp oIx (eL (xq (qc (eC (.int 1)) (qc (eC (.int 3)) (qc (eC (.int 9)) (qc (eOp oPow (eC (.int 10)) (eC (.int 12))) qk)))))) (eOp oMod (ql (qp 2 [] jk) (qc (eV 0) (qc (eC (.int 0)) qk))) (eC (.int 4))))) (z0 (q1v 4 (xq qk)) (z0 (sIf (z6 oEq (eOp oMod (ql (qp 2 [] xw) (qc (eV 0) (qc (eC (.int 0)) qk))) (eC (.int 2))) (eC (.int 0))) (q3e (vi (eSl (eV 0) (oAt (eC (.int 2))) (oAt (eOp zq (eC (.int 2)) (eV 2))))) (bN 5) k9) (z0 (zi 6 (eOp oMod (ql (qp 2 [] jk) (qc (eV 0) (qc (eC (.int 1)) qk))) (eOp oShl (eC (.int 1)) (eV 1)))) (q3e (iR1 (qc (eOp oMod (ql (qp 2 [] jk) (qc (eV 0) (qc (eC (.int 2)) qk))) (eOp zq (eV 2) (eC (.int 1)))) qk)) (bN 7) yh))) (q12 4 (zu (z8 (qc (eV 1) (qc (ql yz (qc (eV 4) qk)) qk))))))))
noncomputable def q0p:List D->Option D:=zj 9 wo
theorem q76{fa:Addr}{cdv:Value}{A:Around}{outer:List Env}{s:Shared}{H:Hp}{E:XK}{a__law_mixed:Addr}{fd__law_mixed:FuncData}(c_12:Cal P w K mg base "_law_mixed" 1 ["_law_script","_law_k"] 2 jk a__law_mixed fd__law_mixed)(b_12:Binds K fd__law_mixed ["_law_script","_law_k"] []){a__law_cell:Addr}{fd__law_cell:FuncData}(c_11:Cal P w K mg base "_law_cell" 1 ["_law_script","_law_k"] 2 xw a__law_cell fd__law_cell)(b_11:Binds K fd__law_cell ["_law_script","_law_k"] []){a__law_run:Addr}{fd__law_run:FuncData}(c_18:Cal P w K mg base "_law_run" 2 ["_law_number","_law_wares","_law_great"] 3 q0d a__law_run fd__law_run)(b_18:Binds K fd__law_run ["_law_number","_law_wares","_law_great"] [])(n_range:mg "range" = none)(n_tuple:mg "tuple" = none)(hr:Room 2 (A.deeper (envOfC "_law_pile" (qh wm) s.heap.objs.size fa cdv))):
  PSs (z5 CX0 P w K mg base q4z "_law_pile" (qh wm) fa cdv A outer s H E).nox (qx wm) (tDS K wo):=by
 unfold wo yh k9;refine(qq ?_ ?_);refine(zb (i:=3) ?_ ?_ ?_ ?_ ?_ ?_);exact vp;exact rfl;exact(Or.inl rfl);refine(j8 ?_ ?_);refine(j9 ?_);refine(jh ?_);walk_at "A";exact qg;walk_at "A";exact qg;walk_at "A";exact qg;walk_at "A";exact(qr q5h qg qg);exact qi;refine(qr j0 ?_ qg);refine(qz c_12 b_12 hr (by decide) rfl ?_);walk_at "A";exact(qf (pv 0));walk_at "A";exact qg;exact qi;exact rfl;walk_at "L";refine(qq ?_ ?_);exact(q8b (i:=4) vp rfl (Or.inl rfl) (jh qi));refine(qq ?_ ?_);refine(xm ?_ (qt ?_) (qq ?_ ?_));refine(zf (wg hr.units) ?_ qg);refine(qr j0 ?_ qg);refine(qz c_11 b_11 hr (by decide) rfl ?_);walk_at "A";exact(qf (pv 0));walk_at "A";exact qg;exact qi;refine(q3v uk rfl ?_ (zt vp rfl (Or.inl rfl) (.inl rfl)) (qt ?_));refine(xn ?_);refine(q7i ?_ (q4m qg) (q4m ?_));exact(qf (pv 0));refine(qr jb qg ?_);exact(qf (pv 2));refine(qc3 (pv 4) ?_);refine(qz c_18 b_18 hr (by decide) rfl ?_);walk_at "A";exact(qf (pv 5));walk_at "A";exact(qf (pv 1));walk_at "A";exact(qf (pv 3));exact qi;refine(zb (i:=6) ?_ ?_ ?_ ?_ ?_ ?_);exact vp;exact rfl;exact(Or.inl rfl);refine(qr j0 ?_ ?_);refine(qz c_12 b_12 hr (by decide) rfl ?_);walk_at "A";exact(qf (pv 0));walk_at "A";exact qg;exact qi;refine(qr qc0 qg ?_);exact(qf (pv 1));exact rfl;walk_at "L";refine(qt ?_);refine(q3v uk rfl ?_ (zt vp rfl (Or.inl rfl) (.inl rfl)) (qq ?_ ?_));refine(q1h rfl n_range ?_);walk_at "A";refine(qr j0 ?_ ?_);refine(qz c_12 b_12 hr (by decide) rfl ?_);walk_at "A";exact(qf (pv 0));walk_at "A";exact qg;exact qi;refine(qr jb ?_ qg);exact(qf (pv 2));exact qi;refine(zb (i:=8) ?_ ?_ ?_ ?_ ?_ ?_);exact vp;exact rfl;exact(Or.inl rfl);refine(qz c_12 b_12 hr (by decide) rfl ?_);walk_at "A";exact(qf (pv 0));walk_at "A";refine(qr jb qg ?_);exact(qf (pv 7));exact qi;exact rfl;walk_at "L";refine(qq ?_ ?_);refine(xm ?_ (qt ?_) jw);refine(zf (wg hr.units) ?_ qg);refine(qr j0 ?_ qg);exact(qf (pv 8));refine(zb (i:=8) ?_ ?_ ?_ ?_ ?_ ?_);exact vp;exact rfl;exact(Or.inl rfl);refine(qr jb ?_ ?_);refine(qr xg ?_ qg);refine(qr q2k ?_ qg);exact(qf (pv 8));refine(qr j0 ?_ qg);refine(qr qqu ?_ ?_);exact(qf (pv 8));exact(qf (pv 6));exact rfl;walk_at "L";refine(qt ?_);refine(qc3 (pv 4) ?_);refine(qz c_18 b_18 hr (by decide) rfl ?_);walk_at "A";exact(qf (pv 8));walk_at "A";exact(qf (pv 1));walk_at "A";exact(qf (pv 3));exact qi;refine(q1g 4 (qt ?_));refine(ze ?_);refine(z7 ?_);walk_at "A";exact(qf (pv 1));walk_at "A";refine(v3 (kz) rfl n_tuple DL.boot_tuple ?_);walk_at "A";exact(qf (pv 4));exact qi;exact qi
theorem qej{fa:Addr}{dV:Value}{fd:FuncData}(F:Fun2 K "_law_pile" "_law_pile" wm dV fa fd){a__law_mixed:Addr}{fd__law_mixed:FuncData}(c_12:Cal P w K mg base "_law_mixed" 1 ["_law_script","_law_k"] 2 jk a__law_mixed fd__law_mixed)(b_12:Binds K fd__law_mixed ["_law_script","_law_k"] []){a__law_cell:Addr}{fd__law_cell:FuncData}(c_11:Cal P w K mg base "_law_cell" 1 ["_law_script","_law_k"] 2 xw a__law_cell fd__law_cell)(b_11:Binds K fd__law_cell ["_law_script","_law_k"] []){a__law_run:Addr}{fd__law_run:FuncData}(c_18:Cal P w K mg base "_law_run" 2 ["_law_number","_law_wares","_law_great"] 3 q0d a__law_run fd__law_run)(b_18:Binds K fd__law_run ["_law_number","_law_wares","_law_great"] [])(n_range:mg "range" = none)(n_tuple:mg "tuple" = none): FnOk P w K mg base CX0 3 fa fd ["_law_script","_law_wares","_law_most_runs"] (spD K 3 q0p):=
 F.okn (k:=2) (n:=9) (ar:=3) (k1:=3) (u:=wo) qei rfl rfl rfl fun cdv A outer s H E hr=>(by first|(with_reducible exact q76 c_12 b_12 c_11 b_11 c_18 b_18 n_range n_tuple hr)|exact q76 c_12 b_12 c_11 b_11 c_18 b_18 n_range n_tuple hr)
abbrev jx:Stmt:=top 30
noncomputable def w9:List Str:=["one","other","rest"]
theorem yc:(w9).Nodup:=by decide +kernel
theorem q58:FnScope w9 ["one","other"] (qh jx):=⟨rfl,rfl,rfl,yc,rfl,by decide +kernel,by decide +kernel⟩
noncomputable def jy:FS:=(z0 (zi 2 (eOp oMod (eV 0) (eV 1))) (z0 (zi 0 (eV 1)) (zi 1 (eV 2))))
noncomputable def v8:FS:=(z0 (jn (bT (eV 1)) jy 100000) (zu (eV 0)))
noncomputable def ji:List D->Option D:=zj 3 v8
theorem q0y{fa:Addr}{cdv:Value}{A:Around}{outer:List Env}{s:Shared}{H:Hp}{E:XK}(hr:Room 0 (A.deeper (envOfC "greatest_divisor" (qh jx) s.heap.objs.size fa cdv))):
  PSs (z5 CX0 P w K mg base w9 "greatest_divisor" (qh jx) fa cdv A outer s H E).nox (qx jx) (tDS K v8):=by
 unfold v8 jy;refine(qq ?_ ?_);refine(qc4 100000 uk ?_ (qq ?_ ?_));refine(y0 ?_);exact(qf (pv 1));refine(zb (i:=2) ?_ ?_ ?_ ?_ ?_ ?_);exact yc;exact rfl;exact(Or.inl rfl);refine(qr j0 ?_ ?_);exact(qf (pv 0));exact(qf (pv 1));exact rfl;walk_at "L";refine(qq ?_ ?_);refine(zb (i:=0) ?_ ?_ ?_ ?_ ?_ ?_);exact yc;exact rfl;exact(Or.inl rfl);exact(qf (pv 1));exact rfl;walk_at "L";refine(qt ?_);refine(zb (i:=1) ?_ ?_ ?_ ?_ ?_ ?_);exact yc;exact rfl;exact(Or.inl rfl);exact(qf (pv 2));exact rfl;walk_at "L";refine(qt ?_);refine(ze ?_);exact(qf (pv 0))
theorem q59{fa:Addr}{dV:Value}{fd:FuncData}(F:Fun2 K "greatest_divisor" "greatest_divisor" jx dV fa fd): FnOk P w K mg base CX0 1 fa fd ["one","other"] (spD K 2 ji):=
 F.okn (k:=0) (n:=3) (ar:=2) (k1:=1) (u:=v8) q58 rfl rfl rfl fun cdv A outer s H E hr=>(by first|(with_reducible exact q0y  hr)|exact q0y  hr)
abbrev kf:Stmt:=top 10
noncomputable def q3j:List Str:=["thing"]
theorem qd5:(q3j).Nodup:=by decide +kernel
theorem qd6:FnScope q3j ["thing"] (qh kf):=⟨rfl,rfl,rfl,qd5,rfl,by decide +kernel,by decide +kernel⟩
noncomputable def q02:FS:=(zu (q4e (q1w .int (eV 0)) (q4e (qc1 (q1w .bool (eV 0))) (eOp oGe (eV 0) (eC (.int 0))))))
noncomputable def zm:List D->Option D:=zj 1 q02
theorem q5y{fa:Addr}{cdv:Value}{A:Around}{outer:List Env}{s:Shared}{H:Hp}{E:XK}(n_isinstance:mg "isinstance" = none)(n_int:mg "int" = none)(n_bool:mg "bool" = none)(hr:Room 0 (A.deeper (envOfC "is_number" (qh kf) s.heap.objs.size fa cdv))):
  PSs (z5 CX0 P w K mg base q3j "is_number" (qh kf) fa cdv A outer s H E).nox (qx kf) (tDS K q02):=by
 unfold q02;refine(qt ?_);refine(ze ?_);refine(q5j ?_ (q5j ?_ (q8a ?_)));refine(q3w .int rfl n_isinstance rfl n_int DL.boot_int ?_);exact(qf (pv 0));refine(qqe ?_);refine(q3w .bool rfl n_isinstance rfl n_bool DL.boot_bool ?_);exact(qf (pv 0));refine(q3u qbd ?_ qg);exact(qf (pv 0))
theorem qd7{fa:Addr}{dV:Value}{fd:FuncData}(F:Fun2 K "is_number" "is_number" kf dV fa fd)(n_isinstance:mg "isinstance" = none)(n_int:mg "int" = none)(n_bool:mg "bool" = none): FnOk P w K mg base CX0 1 fa fd ["thing"] (spD K 1 zm):=
 F.okn (k:=0) (n:=1) (ar:=1) (k1:=1) (u:=q02) qd6 rfl rfl rfl fun cdv A outer s H E hr=>(by first|(with_reducible exact q5y n_isinstance n_int n_bool hr)|exact q5y n_isinstance n_int n_bool hr)
abbrev kg:Stmt:=top 31
noncomputable def q6r:List Str:=["top","bottom","divisor"]
theorem qd8:(q6r).Nodup:=by decide +kernel
theorem qd9:FnScope q6r ["top","bottom"] (qh kg):=⟨rfl,rfl,rfl,qd8,rfl,by decide +kernel,by decide +kernel⟩
noncomputable def q40:FS:=(z0 (sIf (bOr (kl (bT (ql (qp 1 [] zm) (qc (eV 0) qk)))) (bOr (kl (bT (ql (qp 1 [] zm) (qc (eV 1) qk)))) (z6 oEq (eV 1) (eC (.int 0))))) q1j xl) (z0 (zi 2 (ql (qp 2 [] ji) (qc (eV 0) (qc (eV 1) qk)))) (zu (z8 (qc (eOp oDivB (eV 0) (eV 2)) (qc (eOp oDivB (eV 1) (eV 2)) qk))))))
noncomputable def yp:List D->Option D:=zj 3 q40
theorem qda{fa:Addr}{cdv:Value}{A:Around}{outer:List Env}{s:Shared}{H:Hp}{E:XK}{a_greatest_divisor:Addr}{fd_greatest_divisor:FuncData}(c_7:Cal P w K mg base "greatest_divisor" 1 ["one","other"] 2 ji a_greatest_divisor fd_greatest_divisor)(b_7:Binds K fd_greatest_divisor ["one","other"] []){a_is_number:Addr}{fd_is_number:FuncData}(c_9:Cal P w K mg base "is_number" 1 ["thing"] 1 zm a_is_number fd_is_number)(b_9:Binds K fd_is_number ["thing"] [])(hr:Room 1 (A.deeper (envOfC "share" (qh kg) s.heap.objs.size fa cdv))):
  PSs (z5 CX0 P w K mg base q6r "share" (qh kg) fa cdv A outer s H E).nox (qx kg) (tDS K q40):=by
 unfold q40;refine(qq ?_ ?_);refine(xm ?_ (qt q13) jw);refine(PW.pt (q07 ?_ (q07 ?_ (q0n ?_))));refine(q0m ?_);refine(y0 ?_);refine(qz c_9 b_9 hr (by decide) rfl ?_);walk_at "A";exact(qf (pv 0));exact qi;refine(q0m ?_);refine(y0 ?_);refine(qz c_9 b_9 hr (by decide) rfl ?_);walk_at "A";exact(qf (pv 1));exact qi;refine(zf (wg hr.units) ?_ qg);exact(qf (pv 1));refine(qq ?_ ?_);refine(zb (i:=2) ?_ ?_ ?_ ?_ ?_ ?_);exact qd8;exact rfl;exact(Or.inl rfl);refine(qz c_7 b_7 hr (by decide) rfl ?_);walk_at "A";exact(qf (pv 0));walk_at "A";exact(qf (pv 1));exact qi;exact rfl;walk_at "L";refine(qt ?_);refine(ze ?_);refine(z7 ?_);walk_at "A";refine(qr q6p ?_ ?_);exact(qf (pv 0));exact(qf (pv 2));walk_at "A";refine(qr q6p ?_ ?_);exact(qf (pv 1));exact(qf (pv 2));exact qi
theorem qm4{fa:Addr}{dV:Value}{fd:FuncData}(F:Fun2 K "share" "share" kg dV fa fd){a_greatest_divisor:Addr}{fd_greatest_divisor:FuncData}(c_7:Cal P w K mg base "greatest_divisor" 1 ["one","other"] 2 ji a_greatest_divisor fd_greatest_divisor)(b_7:Binds K fd_greatest_divisor ["one","other"] []){a_is_number:Addr}{fd_is_number:FuncData}(c_9:Cal P w K mg base "is_number" 1 ["thing"] 1 zm a_is_number fd_is_number)(b_9:Binds K fd_is_number ["thing"] []): FnOk P w K mg base CX0 2 fa fd ["top","bottom"] (spD K 2 yp):=
 F.okn (k:=1) (n:=3) (ar:=2) (k1:=2) (u:=q40) qd9 rfl rfl rfl fun cdv A outer s H E hr=>(by first|(with_reducible exact qda c_7 b_7 c_9 b_9 hr)|exact qda c_7 b_7 c_9 b_9 hr)
noncomputable def q2b:FX:=(ko (sIf (bOr (kl (bT (ql (qp 1 [] zm) (qc (eV 0) qk)))) (bOr (kl (bT (ql (qp 1 [] zm) (qc (eV 1) qk)))) (z6 oEq (eV 1) (eC (.int 0))))) q1j xl) (xIf (bOr (kl (bT (ql (qp 1 [] zm) (qc (eV 0) qk)))) (bOr (kl (bT (ql (qp 1 [] zm) (qc (eV 1) qk)))) (z6 oEq (eV 1) (eC (.int 0))))) (q8o "NoShare") k6) k6)
noncomputable def x_share:List D->Option XV:=fun ds=>(q2b (q5r 3 ds)).map (·.1)
theorem qm5{fa:Addr}{cdv:Value}{A:Around}{outer:List Env}{s:Shared}{H:Hp}{E:XK}{a_greatest_divisor:Addr}{fd_greatest_divisor:FuncData}(c_7:Cal P w K mg base "greatest_divisor" 1 ["one","other"] 2 ji a_greatest_divisor fd_greatest_divisor)(b_7:Binds K fd_greatest_divisor ["one","other"] []){a_is_number:Addr}{fd_is_number:FuncData}(c_9:Cal P w K mg base "is_number" 1 ["thing"] 1 zm a_is_number fd_is_number)(b_9:Binds K fd_is_number ["thing"] []){C_NoShare:Addr}(e_NoShare:q5q K C_NoShare)(m_NoShare:mg "NoShare" = some (.ref C_NoShare))(ns_NoShare:PySem.W.nsIn K mainGlobals "NoShare" = some (some (.ref C_NoShare)))(hr:Room 1 (A.deeper (envOfC "share" (qh kg) s.heap.objs.size fa cdv))):
  PSs (z5 (CXR P w) P w K mg base q6r "share" (qh kg) fa cdv A outer s H E) (qx kg) (tXS K q2b E):=by
 unfold q2b;refine(q5s (PS.nox ?_) (qgw (PT.nox ?_) (q8p (qcx e_NoShare rfl m_NoShare ns_NoShare)) q1k) q1k);refine(xm ?_ (qt q13) jw);refine(PW.pt (q07 ?_ (q07 ?_ (q0n ?_))));refine(q0m ?_);refine(y0 ?_);refine(qz c_9 b_9 hr (by decide) rfl ?_);walk_at "A";exact(qf (pv 0));exact qi;refine(q0m ?_);refine(y0 ?_);refine(qz c_9 b_9 hr (by decide) rfl ?_);walk_at "A";exact(qf (pv 1));exact qi;refine(zf (wg hr.units) ?_ qg);exact(qf (pv 1));refine(PW.pt (q07 ?_ (q07 ?_ (q0n ?_))));refine(q0m ?_);refine(y0 ?_);refine(qz c_9 b_9 hr (by decide) rfl ?_);walk_at "A";exact(qf (pv 0));exact qi;refine(q0m ?_);refine(y0 ?_);refine(qz c_9 b_9 hr (by decide) rfl ?_);walk_at "A";exact(qf (pv 1));exact qi;refine(zf (wg hr.units) ?_ qg);exact(qf (pv 1))
theorem qju{fa:Addr}{dV:Value}{fd:FuncData}(F:Fun2 K "share" "share" kg dV fa fd){a_greatest_divisor:Addr}{fd_greatest_divisor:FuncData}(c_7:Cal P w K mg base "greatest_divisor" 1 ["one","other"] 2 ji a_greatest_divisor fd_greatest_divisor)(b_7:Binds K fd_greatest_divisor ["one","other"] []){a_is_number:Addr}{fd_is_number:FuncData}(c_9:Cal P w K mg base "is_number" 1 ["thing"] 1 zm a_is_number fd_is_number)(b_9:Binds K fd_is_number ["thing"] []){C_NoShare:Addr}(e_NoShare:q5q K C_NoShare)(m_NoShare:mg "NoShare" = some (.ref C_NoShare))(ns_NoShare:PySem.W.nsIn K mainGlobals "NoShare" = some (some (.ref C_NoShare))): FnOk P w K mg base (CXR P w) 2 fa fd ["top","bottom"] (spR K 2 x_share):=
 q5t (k:=1) (v:=q2b) F qd9 rfl rfl rfl fun cdv A outer s H E hr=>qm5 c_7 b_7 c_9 b_9 e_NoShare m_NoShare ns_NoShare hr
abbrev xx:Stmt:=top 36
noncomputable def q27:List Str:=["thing"]
theorem qek:(q27).Nodup:=by decide +kernel
theorem q77:FnScope q27 ["thing"] (qh xx):=⟨rfl,rfl,rfl,qek,rfl,by decide +kernel,by decide +kernel⟩
noncomputable def q28:FS:=(z0 (sIf (z6 (oIs false) (eV 0) (eC .non)) (zu (z8 (qc (eC (.int 1)) (qc (eC (.int 2)) qk)))) xl) (z0 (sIf (bOr (kl (bT (q1w .tuple (eV 0)))) (z6 q1t (ql km (qc (eV 0) qk)) (eC (.int 2)))) q1j xl) (zu (ql (qp 2 [] yp) (qc (eOp oIx (eV 0) (eC (.int 0))) (qc (eOp oIx (eV 0) (eC (.int 1))) qk))))))
noncomputable def jl:List D->Option D:=zj 1 q28
theorem q78{fa:Addr}{cdv:Value}{A:Around}{outer:List Env}{s:Shared}{H:Hp}{E:XK}{a_share:Addr}{fd_share:FuncData}(c_29:Cal P w K mg base "share" 2 ["top","bottom"] 2 yp a_share fd_share)(b_29:Binds K fd_share ["top","bottom"] [])(n_isinstance:mg "isinstance" = none)(n_tuple:mg "tuple" = none)(n_len:mg "len" = none)(hr:Room 2 (A.deeper (envOfC "bound_of" (qh xx) s.heap.objs.size fa cdv))):
  PSs (z5 CX0 P w K mg base q27 "bound_of" (qh xx) fa cdv A outer s H E).nox (qx xx) (tDS K q28):=by
 unfold q28;refine(qq ?_ ?_);refine(xm ?_ (qt ?_) jw);refine(zf (qbg rfl) ?_ kv);exact(qf (pv 0));refine(ze ?_);refine(z7 ?_);walk_at "A";exact qg;walk_at "A";exact qg;exact qi;refine(qq ?_ ?_);refine(xm ?_ (qt q13) jw);refine(PW.pt (q07 ?_ (q0n ?_)));refine(q0m ?_);refine(y0 ?_);refine(q3w .tuple rfl n_isinstance rfl n_tuple DL.boot_tuple ?_);exact(qf (pv 0));refine(zf q2l ?_ qg);refine(ju (ky) rfl n_len DL.v7 ?_);walk_at "A";exact(qf (pv 0));exact qi;refine(qt ?_);refine(ze ?_);refine(qz c_29 b_29 hr (by decide) rfl ?_);walk_at "A";refine(j8 ?_ qg);exact(qf (pv 0));walk_at "A";refine(j8 ?_ qg);exact(qf (pv 0));exact qi
theorem qel{fa:Addr}{dV:Value}{fd:FuncData}(F:Fun2 K "bound_of" "bound_of" xx dV fa fd){a_share:Addr}{fd_share:FuncData}(c_29:Cal P w K mg base "share" 2 ["top","bottom"] 2 yp a_share fd_share)(b_29:Binds K fd_share ["top","bottom"] [])(n_isinstance:mg "isinstance" = none)(n_tuple:mg "tuple" = none)(n_len:mg "len" = none): FnOk P w K mg base CX0 3 fa fd ["thing"] (spD K 1 jl):=
 F.okn (k:=2) (n:=1) (ar:=1) (k1:=3) (u:=q28) q77 rfl rfl rfl fun cdv A outer s H E hr=>(by first|(with_reducible exact q78 c_29 b_29 n_isinstance n_tuple n_len hr)|exact q78 c_29 b_29 n_isinstance n_tuple n_len hr)
noncomputable def q0q:FX:=(ko (sIf (z6 (oIs false) (eV 0) (eC .non)) (zu (z8 (qc (eC (.int 1)) (qc (eC (.int 2)) qk)))) xl) k6 (ko (sIf (bOr (kl (bT (q1w .tuple (eV 0)))) (z6 q1t (ql km (qc (eV 0) qk)) (eC (.int 2)))) q1j xl) (xIf (bOr (kl (bT (q1w .tuple (eV 0)))) (z6 q1t (ql km (qc (eV 0) qk)) (eC (.int 2)))) (q8o "NoShare") k6) (q24 2 x_share (qc (eOp oIx (eV 0) (eC (.int 0))) (qc (eOp oIx (eV 0) (eC (.int 1))) qk)))))
noncomputable def x_bound_of:List D->Option XV:=fun ds=>(q0q (q5r 1 ds)).map (·.1)
theorem qem{fa:Addr}{cdv:Value}{A:Around}{outer:List Env}{s:Shared}{H:Hp}{E:XK}{a_share:Addr}{fd_share:FuncData}(c_29:Cal P w K mg base "share" 2 ["top","bottom"] 2 yp a_share fd_share)(b_29:Binds K fd_share ["top","bottom"] [])(n_isinstance:mg "isinstance" = none)(n_tuple:mg "tuple" = none)(n_len:mg "len" = none)(gr_share:FnOk P w K mg base (CXR P w) 2 a_share fd_share ["top","bottom"] (spR K 2 x_share)){C_NoShare:Addr}(e_NoShare:q5q K C_NoShare)(m_NoShare:mg "NoShare" = some (.ref C_NoShare))(ns_NoShare:PySem.W.nsIn K mainGlobals "NoShare" = some (some (.ref C_NoShare)))(hr:Room 2 (A.deeper (envOfC "bound_of" (qh xx) s.heap.objs.size fa cdv))):
  PSs (z5 (CXR P w) P w K mg base q27 "bound_of" (qh xx) fa cdv A outer s H E) (qx xx) (tXS K q0q E):=by
 unfold q0q;refine(q5s (PS.nox ?_) qlt (q5s (PS.nox ?_) (qgw (PT.nox ?_) (q8p (qcx e_NoShare rfl m_NoShare ns_NoShare)) q1k) (q8p (qra (qfs gr_share hr (by decide) rfl c_29.mg c_29.kp b_29 ?_)))));refine(xm ?_ (qt ?_) jw);refine(zf (qbg rfl) ?_ kv);exact(qf (pv 0));refine(ze ?_);refine(z7 ?_);walk_at "A";exact qg;walk_at "A";exact qg;exact qi;refine(xm ?_ (qt q13) jw);refine(PW.pt (q07 ?_ (q0n ?_)));refine(q0m ?_);refine(y0 ?_);refine(q3w .tuple rfl n_isinstance rfl n_tuple DL.boot_tuple ?_);exact(qf (pv 0));refine(zf q2l ?_ qg);refine(ju (ky) rfl n_len DL.v7 ?_);walk_at "A";exact(qf (pv 0));exact qi;refine(PW.pt (q07 ?_ (q0n ?_)));refine(q0m ?_);refine(y0 ?_);refine(q3w .tuple rfl n_isinstance rfl n_tuple DL.boot_tuple ?_);exact(qf (pv 0));refine(zf q2l ?_ qg);refine(ju (ky) rfl n_len DL.v7 ?_);walk_at "A";exact(qf (pv 0));exact qi;walk_at "A";refine(j8 ?_ qg);exact(qf (pv 0));walk_at "A";refine(j8 ?_ qg);exact(qf (pv 0));exact qi
theorem qdb{fa:Addr}{dV:Value}{fd:FuncData}(F:Fun2 K "bound_of" "bound_of" xx dV fa fd){a_share:Addr}{fd_share:FuncData}(c_29:Cal P w K mg base "share" 2 ["top","bottom"] 2 yp a_share fd_share)(b_29:Binds K fd_share ["top","bottom"] [])(n_isinstance:mg "isinstance" = none)(n_tuple:mg "tuple" = none)(n_len:mg "len" = none)(gr_share:FnOk P w K mg base (CXR P w) 2 a_share fd_share ["top","bottom"] (spR K 2 x_share)){C_NoShare:Addr}(e_NoShare:q5q K C_NoShare)(m_NoShare:mg "NoShare" = some (.ref C_NoShare))(ns_NoShare:PySem.W.nsIn K mainGlobals "NoShare" = some (some (.ref C_NoShare))): FnOk P w K mg base (CXR P w) 3 fa fd ["thing"] (spR K 1 x_bound_of):=
 q5t (k:=2) (v:=q0q) F q77 rfl rfl rfl fun cdv A outer s H E hr=>qem c_29 b_29 n_isinstance n_tuple n_len gr_share e_NoShare m_NoShare ns_NoShare hr
abbrev wq:Stmt:=top 24
noncomputable def q50:List Str:=["pairs","least"]
theorem qen:(q50).Nodup:=by decide +kernel
theorem qeo:FnScope q50 ["pairs","least"] (qh wq):=⟨rfl,rfl,rfl,qen,rfl,by decide +kernel,by decide +kernel⟩
theorem qba:(["pair","least"]:List Str).Nodup:=by decide +kernel
noncomputable def wt:FS:=(zu (ql yz (qc (eL (zp (vi (eV 0)) [none,some 1] (bN 0) (z6 oGe (eOp oIx (eV 0) (eC (.int 1))) (eV 1)) (eV 0))) qk)))
noncomputable def vj:List D->Option D:=zj 2 wt
theorem q79{fa:Addr}{cdv:Value}{A:Around}{outer:List Env}{s:Shared}{H:Hp}{E:XK}(n_tuple:mg "tuple" = none)(hr:Room 0 (A.deeper (envOfC "at_least" (qh wq) s.heap.objs.size fa cdv))):
  PSs (z5 CX0 P w K mg base q50 "at_least" (qh wq) fa cdv A outer s H E).nox (qx wq) (tDS K wt):=by
 unfold wt;refine(qt ?_);refine(ze ?_);refine(v3 (kz) rfl n_tuple DL.boot_tuple ?_);walk_at "A";refine(j9 ?_);refine(jr (N':=["pair","least"]) (cap:=[none,some 1]) rfl (j6 rfl rfl) (zv rfl) ?_ (fun _ _ _ _ _=>(zt qba rfl (Or.inl rfl) (.inr rfl))) (fun _ _ _ _ _=>(q1i ?_)) (fun _ _ _ _ _=>?_));refine(xn ?_);exact(qf (pv 0));refine(zf qbd ?_ ?_);refine(j8 ?_ qg);exact(qf (pv 0));exact(qf (pv 1));exact(qf (pv 0));exact qi
theorem qep{fa:Addr}{dV:Value}{fd:FuncData}(F:Fun2 K "at_least" "at_least" wq dV fa fd)(n_tuple:mg "tuple" = none): FnOk P w K mg base CX0 1 fa fd ["pairs","least"] (spD K 2 vj):=
 F.okn (k:=0) (n:=2) (ar:=2) (k1:=1) (u:=wt) qeo rfl rfl rfl fun cdv A outer s H E hr=>(by first|(with_reducible exact q79 n_tuple hr)|exact q79 n_tuple hr)
abbrev q0e:Stmt:=top 12
noncomputable def q5z:List Str:=["some"]
theorem qh7:(q5z).Nodup:=by decide +kernel
theorem qh8:FnScope q5z ["some"] (qh q0e):=⟨rfl,rfl,rfl,qh7,rfl,by decide +kernel,by decide +kernel⟩
theorem qdc:(["ware"]:List Str).Nodup:=by decide +kernel
noncomputable def q1m:FS:=(zu (ql qc6 (qc (eL (zp (vi (eV 0)) [none] (bN 0) zx (eOp oShl (eC (.int 1)) (eV 0)))) qk)))
noncomputable def vq:List D->Option D:=zj 1 q1m
theorem q8s{fa:Addr}{cdv:Value}{A:Around}{outer:List Env}{s:Shared}{H:Hp}{E:XK}(n_sum:mg "sum" = none)(hr:Room 0 (A.deeper (envOfC "mark_of" (qh q0e) s.heap.objs.size fa cdv))):
  PSs (z5 CX0 P w K mg base q5z "mark_of" (qh q0e) fa cdv A outer s H E).nox (qx q0e) (tDS K q1m):=by
 unfold q1m;refine(qt ?_);refine(ze ?_);refine(ju (qj1 rfl) rfl n_sum DL.boot_sum ?_);walk_at "A";refine(j9 ?_);refine(jr (N':=["ware"]) (cap:=[none]) rfl (j6 rfl rfl) (zv rfl) ?_ (fun _ _ _ _ _=>(zt qdc rfl (Or.inl rfl) (.inr rfl))) (fun _ _ _ _ _=>yy) (fun _ _ _ _ _=>?_));refine(xn ?_);exact(qf (pv 0));refine(qr qc0 qg ?_);exact(qf (pv 0));exact qi
theorem qh9{fa:Addr}{dV:Value}{fd:FuncData}(F:Fun2 K "mark_of" "mark_of" q0e dV fa fd)(n_sum:mg "sum" = none): FnOk P w K mg base CX0 1 fa fd ["some"] (spD K 1 vq):=
 F.okn (k:=0) (n:=1) (ar:=1) (k1:=1) (u:=q1m) qh8 rfl rfl rfl fun cdv A outer s H E hr=>(by first|(with_reducible exact q8s n_sum hr)|exact q8s n_sum hr)
abbrev q14:Stmt:=top 21
noncomputable def q7s:List Str:=["pile"]
theorem qjv:(q7s).Nodup:=by decide +kernel
theorem qjw:FnScope q7s ["pile"] (qh q14):=⟨rfl,rfl,rfl,qjv,rfl,by decide +kernel,by decide +kernel⟩
theorem q7a:(["many","basket"]:List Str).Nodup:=by decide +kernel
noncomputable def q2q:FS:=(zu (eL (zp (vi (eOp oIx (eV 0) (eC (.int 1)))) [none,none] (q4g 2 (q0o (bN 0) (q0o (bN 1) q4f))) zx (z8 (qc (eV 0) (qc (ql (qp 1 [] vq) (qc (eV 1) qk)) qk))))))
noncomputable def q2r:List D->Option D:=zj 1 q2q
theorem qar{fa:Addr}{cdv:Value}{A:Around}{outer:List Env}{s:Shared}{H:Hp}{E:XK}{a_mark_of:Addr}{fd_mark_of:FuncData}(c_19:Cal P w K mg base "mark_of" 1 ["some"] 1 vq a_mark_of fd_mark_of)(b_19:Binds K fd_mark_of ["some"] [])(hr:Room 1 (A.deeper (envOfC "marked" (qh q14) s.heap.objs.size fa cdv))):
  PSs (z5 CX0 P w K mg base q7s "marked" (qh q14) fa cdv A outer s H E).nox (qx q14) (tDS K q2q):=by
 unfold q2q;refine(qt ?_);refine(ze ?_);refine(j9 ?_);refine(jr (N':=["many","basket"]) (cap:=[none,none]) rfl (j6 rfl rfl) (qaj (q1a rfl (q1a rfl q8f))) ?_ (fun _ _ _ _ _=>(qiy rfl (q6l (zt q7a rfl (Or.inl rfl) (.inr rfl)) (q6l (zt q7a rfl (Or.inl rfl) (.inr rfl)) qix)))) (fun _ _ _ _ _=>yy) (fun _ _ _ _ _=>?_));refine(xn ?_);refine(j8 ?_ qg);exact(qf (pv 0));refine(z7 ?_);walk_at "A";exact(qf (pv 0));walk_at "A";refine(qz c_19 b_19 hr (by decide) rfl ?_);walk_at "A";exact(qf (pv 1));exact qi;exact qi
theorem qjx{fa:Addr}{dV:Value}{fd:FuncData}(F:Fun2 K "marked" "marked" q14 dV fa fd){a_mark_of:Addr}{fd_mark_of:FuncData}(c_19:Cal P w K mg base "mark_of" 1 ["some"] 1 vq a_mark_of fd_mark_of)(b_19:Binds K fd_mark_of ["some"] []): FnOk P w K mg base CX0 2 fa fd ["pile"] (spD K 1 q2r):=
 F.okn (k:=1) (n:=1) (ar:=1) (k1:=2) (u:=q2q) qjw rfl rfl rfl fun cdv A outer s H E hr=>(by first|(with_reducible exact qar c_19 b_19 hr)|exact qar c_19 b_19 hr)
abbrev v9:Stmt:=top 18
noncomputable def q0r:List Str:=["some","wares","first"]
theorem q2s:(q0r).Nodup:=by decide +kernel
theorem q7t:FnScope q0r ["some","wares"] (qh v9):=⟨rfl,rfl,rfl,q2s,rfl,by decide +kernel,by decide +kernel⟩
theorem q60:(["ware","some"]:List Str).Nodup:=by decide +kernel
noncomputable def va:FS:=(z0 (zi 2 (eIf (bT (eV 0)) (eOp zq (eOp oIx (eV 0) (eUn q5m (eC (.int 1)))) (eC (.int 1))) (eC (.int 0)))) (zu (eL (zp (iR2 (qc (eV 2) (qc (eV 1) qk))) [none,some 0] (bN 0) zx (eOp zq (eV 1) (z8 (qc (eV 0) qk)))))))
noncomputable def vc:List D->Option D:=zj 3 va
theorem q2t{fa:Addr}{cdv:Value}{A:Around}{outer:List Env}{s:Shared}{H:Hp}{E:XK}(n_range:mg "range" = none)(hr:Room 0 (A.deeper (envOfC "one_ware_more" (qh v9) s.heap.objs.size fa cdv))):
  PSs (z5 CX0 P w K mg base q0r "one_ware_more" (qh v9) fa cdv A outer s H E).nox (qx v9) (tDS K va):=by
 unfold va;refine(qq ?_ ?_);refine(zb (i:=2) ?_ ?_ ?_ ?_ ?_ ?_);exact q2s;exact rfl;exact(Or.inl rfl);refine(qsh ?_ ?_ qg);refine(y0 ?_);exact(qf (pv 0));refine(qr jb ?_ qg);refine(j8 ?_ ?_);exact(qf (pv 0));exact(qcc qg);exact rfl;walk_at "L";refine(qt ?_);refine(ze ?_);refine(j9 ?_);refine(jr (N':=["ware","some"]) (cap:=[none,some 0]) rfl (j6 rfl rfl) (zv rfl) ?_ (fun _ _ _ _ _=>(zt q60 rfl (Or.inl rfl) (.inr rfl))) (fun _ _ _ _ _=>yy) (fun _ _ _ _ _=>?_));refine(qiz rfl n_range ?_);walk_at "A";exact(qf (pv 2));walk_at "A";exact(qf (pv 1));exact qi;refine(qr jb ?_ ?_);exact(qf (pv 1));refine(z7 ?_);walk_at "A";exact(qf (pv 0));exact qi
theorem q7u{fa:Addr}{dV:Value}{fd:FuncData}(F:Fun2 K "one_ware_more" "one_ware_more" v9 dV fa fd)(n_range:mg "range" = none): FnOk P w K mg base CX0 1 fa fd ["some","wares"] (spD K 2 vc):=
 F.okn (k:=0) (n:=3) (ar:=2) (k1:=1) (u:=va) q7t rfl rfl rfl fun cdv A outer s H E hr=>(by first|(with_reducible exact q2t n_range hr)|exact q2t n_range hr)
abbrev xr:Stmt:=top 19
noncomputable def q09:List Str:=["some"]
theorem q6z:(q09).Nodup:=by decide +kernel
theorem q70:FnScope q09 ["some"] (qh xr):=⟨rfl,rfl,rfl,q6z,rfl,by decide +kernel,by decide +kernel⟩
theorem q5a:(["place","some"]:List Str).Nodup:=by decide +kernel
noncomputable def y8:FS:=(zu (eL (zp (iR1 (qc (ql km (qc (eV 0) qk)) qk)) [none,some 0] (bN 0) zx (eOp zq (eSl (eV 1) oNo (oAt (eV 0))) (eSl (eV 1) (oAt (eOp zq (eV 0) (eC (.int 1)))) oNo)))))
noncomputable def xt:List D->Option D:=zj 1 y8
theorem q20{fa:Addr}{cdv:Value}{A:Around}{outer:List Env}{s:Shared}{H:Hp}{E:XK}(n_range:mg "range" = none)(n_len:mg "len" = none)(hr:Room 0 (A.deeper (envOfC "one_ware_fewer" (qh xr) s.heap.objs.size fa cdv))):
  PSs (z5 CX0 P w K mg base q09 "one_ware_fewer" (qh xr) fa cdv A outer s H E).nox (qx xr) (tDS K y8):=by
 unfold y8;refine(qt ?_);refine(ze ?_);refine(j9 ?_);refine(jr (N':=["place","some"]) (cap:=[none,some 0]) rfl (j6 rfl rfl) (zv rfl) ?_ (fun _ _ _ _ _=>(zt q5a rfl (Or.inl rfl) (.inr rfl))) (fun _ _ _ _ _=>yy) (fun _ _ _ _ _=>?_));refine(q1h rfl n_range ?_);walk_at "A";refine(ju (ky) rfl n_len DL.v7 ?_);walk_at "A";exact(qf (pv 0));exact qi;exact qi;refine(qr jb ?_ ?_);refine(q7i ?_ qc7 (q4m ?_));exact(qf (pv 1));exact(qf (pv 0));refine(q7i ?_ (q4m ?_) qc7);exact(qf (pv 1));refine(qr jb ?_ qg);exact(qf (pv 0))
theorem q71{fa:Addr}{dV:Value}{fd:FuncData}(F:Fun2 K "one_ware_fewer" "one_ware_fewer" xr dV fa fd)(n_range:mg "range" = none)(n_len:mg "len" = none): FnOk P w K mg base CX0 1 fa fd ["some"] (spD K 1 xt):=
 F.okn (k:=0) (n:=1) (ar:=1) (k1:=1) (u:=y8) q70 rfl rfl rfl fun cdv A outer s H E hr=>(by first|(with_reducible exact q20 n_range n_len hr)|exact q20 n_range n_len hr)
abbrev q2c:Stmt:=top 27
noncomputable def q9x:List Str:=["layer","wares","known","found","some","longer"]
theorem q2u:(q9x).Nodup:=by decide +kernel
theorem qm6:FnScope q9x ["layer","wares"] (qh q2c):=⟨rfl,rfl,rfl,q2u,rfl,by decide +kernel,by decide +kernel⟩
theorem qha:(["some"]:List Str).Nodup:=by decide +kernel
theorem qhb:(["shorter","known"]:List Str).Nodup:=by decide +kernel
noncomputable def yw:FS:=(sIf (bT (ql q9g (qc (eL (zp (vi (ql (qp 1 [] xt) (qc (eV 5) qk))) [none,some 2] (bN 0) zx (eOp q9o (eV 0) (eV 1)))) qk))) (q5k 3 (eV 5)) xl)
noncomputable def q0s:FS:=(q3e (vi (ql (qp 2 [] vc) (qc (eV 4) (qc (eV 1) qk)))) (bN 5) yw)
noncomputable def q41:FS:=(z0 (zi 2 (ql qbh (qc (eL (zp (vi (eV 0)) [none] (bN 0) zx (z8 (qc (eV 0) (qc (eC (.bl true)) qk))))) qk))) (z0 (q1v 3 (xq qk)) (z0 (q3e (vi (eV 0)) (bN 4) q0s) (q12 3 (zu (eV 3))))))
noncomputable def q42:List D->Option D:=zj 6 q41
theorem qdd{fa:Addr}{cdv:Value}{A:Around}{outer:List Env}{s:Shared}{H:Hp}{E:XK}{a_one_ware_more:Addr}{fd_one_ware_more:FuncData}(c_25:Cal P w K mg base "one_ware_more" 1 ["some","wares"] 2 vc a_one_ware_more fd_one_ware_more)(b_25:Binds K fd_one_ware_more ["some","wares"] []){a_one_ware_fewer:Addr}{fd_one_ware_fewer:FuncData}(c_24:Cal P w K mg base "one_ware_fewer" 1 ["some"] 1 xt a_one_ware_fewer fd_one_ware_fewer)(b_24:Binds K fd_one_ware_fewer ["some"] [])(n_dict:mg "dict" = none)(n_all:mg "all" = none)(hr:Room 1 (A.deeper (envOfC "grown" (qh q2c) s.heap.objs.size fa cdv))):
  PSs (z5 CX0 P w K mg base q9x "grown" (qh q2c) fa cdv A outer s H E).nox (qx q2c) (tDS K q41):=by
 unfold q41 q0s yw;refine(qq ?_ ?_);refine(zb (i:=2) ?_ ?_ ?_ ?_ ?_ ?_);exact q2u;exact rfl;exact(Or.inr rfl);refine(v3 (qob rfl hr.units) rfl n_dict DL.boot_dict ?_);walk_at "A";refine(j9 ?_);refine(jr (N':=["some"]) (cap:=[none]) rfl (j6 rfl rfl) (zv rfl) ?_ (fun _ _ _ _ _=>(zt qha rfl (Or.inl rfl) (.inr rfl))) (fun _ _ _ _ _=>yy) (fun _ _ _ _ _=>?_));refine(xn ?_);exact(qf (pv 0));refine(z7 ?_);walk_at "A";exact(qf (pv 0));walk_at "A";exact ku;exact qi;exact qi;exact rfl;walk_at "L";refine(qq ?_ ?_);exact(q8b (i:=3) q2u rfl (Or.inl rfl) (jh qi));refine(qq ?_ ?_);refine(q3v uk rfl ?_ (zt q2u rfl (Or.inl rfl) (.inl rfl)) (qt ?_));refine(xn ?_);exact(qf (pv 0));refine(q3v uk rfl ?_ (zt q2u rfl (Or.inl rfl) (.inl rfl)) (qt ?_));refine(xn ?_);refine(qz c_25 b_25 hr (by decide) rfl ?_);walk_at "A";exact(qf (pv 4));walk_at "A";exact(qf (pv 1));exact qi;refine(xm ?_ (qt ?_) jw);refine(y0 ?_);refine(ju (qqk rfl) rfl n_all DL.boot_all ?_);walk_at "A";refine(j9 ?_);refine(jr (N':=["shorter","known"]) (cap:=[none,some 2]) rfl (j6 rfl rfl) (zv rfl) ?_ (fun _ _ _ _ _=>(zt qhb rfl (Or.inl rfl) (.inr rfl))) (fun _ _ _ _ _=>yy) (fun _ _ _ _ _=>?_));refine(xn ?_);refine(qz c_24 b_24 hr (by decide) rfl ?_);walk_at "A";exact(qf (pv 5));exact qi;refine(q3u (qr1 hr.units) ?_ ?_);exact(qf (pv 0));exact(qf (pv 1));exact qi;refine(qc3 (pv 3) ?_);exact(qf (pv 5));refine(q1g 3 (qt ?_));refine(ze ?_);exact(qf (pv 3))
theorem qm7{fa:Addr}{dV:Value}{fd:FuncData}(F:Fun2 K "grown" "grown" q2c dV fa fd){a_one_ware_more:Addr}{fd_one_ware_more:FuncData}(c_25:Cal P w K mg base "one_ware_more" 1 ["some","wares"] 2 vc a_one_ware_more fd_one_ware_more)(b_25:Binds K fd_one_ware_more ["some","wares"] []){a_one_ware_fewer:Addr}{fd_one_ware_fewer:FuncData}(c_24:Cal P w K mg base "one_ware_fewer" 1 ["some"] 1 xt a_one_ware_fewer fd_one_ware_fewer)(b_24:Binds K fd_one_ware_fewer ["some"] [])(n_dict:mg "dict" = none)(n_all:mg "all" = none): FnOk P w K mg base CX0 2 fa fd ["layer","wares"] (spD K 2 q42):=
 F.okn (k:=1) (n:=6) (ar:=2) (k1:=2) (u:=q41) qm6 rfl rfl rfl fun cdv A outer s H E hr=>(by first|(with_reducible exact qdd c_25 b_25 c_24 b_24 n_dict n_all hr)|exact qdd c_25 b_25 c_24 b_24 n_dict n_all hr)
abbrev vw:Stmt:=top 22
noncomputable def q15:List Str:=["marked_runs","some","mark"]
theorem q35:(q15).Nodup:=by decide +kernel
theorem q8t:FnScope q15 ["marked_runs","some"] (qh vw):=⟨rfl,rfl,rfl,q35,rfl,by decide +kernel,by decide +kernel⟩
theorem q21:(["many","basket","mark"]:List Str).Nodup:=by decide +kernel
noncomputable def yq:FS:=(z0 (zi 2 (ql (qp 1 [] vq) (qc (eV 1) qk))) (zu (ql qc6 (qc (eL (zp (vi (eV 0)) [none,none,some 2] (q4g 2 (q0o (bN 0) (q0o (bN 1) q4f))) (z6 oEq (eOp oBand (eV 1) (eV 2)) (eV 2)) (eV 0))) qk))))
noncomputable def vx:List D->Option D:=zj 3 yq
theorem q36{fa:Addr}{cdv:Value}{A:Around}{outer:List Env}{s:Shared}{H:Hp}{E:XK}{a_mark_of:Addr}{fd_mark_of:FuncData}(c_19:Cal P w K mg base "mark_of" 1 ["some"] 1 vq a_mark_of fd_mark_of)(b_19:Binds K fd_mark_of ["some"] [])(n_sum:mg "sum" = none)(hr:Room 1 (A.deeper (envOfC "count_marked" (qh vw) s.heap.objs.size fa cdv))):
  PSs (z5 CX0 P w K mg base q15 "count_marked" (qh vw) fa cdv A outer s H E).nox (qx vw) (tDS K yq):=by
 unfold yq;refine(qq ?_ ?_);refine(zb (i:=2) ?_ ?_ ?_ ?_ ?_ ?_);exact q35;exact rfl;exact(Or.inr rfl);refine(qz c_19 b_19 hr (by decide) rfl ?_);walk_at "A";exact(qf (pv 1));exact qi;exact rfl;walk_at "L";refine(qt ?_);refine(ze ?_);refine(ju (qj1 rfl) rfl n_sum DL.boot_sum ?_);walk_at "A";refine(j9 ?_);refine(jr (N':=["many","basket","mark"]) (cap:=[none,none,some 2]) rfl (j6 rfl rfl) (qaj (q1a rfl (q1a rfl q8f))) ?_ (fun _ _ _ _ _=>(qiy rfl (q6l (zt q21 rfl (Or.inl rfl) (.inr rfl)) (q6l (zt q21 rfl (Or.inl rfl) (.inr rfl)) qix)))) (fun _ _ _ _ _=>(q1i ?_)) (fun _ _ _ _ _=>?_));refine(xn ?_);exact(qf (pv 0));refine(zf (wg hr.units) ?_ ?_);refine(qr qfi ?_ ?_);exact(qf (pv 1));exact(qf (pv 2));exact(qf (pv 2));exact(qf (pv 0));exact qi
theorem q8u{fa:Addr}{dV:Value}{fd:FuncData}(F:Fun2 K "count_marked" "count_marked" vw dV fa fd){a_mark_of:Addr}{fd_mark_of:FuncData}(c_19:Cal P w K mg base "mark_of" 1 ["some"] 1 vq a_mark_of fd_mark_of)(b_19:Binds K fd_mark_of ["some"] [])(n_sum:mg "sum" = none): FnOk P w K mg base CX0 2 fa fd ["marked_runs","some"] (spD K 2 vx):=
 F.okn (k:=1) (n:=3) (ar:=2) (k1:=2) (u:=yq) q8t rfl rfl rfl fun cdv A outer s H E hr=>(by first|(with_reducible exact q36 c_19 b_19 n_sum hr)|exact q36 c_19 b_19 n_sum hr)
abbrev j4:Stmt:=qm3 28 1
noncomputable def q00:List Str:=["self","pile","least","runs","told","layer","pairs"]
theorem jz:(q00).Nodup:=by decide +kernel
theorem q61:FnScope q00 ["self","pile","least"] (qh j4):=⟨rfl,rfl,rfl,jz,rfl,by decide +kernel,by decide +kernel⟩
theorem q51:(["some","runs"]:List Str).Nodup:=by decide +kernel
theorem q52:(["pair"]:List Str).Nodup:=by decide +kernel
noncomputable def xh:FS:=(z0 (q1v 6 (zp (vi (eV 5)) [none,some 3] (bN 0) zx (z8 (qc (eV 0) (qc (ql (qp 2 [] vx) (qc (eV 1) (qc (eV 0) qk))) qk))))) (q12 6 (z0 (q9j 4 (eV 6)) (zi 5 (ql (qp 2 [] q42) (qc (eL (zp (vi (ql (qp 2 [] vj) (qc (eV 6) (qc (eV 2) qk)))) [none] (bN 0) zx (eOp oIx (eV 0) (eC (.int 0))))) (qc (eOp oIx (eV 1) (eC (.int 0))) qk)))))))
noncomputable def jd:FS:=(z0 (zi 3 (ql (qp 1 [] q2r) (qc (eV 1) qk))) (z0 (q1v 4 (xq qk)) (z0 (zi 5 (eL (xq (qc (z8 qk) qk)))) (z0 (jn (bT (eV 5)) xh 100000) (q12 6 (q12 4 (zu (ql yz (qc (eV 4) qk)))))))))
noncomputable def vf:List D->Option D:=zj 7 jd
theorem q1n{fa:Addr}{cdv:Value}{A:Around}{outer:List Env}{s:Shared}{H:Hp}{E:XK}{a_marked:Addr}{fd_marked:FuncData}(c_20:Cal P w K mg base "marked" 2 ["pile"] 1 q2r a_marked fd_marked)(b_20:Binds K fd_marked ["pile"] []){a_grown:Addr}{fd_grown:FuncData}(c_8:Cal P w K mg base "grown" 2 ["layer","wares"] 2 q42 a_grown fd_grown)(b_8:Binds K fd_grown ["layer","wares"] []){a_count_marked:Addr}{fd_count_marked:FuncData}(c_5:Cal P w K mg base "count_marked" 2 ["marked_runs","some"] 2 vx a_count_marked fd_count_marked)(b_5:Binds K fd_count_marked ["marked_runs","some"] []){a_at_least:Addr}{fd_at_least:FuncData}(c_3:Cal P w K mg base "at_least" 1 ["pairs","least"] 2 vj a_at_least fd_at_least)(b_3:Binds K fd_at_least ["pairs","least"] [])(n_tuple:mg "tuple" = none)(hr:Room 2 (A.deeper (envOfC "Growing.counted" (qh j4) s.heap.objs.size fa cdv))):
  PSs (z5 CX0 P w K mg base q00 "Growing.counted" (qh j4) fa cdv A outer s H E).nox (qx j4) (tDS K jd):=by
 unfold jd xh;refine(qq ?_ ?_);refine(zb (i:=3) ?_ ?_ ?_ ?_ ?_ ?_);exact jz;exact rfl;exact(Or.inr rfl);refine(qz c_20 b_20 hr (by decide) rfl ?_);walk_at "A";exact(qf (pv 1));exact qi;exact rfl;walk_at "L";refine(qq ?_ ?_);exact(q8b (i:=4) jz rfl (Or.inl rfl) (jh qi));refine(qq ?_ ?_);refine(zb (i:=5) ?_ ?_ ?_ ?_ ?_ ?_);exact jz;exact rfl;exact(Or.inl rfl);refine(j9 ?_);refine(jh ?_);walk_at "A";exact(z7 qi);exact qi;exact rfl;walk_at "L";refine(qq ?_ ?_);refine(qc4 100000 uk ?_ (qq ?_ ?_));refine(y0 ?_);exact(qf (pv 5));refine(qfd (i:=6) rfl jz rfl rfl (N':=["some","runs"]) (cap:=[none,some 3]) (j6 rfl rfl) (zv rfl) ?_ (fun _ _ _ _ _=>(zt q51 rfl (Or.inl rfl) (.inr rfl))) (fun _ _ _ _ _=>yy) (fun _ _ _ _ _=>?_));refine(xn ?_);exact(qf (pv 5));refine(z7 ?_);walk_at "A";exact(qf (pv 0));walk_at "A";refine(qz c_5 b_5 hr (by decide) rfl ?_);walk_at "A";exact(qf (pv 1));walk_at "A";exact(qf (pv 0));exact qi;exact qi;refine(q1g 6 (qq ?_ ?_));refine(qj6 (pv 4) ?_);exact(qf (pv 6));refine(qt ?_);refine(zb (i:=5) ?_ ?_ ?_ ?_ ?_ ?_);exact jz;exact rfl;exact(Or.inl rfl);refine(qz c_8 b_8 hr (by decide) rfl ?_);walk_at "A";refine(j9 ?_);refine(jr (N':=["pair"]) (cap:=[none]) rfl (j6 rfl rfl) (zv rfl) ?_ (fun _ _ _ _ _=>(zt q52 rfl (Or.inl rfl) (.inr rfl))) (fun _ _ _ _ _=>yy) (fun _ _ _ _ _=>?_));refine(xn ?_);refine(qz c_3 b_3 hr (by decide) rfl ?_);walk_at "A";exact(qf (pv 6));walk_at "A";exact(qf (pv 2));exact qi;refine(j8 ?_ qg);exact(qf (pv 0));walk_at "A";refine(j8 ?_ qg);exact(qf (pv 1));exact qi;exact rfl;walk_at "L";refine(q1g 6 (q1g 4 (qt ?_)));refine(ze ?_);refine(v3 (kz) rfl n_tuple DL.boot_tuple ?_);walk_at "A";exact(qf (pv 4));exact qi
theorem q62{fa:Addr}{dV:Value}{fd:FuncData}(F:Fun2 K "counted" "Growing.counted" j4 dV fa fd){a_marked:Addr}{fd_marked:FuncData}(c_20:Cal P w K mg base "marked" 2 ["pile"] 1 q2r a_marked fd_marked)(b_20:Binds K fd_marked ["pile"] []){a_grown:Addr}{fd_grown:FuncData}(c_8:Cal P w K mg base "grown" 2 ["layer","wares"] 2 q42 a_grown fd_grown)(b_8:Binds K fd_grown ["layer","wares"] []){a_count_marked:Addr}{fd_count_marked:FuncData}(c_5:Cal P w K mg base "count_marked" 2 ["marked_runs","some"] 2 vx a_count_marked fd_count_marked)(b_5:Binds K fd_count_marked ["marked_runs","some"] []){a_at_least:Addr}{fd_at_least:FuncData}(c_3:Cal P w K mg base "at_least" 1 ["pairs","least"] 2 vj a_at_least fd_at_least)(b_3:Binds K fd_at_least ["pairs","least"] [])(n_tuple:mg "tuple" = none): FnOk P w K mg base CX0 3 fa fd ["self","pile","least"] (spD K 3 vf):=
 F.okn (k:=2) (n:=7) (ar:=3) (k1:=3) (u:=jd) q61 rfl rfl rfl fun cdv A outer s H E hr=>(by first|(with_reducible exact q1n c_20 b_20 c_8 b_8 c_5 b_5 c_3 b_3 n_tuple hr)|exact q1n c_20 b_20 c_8 b_8 c_5 b_5 c_3 b_3 n_tuple hr)
abbrev jf:Stmt:=qm3 28 0
noncomputable def q0t:List Str:=["self","pile","least"]
theorem q7v:(q0t).Nodup:=by decide +kernel
theorem q7w:FnScope q0t ["self","pile","least"] (qh jf):=⟨rfl,rfl,rfl,q7v,rfl,by decide +kernel,by decide +kernel⟩
noncomputable def yl:FS:=(zu (ql (qp 2 [] vj) (qc (q9l "Growing" 3 vf (eV 0) (qc (eV 1) (qc (eV 2) qk))) (qc (eV 2) qk))))
noncomputable def jo:List D->Option D:=zj 3 yl
theorem q2v{fa:Addr}{cdv:Value}{A:Around}{outer:List Env}{s:Shared}{H:Hp}{E:XK}{C_Growing:Addr}(O_Growing:ClsOk K "Growing" C_Growing){a_at_least:Addr}{fd_at_least:FuncData}(c_3:Cal P w K mg base "at_least" 1 ["pairs","least"] 2 vj a_at_least fd_at_least)(b_3:Binds K fd_at_least ["pairs","least"] []){a_Growing_counted:Addr}{fd_Growing_counted:FuncData}(c_0:CalM P w K mg base "Growing" "counted" C_Growing 3 ["self","pile","least"] 3 vf a_Growing_counted fd_Growing_counted)(b_0:Binds K fd_Growing_counted ["self","pile","least"] [])(hr:Room 3 (A.deeper (envOfC "Growing.often" (qh jf) s.heap.objs.size fa cdv))):
  PSs (z5 CX0 P w K mg base q0t "Growing.often" (qh jf) fa cdv A outer s H E).nox (qx jf) (tDS K yl):=by
 unfold yl;refine(qt ?_);refine(ze ?_);refine(qz c_3 b_3 hr (by decide) rfl ?_);walk_at "A";refine(qja O_Growing c_0 b_0 hr (by decide) ?_ ?_);exact(qf (pv 0));walk_at "A";exact(qf (pv 1));walk_at "A";exact(qf (pv 2));exact qi;walk_at "A";exact(qf (pv 2));exact qi
theorem q7x{fa:Addr}{dV:Value}{fd:FuncData}(F:Fun2 K "often" "Growing.often" jf dV fa fd){C_Growing:Addr}(O_Growing:ClsOk K "Growing" C_Growing){a_at_least:Addr}{fd_at_least:FuncData}(c_3:Cal P w K mg base "at_least" 1 ["pairs","least"] 2 vj a_at_least fd_at_least)(b_3:Binds K fd_at_least ["pairs","least"] []){a_Growing_counted:Addr}{fd_Growing_counted:FuncData}(c_0:CalM P w K mg base "Growing" "counted" C_Growing 3 ["self","pile","least"] 3 vf a_Growing_counted fd_Growing_counted)(b_0:Binds K fd_Growing_counted ["self","pile","least"] []): FnOk P w K mg base CX0 4 fa fd ["self","pile","least"] (spD K 3 jo):=
 F.okn (k:=3) (n:=3) (ar:=3) (k1:=4) (u:=yl) q7w rfl rfl rfl fun cdv A outer s H E hr=>(by first|(with_reducible exact q2v O_Growing c_3 b_3 c_0 b_0 hr)|exact q2v O_Growing c_3 b_3 c_0 b_0 hr)
abbrev q0f:Stmt:=top 42
noncomputable def q63:List Str:=["some","ware"]
theorem qhc:(q63).Nodup:=by decide +kernel
theorem qhd:FnScope q63 ["some","ware"] (qh q0f):=⟨rfl,rfl,rfl,qhc,rfl,by decide +kernel,by decide +kernel⟩
theorem qde:(["other","ware"]:List Str).Nodup:=by decide +kernel
noncomputable def q37:FS:=(zu (ql yz (qc (eL (zp (vi (eV 0)) [none,some 1] (bN 0) (z6 q1t (eV 0) (eV 1)) (eV 0))) qk)))
noncomputable def wa:List D->Option D:=zj 2 q37
theorem q8v{fa:Addr}{cdv:Value}{A:Around}{outer:List Env}{s:Shared}{H:Hp}{E:XK}(n_tuple:mg "tuple" = none)(hr:Room 0 (A.deeper (envOfC "without" (qh q0f) s.heap.objs.size fa cdv))):
  PSs (z5 CX0 P w K mg base q63 "without" (qh q0f) fa cdv A outer s H E).nox (qx q0f) (tDS K q37):=by
 unfold q37;refine(qt ?_);refine(ze ?_);refine(v3 (kz) rfl n_tuple DL.boot_tuple ?_);walk_at "A";refine(j9 ?_);refine(jr (N':=["other","ware"]) (cap:=[none,some 1]) rfl (j6 rfl rfl) (zv rfl) ?_ (fun _ _ _ _ _=>(zt qde rfl (Or.inl rfl) (.inr rfl))) (fun _ _ _ _ _=>(q1i ?_)) (fun _ _ _ _ _=>?_));refine(xn ?_);exact(qf (pv 0));refine(zf q2l ?_ ?_);exact(qf (pv 0));exact(qf (pv 1));exact(qf (pv 0));exact qi
theorem qhe{fa:Addr}{dV:Value}{fd:FuncData}(F:Fun2 K "without" "without" q0f dV fa fd)(n_tuple:mg "tuple" = none): FnOk P w K mg base CX0 1 fa fd ["some","ware"] (spD K 2 wa):=
 F.okn (k:=0) (n:=2) (ar:=2) (k1:=1) (u:=q37) qhd rfl rfl rfl fun cdv A outer s H E hr=>(by first|(with_reducible exact q8v n_tuple hr)|exact q8v n_tuple hr)
abbrev q16:Stmt:=top 15
noncomputable def q7y:List Str:=["one","other"]
theorem qjy:(q7y).Nodup:=by decide +kernel
theorem qjz:FnScope q7y ["one","other"] (qh q16):=⟨rfl,rfl,rfl,qjy,rfl,by decide +kernel,by decide +kernel⟩
noncomputable def q2w:FS:=(zu (ql yz (qc (eL (qgp (eV 0) (eV 1))) qk)))
noncomputable def yn:List D->Option D:=zj 2 q2w
theorem qas{fa:Addr}{cdv:Value}{A:Around}{outer:List Env}{s:Shared}{H:Hp}{E:XK}(n_tuple:mg "tuple" = none)(n_sorted:mg "sorted" = none)(n_set:mg "set" = none)(hr:Room 0 (A.deeper (envOfC "joined" (qh q16) s.heap.objs.size fa cdv))):
  PSs (z5 CX0 P w K mg base q7y "joined" (qh q16) fa cdv A outer s H E).nox (qx q16) (tDS K q2w):=by
 unfold q2w;refine(qt ?_);refine(ze ?_);refine(v3 (kz) rfl n_tuple DL.boot_tuple ?_);walk_at "A";refine(j9 ?_);refine(qoa rfl rfl n_sorted rfl n_set ?_ ?_);exact(qf (pv 0));exact(qf (pv 1));exact qi
theorem qk0{fa:Addr}{dV:Value}{fd:FuncData}(F:Fun2 K "joined" "joined" q16 dV fa fd)(n_tuple:mg "tuple" = none)(n_sorted:mg "sorted" = none)(n_set:mg "set" = none): FnOk P w K mg base CX0 1 fa fd ["one","other"] (spD K 2 yn):=
 F.okn (k:=0) (n:=2) (ar:=2) (k1:=1) (u:=q2w) qjz rfl rfl rfl fun cdv A outer s H E hr=>(by first|(with_reducible exact qas n_tuple n_sorted n_set hr)|exact qas n_tuple n_sorted n_set hr)
abbrev js:Stmt:=top 41
noncomputable def kr:List Str:=["whom","what","wares"]
theorem q53:(kr).Nodup:=by decide +kernel
theorem q54:FnScope kr ["whom","what","wares"] (qh js):=⟨rfl,rfl,rfl,q53,rfl,by decide +kernel,by decide +kernel⟩
theorem q3k:(["ware","whom","what"]:List Str).Nodup:=by decide +kernel
noncomputable def ye:FS:=(zu (eL (zp (iR1 (qc (eV 2) qk)) [none,some 0,some 1] (bN 0) (z6 (oIn true) (eV 0) (eV 2)) (z8 (qc (ql (qp 2 [] wa) (qc (eV 1) (qc (eV 0) qk))) (qc (ql (qp 2 [] yn) (qc (eV 2) (qc (z8 (qc (eV 0) qk)) qk))) qk))))))
noncomputable def xo:List D->Option D:=zj 3 ye
theorem q0u{fa:Addr}{cdv:Value}{A:Around}{outer:List Env}{s:Shared}{H:Hp}{E:XK}{a_without:Addr}{fd_without:FuncData}(c_31:Cal P w K mg base "without" 1 ["some","ware"] 2 wa a_without fd_without)(b_31:Binds K fd_without ["some","ware"] []){a_joined:Addr}{fd_joined:FuncData}(c_10:Cal P w K mg base "joined" 1 ["one","other"] 2 yn a_joined fd_joined)(b_10:Binds K fd_joined ["one","other"] [])(n_range:mg "range" = none)(hr:Room 1 (A.deeper (envOfC "one_step_stronger" (qh js) s.heap.objs.size fa cdv))):
  PSs (z5 CX0 P w K mg base kr "one_step_stronger" (qh js) fa cdv A outer s H E).nox (qx js) (tDS K ye):=by
 unfold ye;refine(qt ?_);refine(ze ?_);refine(j9 ?_);refine(jr (N':=["ware","whom","what"]) (cap:=[none,some 0,some 1]) rfl (j6 rfl rfl) (zv rfl) ?_ (fun _ _ _ _ _=>(zt q3k rfl (Or.inl rfl) (.inr rfl))) (fun _ _ _ _ _=>(q1i ?_)) (fun _ _ _ _ _=>?_));refine(q1h rfl n_range ?_);walk_at "A";exact(qf (pv 2));exact qi;refine(zf ql6 ?_ ?_);exact(qf (pv 0));exact(qf (pv 2));refine(z7 ?_);walk_at "A";refine(qz c_31 b_31 hr (by decide) rfl ?_);walk_at "A";exact(qf (pv 1));walk_at "A";exact(qf (pv 0));exact qi;walk_at "A";refine(qz c_10 b_10 hr (by decide) rfl ?_);walk_at "A";exact(qf (pv 2));walk_at "A";refine(z7 ?_);walk_at "A";exact(qf (pv 0));exact qi;exact qi;exact qi
theorem q55{fa:Addr}{dV:Value}{fd:FuncData}(F:Fun2 K "one_step_stronger" "one_step_stronger" js dV fa fd){a_without:Addr}{fd_without:FuncData}(c_31:Cal P w K mg base "without" 1 ["some","ware"] 2 wa a_without fd_without)(b_31:Binds K fd_without ["some","ware"] []){a_joined:Addr}{fd_joined:FuncData}(c_10:Cal P w K mg base "joined" 1 ["one","other"] 2 yn a_joined fd_joined)(b_10:Binds K fd_joined ["one","other"] [])(n_range:mg "range" = none): FnOk P w K mg base CX0 2 fa fd ["whom","what","wares"] (spD K 3 xo):=
 F.okn (k:=1) (n:=3) (ar:=3) (k1:=2) (u:=ye) q54 rfl rfl rfl fun cdv A outer s H E hr=>(by first|(with_reducible exact q0u c_31 b_31 c_10 b_10 n_range hr)|exact q0u c_31 b_31 c_10 b_10 n_range hr)
abbrev q0g:Stmt:=top 40
noncomputable def q64:List Str:=["saying","known","wares"]
theorem qhf:(q64).Nodup:=by decide +kernel
theorem qhg:FnScope q64 ["saying","known","wares"] (qh q0g):=⟨rfl,rfl,rfl,qhf,rfl,by decide +kernel,by decide +kernel⟩
theorem qdf:(["stronger","known"]:List Str).Nodup:=by decide +kernel
noncomputable def q38:FS:=(zu (ql qgi (qc (eL (zp (vi (ql (qp 3 [] xo) (qc (eOp oIx (eV 0) (eC (.int 0))) (qc (eOp oIx (eV 0) (eC (.int 1))) (qc (eV 2) qk))))) [none,some 1] (bN 0) zx (eOp q26 (eV 0) (eV 1)))) qk)))
noncomputable def q0h:List D->Option D:=zj 3 q38
theorem q8w{fa:Addr}{cdv:Value}{A:Around}{outer:List Env}{s:Shared}{H:Hp}{E:XK}{a_one_step_stronger:Addr}{fd_one_step_stronger:FuncData}(c_23:Cal P w K mg base "one_step_stronger" 2 ["whom","what","wares"] 3 xo a_one_step_stronger fd_one_step_stronger)(b_23:Binds K fd_one_step_stronger ["whom","what","wares"] [])(n_any:mg "any" = none)(hr:Room 2 (A.deeper (envOfC "follows" (qh q0g) s.heap.objs.size fa cdv))):
  PSs (z5 CX0 P w K mg base q64 "follows" (qh q0g) fa cdv A outer s H E).nox (qx q0g) (tDS K q38):=by
 unfold q38;refine(qt ?_);refine(ze ?_);refine(ju (qql rfl) rfl n_any DL.boot_any ?_);walk_at "A";refine(j9 ?_);refine(jr (N':=["stronger","known"]) (cap:=[none,some 1]) rfl (j6 rfl rfl) (zv rfl) ?_ (fun _ _ _ _ _=>(zt qdf rfl (Or.inl rfl) (.inr rfl))) (fun _ _ _ _ _=>yy) (fun _ _ _ _ _=>?_));refine(xn ?_);refine(qz c_23 b_23 hr (by decide) rfl ?_);walk_at "A";refine(j8 ?_ qg);exact(qf (pv 0));walk_at "A";refine(j8 ?_ qg);exact(qf (pv 0));walk_at "A";exact(qf (pv 2));exact qi;refine(q3u (qoo hr.units) ?_ ?_);exact(qf (pv 0));exact(qf (pv 1));exact qi
theorem qhh{fa:Addr}{dV:Value}{fd:FuncData}(F:Fun2 K "follows" "follows" q0g dV fa fd){a_one_step_stronger:Addr}{fd_one_step_stronger:FuncData}(c_23:Cal P w K mg base "one_step_stronger" 2 ["whom","what","wares"] 3 xo a_one_step_stronger fd_one_step_stronger)(b_23:Binds K fd_one_step_stronger ["whom","what","wares"] [])(n_any:mg "any" = none): FnOk P w K mg base CX0 3 fa fd ["saying","known","wares"] (spD K 3 q0h):=
 F.okn (k:=2) (n:=3) (ar:=3) (k1:=3) (u:=q38) qhg rfl rfl rfl fun cdv A outer s H E hr=>(by first|(with_reducible exact q8w c_23 b_23 n_any hr)|exact q8w c_23 b_23 n_any hr)
abbrev jg:Stmt:=top 39
noncomputable def yr:List Str:=["told","wares","known"]
theorem q03:(yr).Nodup:=by decide +kernel
theorem q3l:FnScope yr ["told","wares"] (qh jg):=⟨rfl,rfl,rfl,q03,rfl,by decide +kernel,by decide +kernel⟩
theorem q2x:(["saying"]:List Str).Nodup:=by decide +kernel
theorem q2y:(["saying","known","wares"]:List Str).Nodup:=by decide +kernel
noncomputable def vd:FS:=(z0 (zi 2 (ql q8q (qc (eL (zp (vi (eV 0)) [none] (bN 0) zx (z8 (qc (z8 (qc (eOp oIx (eV 0) (eC (.int 0))) (qc (eOp oIx (eV 0) (eC (.int 1))) qk))) (qc (eC (.bl true)) qk))))) qk))) (zu (ql yz (qc (eL (zp (vi (eV 0)) [none,some 2,some 1] (bN 0) zx (eOp zq (eV 0) (z8 (qc (ql (qp 3 [] q0h) (qc (eV 0) (qc (eV 1) (qc (eV 2) qk)))) qk))))) qk))))
noncomputable def j7:List D->Option D:=zj 3 vd
theorem q04{fa:Addr}{cdv:Value}{A:Around}{outer:List Env}{s:Shared}{H:Hp}{E:XK}{a_follows:Addr}{fd_follows:FuncData}(c_6:Cal P w K mg base "follows" 3 ["saying","known","wares"] 3 q0h a_follows fd_follows)(b_6:Binds K fd_follows ["saying","known","wares"] [])(n_dict:mg "dict" = none)(n_tuple:mg "tuple" = none)(hr:Room 3 (A.deeper (envOfC "marked_by_following" (qh jg) s.heap.objs.size fa cdv))):
  PSs (z5 CX0 P w K mg base yr "marked_by_following" (qh jg) fa cdv A outer s H E).nox (qx jg) (tDS K vd):=by
 unfold vd;refine(qq ?_ ?_);refine(zb (i:=2) ?_ ?_ ?_ ?_ ?_ ?_);exact q03;exact rfl;exact(Or.inr rfl);refine(v3 (qm0 rfl hr.units) rfl n_dict DL.boot_dict ?_);walk_at "A";refine(j9 ?_);refine(jr (N':=["saying"]) (cap:=[none]) rfl (j6 rfl rfl) (zv rfl) ?_ (fun _ _ _ _ _=>(zt q2x rfl (Or.inl rfl) (.inr rfl))) (fun _ _ _ _ _=>yy) (fun _ _ _ _ _=>?_));refine(xn ?_);exact(qf (pv 0));refine(z7 ?_);walk_at "A";refine(z7 ?_);walk_at "A";refine(j8 ?_ qg);exact(qf (pv 0));walk_at "A";refine(j8 ?_ qg);exact(qf (pv 0));exact qi;walk_at "A";exact ku;exact qi;exact qi;exact rfl;walk_at "L";refine(qt ?_);refine(ze ?_);refine(v3 (kz) rfl n_tuple DL.boot_tuple ?_);walk_at "A";refine(j9 ?_);refine(jr (N':=["saying","known","wares"]) (cap:=[none,some 2,some 1]) rfl (j6 rfl rfl) (zv rfl) ?_ (fun _ _ _ _ _=>(zt q2y rfl (Or.inl rfl) (.inr rfl))) (fun _ _ _ _ _=>yy) (fun _ _ _ _ _=>?_));refine(xn ?_);exact(qf (pv 0));refine(qr jb ?_ ?_);exact(qf (pv 0));refine(z7 ?_);walk_at "A";refine(qz c_6 b_6 hr (by decide) rfl ?_);walk_at "A";exact(qf (pv 0));walk_at "A";exact(qf (pv 1));walk_at "A";exact(qf (pv 2));exact qi;exact qi;exact qi
theorem q3m{fa:Addr}{dV:Value}{fd:FuncData}(F:Fun2 K "marked_by_following" "marked_by_following" jg dV fa fd){a_follows:Addr}{fd_follows:FuncData}(c_6:Cal P w K mg base "follows" 3 ["saying","known","wares"] 3 q0h a_follows fd_follows)(b_6:Binds K fd_follows ["saying","known","wares"] [])(n_dict:mg "dict" = none)(n_tuple:mg "tuple" = none): FnOk P w K mg base CX0 4 fa fd ["told","wares"] (spD K 2 j7):=
 F.okn (k:=3) (n:=3) (ar:=2) (k1:=4) (u:=vd) q3l rfl rfl rfl fun cdv A outer s H E hr=>(by first|(with_reducible exact q04 c_6 b_6 n_dict n_tuple hr)|exact q04 c_6 b_6 n_dict n_tuple hr)
abbrev kh:Stmt:=top 38
noncomputable def q3n:List Str:=["whom","what","counts","number","chance"]
theorem q2z:(q3n).Nodup:=by decide +kernel
theorem qdg:FnScope q3n ["whom","what","counts"] (qh kh):=⟨rfl,rfl,rfl,q2z,rfl,by decide +kernel,by decide +kernel⟩
noncomputable def q1b:FS:=(z0 (zi 3 (qgs (eV 2) (qc (ql (qp 2 [] yn) (qc (eV 0) (qc (eV 1) qk))) (qc (eC (.int 0)) qk)))) (z0 (zi 4 (ql (qp 2 [] yp) (qc (eOp zz (eV 3) (eOp q34 (eV 2) (z8 qk))) (qc (eOp zz (eOp q34 (eV 2) (eV 0)) (eOp q34 (eV 2) (eV 1))) qk)))) (zu (z8 (qc (eV 0) (qc (eV 1) (qc (eV 3) (qc (ql (qp 2 [] yp) (qc (eV 3) (qc (eOp q34 (eV 2) (eV 0)) qk))) (qc (eV 4) qk)))))))))
noncomputable def xa:List D->Option D:=zj 5 q1b
theorem q65{fa:Addr}{cdv:Value}{A:Around}{outer:List Env}{s:Shared}{H:Hp}{E:XK}{a_share:Addr}{fd_share:FuncData}(c_29:Cal P w K mg base "share" 2 ["top","bottom"] 2 yp a_share fd_share)(b_29:Binds K fd_share ["top","bottom"] []){a_joined:Addr}{fd_joined:FuncData}(c_10:Cal P w K mg base "joined" 1 ["one","other"] 2 yn a_joined fd_joined)(b_10:Binds K fd_joined ["one","other"] [])(hr:Room 2 (A.deeper (envOfC "saying_of" (qh kh) s.heap.objs.size fa cdv))):
  PSs (z5 CX0 P w K mg base q3n "saying_of" (qh kh) fa cdv A outer s H E).nox (qx kh) (tDS K q1b):=by
 unfold q1b;refine(qq ?_ ?_);refine(zb (i:=3) ?_ ?_ ?_ ?_ ?_ ?_);exact q2z;exact rfl;exact(Or.inl rfl);refine(qr4 hr.units ?_ ?_);exact(qf (pv 2));walk_at "A";refine(qz c_10 b_10 hr (by decide) rfl ?_);walk_at "A";exact(qf (pv 0));walk_at "A";exact(qf (pv 1));exact qi;walk_at "A";exact qg;exact qi;exact rfl;walk_at "L";refine(qq ?_ ?_);refine(zb (i:=4) ?_ ?_ ?_ ?_ ?_ ?_);exact q2z;exact rfl;exact(Or.inl rfl);refine(qz c_29 b_29 hr (by decide) rfl ?_);walk_at "A";refine(qr xg ?_ ?_);exact(qf (pv 3));refine(q8m hr.units ?_ ?_);exact(qf (pv 2));exact(z7 qi);walk_at "A";refine(qr xg ?_ ?_);refine(q8m hr.units ?_ ?_);exact(qf (pv 2));exact(qf (pv 0));refine(q8m hr.units ?_ ?_);exact(qf (pv 2));exact(qf (pv 1));exact qi;exact rfl;walk_at "L";refine(qt ?_);refine(ze ?_);refine(z7 ?_);walk_at "A";exact(qf (pv 0));walk_at "A";exact(qf (pv 1));walk_at "A";exact(qf (pv 3));walk_at "A";refine(qz c_29 b_29 hr (by decide) rfl ?_);walk_at "A";exact(qf (pv 3));walk_at "A";refine(q8m hr.units ?_ ?_);exact(qf (pv 2));exact(qf (pv 0));exact qi;walk_at "A";exact(qf (pv 4));exact qi
theorem qdh{fa:Addr}{dV:Value}{fd:FuncData}(F:Fun2 K "saying_of" "saying_of" kh dV fa fd){a_share:Addr}{fd_share:FuncData}(c_29:Cal P w K mg base "share" 2 ["top","bottom"] 2 yp a_share fd_share)(b_29:Binds K fd_share ["top","bottom"] []){a_joined:Addr}{fd_joined:FuncData}(c_10:Cal P w K mg base "joined" 1 ["one","other"] 2 yn a_joined fd_joined)(b_10:Binds K fd_joined ["one","other"] []): FnOk P w K mg base CX0 3 fa fd ["whom","what","counts"] (spD K 3 xa):=
 F.okn (k:=2) (n:=5) (ar:=3) (k1:=3) (u:=q1b) qdg rfl rfl rfl fun cdv A outer s H E hr=>(by first|(with_reducible exact q65 c_29 b_29 c_10 b_10 hr)|exact q65 c_29 b_29 c_10 b_10 hr)
abbrev q6s:Stmt:=top 14
noncomputable def qhi:List Str:=["one","other"]
theorem qrh:(qhi).Nodup:=by decide +kernel
theorem qri:FnScope qhi ["one","other"] (qh q6s):=⟨rfl,rfl,rfl,qrh,rfl,by decide +kernel,by decide +kernel⟩
theorem qm8:(["ware","other"]:List Str).Nodup:=by decide +kernel
noncomputable def qbi:FS:=(zu (ql yz (qc (eL (zp (vi (eV 0)) [none,some 1] (bN 0) (z6 (oIn false) (eV 0) (eV 1)) (eV 0))) qk)))
noncomputable def q6t:List D->Option D:=zj 2 qbi
theorem qk1{fa:Addr}{cdv:Value}{A:Around}{outer:List Env}{s:Shared}{H:Hp}{E:XK}(n_tuple:mg "tuple" = none)(hr:Room 0 (A.deeper (envOfC "met" (qh q6s) s.heap.objs.size fa cdv))):
  PSs (z5 CX0 P w K mg base qhi "met" (qh q6s) fa cdv A outer s H E).nox (qx q6s) (tDS K qbi):=by
 unfold qbi;refine(qt ?_);refine(ze ?_);refine(v3 (kz) rfl n_tuple DL.boot_tuple ?_);walk_at "A";refine(j9 ?_);refine(jr (N':=["ware","other"]) (cap:=[none,some 1]) rfl (j6 rfl rfl) (zv rfl) ?_ (fun _ _ _ _ _=>(zt qm8 rfl (Or.inl rfl) (.inr rfl))) (fun _ _ _ _ _=>(q1i ?_)) (fun _ _ _ _ _=>?_));refine(xn ?_);exact(qf (pv 0));refine(zf qso ?_ ?_);exact(qf (pv 0));exact(qf (pv 1));exact(qf (pv 0));exact qi
theorem qrj{fa:Addr}{dV:Value}{fd:FuncData}(F:Fun2 K "met" "met" q6s dV fa fd)(n_tuple:mg "tuple" = none): FnOk P w K mg base CX0 1 fa fd ["one","other"] (spD K 2 q6t):=
 F.okn (k:=0) (n:=2) (ar:=2) (k1:=1) (u:=qbi) qri rfl rfl rfl fun cdv A outer s H E hr=>(by first|(with_reducible exact qk1 n_tuple hr)|exact qk1 n_tuple hr)
abbrev ki:Stmt:=top 37
noncomputable def q3o:List Str:=["whom","counts"]
theorem qdi:(q3o).Nodup:=by decide +kernel
theorem qdj:FnScope q3o ["whom","counts"] (qh ki):=⟨rfl,rfl,rfl,qdi,rfl,by decide +kernel,by decide +kernel⟩
theorem q9y:(["what","whom"]:List Str).Nodup:=by decide +kernel
noncomputable def q1c:FS:=(zu (eL (zp (qgr (eV 1)) [none,some 0] (bN 0) (q1u (z6 q9k (eV 0) (z8 qk)) (z6 oEq (ql (qp 2 [] q6t) (qc (eV 1) (qc (eV 0) qk))) (z8 qk))) (eV 0))))
noncomputable def yo:List D->Option D:=zj 2 q1c
theorem q66{fa:Addr}{cdv:Value}{A:Around}{outer:List Env}{s:Shared}{H:Hp}{E:XK}{a_met:Addr}{fd_met:FuncData}(c_22:Cal P w K mg base "met" 1 ["one","other"] 2 q6t a_met fd_met)(b_22:Binds K fd_met ["one","other"] [])(hr:Room 1 (A.deeper (envOfC "whats_for" (qh ki) s.heap.objs.size fa cdv))):
  PSs (z5 CX0 P w K mg base q3o "whats_for" (qh ki) fa cdv A outer s H E).nox (qx ki) (tDS K q1c):=by
 unfold q1c;refine(qt ?_);refine(ze ?_);refine(j9 ?_);refine(jr (N':=["what","whom"]) (cap:=[none,some 0]) rfl (j6 rfl rfl) (zv rfl) ?_ (fun _ _ _ _ _=>(zt q9y rfl (Or.inl rfl) (.inr rfl))) (fun _ _ _ _ _=>(q1i ?_)) (fun _ _ _ _ _=>?_));refine(qjl ?_);exact(qf (pv 1));refine(PW.pt (qiu ?_ (qf8 ?_)));refine(zf (qj7 hr.units) ?_ ?_);exact(qf (pv 0));exact(z7 qi);refine(zf (wg hr.units) ?_ ?_);refine(qz c_22 b_22 hr (by decide) rfl ?_);walk_at "A";exact(qf (pv 1));walk_at "A";exact(qf (pv 0));exact qi;exact(z7 qi);exact(qf (pv 0))
theorem qdk{fa:Addr}{dV:Value}{fd:FuncData}(F:Fun2 K "whats_for" "whats_for" ki dV fa fd){a_met:Addr}{fd_met:FuncData}(c_22:Cal P w K mg base "met" 1 ["one","other"] 2 q6t a_met fd_met)(b_22:Binds K fd_met ["one","other"] []): FnOk P w K mg base CX0 2 fa fd ["whom","counts"] (spD K 2 yo):=
 F.okn (k:=1) (n:=2) (ar:=2) (k1:=2) (u:=q1c) qdj rfl rfl rfl fun cdv A outer s H E hr=>(by first|(with_reducible exact q66 c_22 b_22 hr)|exact q66 c_22 b_22 hr)
abbrev q0i:Stmt:=top 32
noncomputable def q67:List Str:=["one","other"]
theorem qhj:(q67).Nodup:=by decide +kernel
theorem qhk:FnScope q67 ["one","other"] (qh q0i):=⟨rfl,rfl,rfl,qhj,rfl,by decide +kernel,by decide +kernel⟩
noncomputable def q1o:FS:=(zu (eOp oGe (eOp zz (eOp oIx (eV 0) (eC (.int 0))) (eOp oIx (eV 1) (eC (.int 1)))) (eOp zz (eOp oIx (eV 1) (eC (.int 0))) (eOp oIx (eV 0) (eC (.int 1))))))
noncomputable def vt:List D->Option D:=zj 2 q1o
theorem q8x{fa:Addr}{cdv:Value}{A:Around}{outer:List Env}{s:Shared}{H:Hp}{E:XK}(hr:Room 0 (A.deeper (envOfC "reaches" (qh q0i) s.heap.objs.size fa cdv))):
  PSs (z5 CX0 P w K mg base q67 "reaches" (qh q0i) fa cdv A outer s H E).nox (qx q0i) (tDS K q1o):=by
 unfold q1o;refine(qt ?_);refine(ze ?_);refine(q3u qbd ?_ ?_);refine(qr xg ?_ ?_);refine(j8 ?_ qg);exact(qf (pv 0));refine(j8 ?_ qg);exact(qf (pv 1));refine(qr xg ?_ ?_);refine(j8 ?_ qg);exact(qf (pv 1));refine(j8 ?_ qg);exact(qf (pv 0))
theorem qhl{fa:Addr}{dV:Value}{fd:FuncData}(F:Fun2 K "reaches" "reaches" q0i dV fa fd): FnOk P w K mg base CX0 1 fa fd ["one","other"] (spD K 2 vt):=
 F.okn (k:=0) (n:=2) (ar:=2) (k1:=1) (u:=q1o) qhk rfl rfl rfl fun cdv A outer s H E hr=>(by first|(with_reducible exact q8x  hr)|exact q8x  hr)
abbrev x5:Stmt:=top 35
noncomputable def q39:List Str:=["pile","least","bound","asked","counts","told","whom","said"]
theorem nd_sayings:(q39).Nodup:=by decide +kernel
theorem q8y:FnScope q39 ["pile","least","bound"] (qh x5):=⟨rfl,rfl,rfl,nd_sayings,rfl,by decide +kernel,by decide +kernel⟩
theorem qdl:(["what","whom","counts"]:List Str).Nodup:=by decide +kernel
theorem qdm:(["saying","least","asked"]:List Str).Nodup:=by decide +kernel
noncomputable def q30:FS:=(z0 (q1v 7 (zp (vi (ql (qp 2 [] yo) (qc (eV 6) (qc (eV 4) qk)))) [none,some 6,some 4] (bN 0) zx (ql (qp 3 [] xa) (qc (eV 1) (qc (eV 0) (qc (eV 2) qk)))))) (q12 7 (q9j 5 (eL (zp (vi (eV 7)) [none,some 1,some 3] (bN 0) (q1u (z6 oGe (eOp oIx (eV 0) (eC (.int 2))) (eV 1)) (bT (ql (qp 2 [] vt) (qc (eOp oIx (eV 0) (eC (.int 3))) (qc (eV 2) qk))))) (eV 0))))))
noncomputable def q3a:FS:=(z0 (zi 3 (ql (qp 1 [] jl) (qc (eV 2) qk))) (z0 (sIf (z6 oGt (eOp oIx (eV 0) (eC (.int 0))) (eC (.int 8))) q1j xl) (z0 (zi 4 (ql q8n (qc (q9l "Growing" 3 jo (eC (.obj "Growing")) (qc (eV 0) (qc (eC (.int 1)) qk))) qk))) (z0 (q1v 5 (xq qk)) (z0 (q3e (qgr (eV 4)) (bN 6) q30) (q12 7 (q12 5 (zu (ql (qp 2 [] j7) (qc (eV 5) (qc (eOp oIx (eV 0) (eC (.int 0))) qk)))))))))))
noncomputable def zo:List D->Option D:=zj 8 q3a
theorem q8z{fa:Addr}{cdv:Value}{A:Around}{outer:List Env}{s:Shared}{H:Hp}{E:XK}{C_Growing:Addr}(O_Growing:ClsOk K "Growing" C_Growing)(m_Growing:mg "Growing" = some (.ref C_Growing)){a_bound_of:Addr}{fd_bound_of:FuncData}(c_4:Cal P w K mg base "bound_of" 3 ["thing"] 1 jl a_bound_of fd_bound_of)(b_4:Binds K fd_bound_of ["thing"] []){a_Growing_often:Addr}{fd_Growing_often:FuncData}(c_1:CalM P w K mg base "Growing" "often" C_Growing 4 ["self","pile","least"] 3 jo a_Growing_often fd_Growing_often)(b_1:Binds K fd_Growing_often ["self","pile","least"] []){a_marked_by_following:Addr}{fd_marked_by_following:FuncData}(c_21:Cal P w K mg base "marked_by_following" 4 ["told","wares"] 2 j7 a_marked_by_following fd_marked_by_following)(b_21:Binds K fd_marked_by_following ["told","wares"] []){a_saying_of:Addr}{fd_saying_of:FuncData}(c_27:Cal P w K mg base "saying_of" 3 ["whom","what","counts"] 3 xa a_saying_of fd_saying_of)(b_27:Binds K fd_saying_of ["whom","what","counts"] []){a_whats_for:Addr}{fd_whats_for:FuncData}(c_30:Cal P w K mg base "whats_for" 2 ["whom","counts"] 2 yo a_whats_for fd_whats_for)(b_30:Binds K fd_whats_for ["whom","counts"] []){a_reaches:Addr}{fd_reaches:FuncData}(c_26:Cal P w K mg base "reaches" 1 ["one","other"] 2 vt a_reaches fd_reaches)(b_26:Binds K fd_reaches ["one","other"] [])(n_dict:mg "dict" = none)(g_MOST_WARES_SAID:∃t,mg "MOST_WARES_SAID" = some (.int 8 t))(hr:Room 4 (A.deeper (envOfC "sayings" (qh x5) s.heap.objs.size fa cdv))):
  PSs (z5 CX0 P w K mg base q39 "sayings" (qh x5) fa cdv A outer s H E).nox (qx x5) (tDS K q3a):=by
 unfold q3a q30;refine(qq ?_ ?_);refine(zb (i:=3) ?_ ?_ ?_ ?_ ?_ ?_);exact nd_sayings;exact rfl;exact(Or.inr rfl);refine(qz c_4 b_4 hr (by decide) rfl ?_);walk_at "A";exact(qf (pv 2));exact qi;exact rfl;walk_at "L";refine(qq ?_ ?_);refine(xm ?_ (qt q13) jw);refine(zf q6j ?_ ?_);refine(j8 ?_ qg);exact(qf (pv 0));exact(q6m rfl g_MOST_WARES_SAID);refine(qq ?_ ?_);refine(zb (i:=4) ?_ ?_ ?_ ?_ ?_ ?_);exact nd_sayings;exact rfl;exact(Or.inr rfl);refine(v3 (qlo rfl hr.units) rfl n_dict DL.boot_dict ?_);walk_at "A";refine(qja O_Growing c_1 b_1 hr (by decide) ?_ ?_);exact(qqw O_Growing m_Growing rfl);walk_at "A";exact(qf (pv 0));walk_at "A";exact qg;exact qi;exact qi;exact rfl;walk_at "L";refine(qq ?_ ?_);exact(q8b (i:=5) nd_sayings rfl (Or.inl rfl) (jh qi));refine(qq ?_ ?_);refine(q3v uk rfl ?_ (zt nd_sayings rfl (Or.inr rfl) (.inl rfl)) (qq ?_ ?_));refine(qjl ?_);exact(qf (pv 4));refine(qfd (i:=7) rfl nd_sayings rfl rfl (N':=["what","whom","counts"]) (cap:=[none,some 6,some 4]) (j6 rfl rfl) (zv rfl) ?_ (fun _ _ _ _ _=>(zt qdl rfl (Or.inl rfl) (.inr rfl))) (fun _ _ _ _ _=>yy) (fun _ _ _ _ _=>?_));refine(xn ?_);refine(qz c_30 b_30 hr (by decide) rfl ?_);walk_at "A";exact(qf (pv 6));walk_at "A";exact(qf (pv 4));exact qi;refine(qz c_27 b_27 hr (by decide) rfl ?_);walk_at "A";exact(qf (pv 1));walk_at "A";exact(qf (pv 0));walk_at "A";exact(qf (pv 2));exact qi;refine(q1g 7 (qt ?_));refine(qj6 (pv 5) ?_);refine(j9 ?_);refine(jr (N':=["saying","least","asked"]) (cap:=[none,some 1,some 3]) rfl (j6 rfl rfl) (zv rfl) ?_ (fun _ _ _ _ _=>(zt qdm rfl (Or.inl rfl) (.inr rfl))) (fun _ _ _ _ _=>(q1i ?_)) (fun _ _ _ _ _=>?_));refine(xn ?_);exact(qf (pv 7));refine(PW.pt (qiu ?_ (qf8 ?_)));refine(zf qbd ?_ ?_);refine(j8 ?_ qg);exact(qf (pv 0));exact(qf (pv 1));refine(y0 ?_);refine(qz c_26 b_26 hr (by decide) rfl ?_);walk_at "A";refine(j8 ?_ qg);exact(qf (pv 0));walk_at "A";exact(qf (pv 2));exact qi;exact(qf (pv 0));refine(q1g 7 (q1g 5 (qt ?_)));refine(ze ?_);refine(qz c_21 b_21 hr (by decide) rfl ?_);walk_at "A";exact(qf (pv 5));walk_at "A";refine(j8 ?_ qg);exact(qf (pv 0));exact qi
theorem qhm{fa:Addr}{dV:Value}{fd:FuncData}(F:Fun2 K "sayings" "sayings" x5 dV fa fd){C_Growing:Addr}(O_Growing:ClsOk K "Growing" C_Growing)(m_Growing:mg "Growing" = some (.ref C_Growing)){a_bound_of:Addr}{fd_bound_of:FuncData}(c_4:Cal P w K mg base "bound_of" 3 ["thing"] 1 jl a_bound_of fd_bound_of)(b_4:Binds K fd_bound_of ["thing"] []){a_Growing_often:Addr}{fd_Growing_often:FuncData}(c_1:CalM P w K mg base "Growing" "often" C_Growing 4 ["self","pile","least"] 3 jo a_Growing_often fd_Growing_often)(b_1:Binds K fd_Growing_often ["self","pile","least"] []){a_marked_by_following:Addr}{fd_marked_by_following:FuncData}(c_21:Cal P w K mg base "marked_by_following" 4 ["told","wares"] 2 j7 a_marked_by_following fd_marked_by_following)(b_21:Binds K fd_marked_by_following ["told","wares"] []){a_saying_of:Addr}{fd_saying_of:FuncData}(c_27:Cal P w K mg base "saying_of" 3 ["whom","what","counts"] 3 xa a_saying_of fd_saying_of)(b_27:Binds K fd_saying_of ["whom","what","counts"] []){a_whats_for:Addr}{fd_whats_for:FuncData}(c_30:Cal P w K mg base "whats_for" 2 ["whom","counts"] 2 yo a_whats_for fd_whats_for)(b_30:Binds K fd_whats_for ["whom","counts"] []){a_reaches:Addr}{fd_reaches:FuncData}(c_26:Cal P w K mg base "reaches" 1 ["one","other"] 2 vt a_reaches fd_reaches)(b_26:Binds K fd_reaches ["one","other"] [])(n_dict:mg "dict" = none)(g_MOST_WARES_SAID:∃t,mg "MOST_WARES_SAID" = some (.int 8 t)): FnOk P w K mg base CX0 5 fa fd ["pile","least","bound"] (spD K 3 zo):=
 F.okn (k:=4) (n:=8) (ar:=3) (k1:=5) (u:=q3a) q8y rfl rfl rfl fun cdv A outer s H E hr=>(by first|(with_reducible exact q8z O_Growing m_Growing c_4 b_4 c_1 b_1 c_21 b_21 c_27 b_27 c_30 b_30 c_26 b_26 n_dict g_MOST_WARES_SAID hr)|exact q8z O_Growing m_Growing c_4 b_4 c_1 b_1 c_21 b_21 c_27 b_27 c_30 b_30 c_26 b_26 n_dict g_MOST_WARES_SAID hr)
noncomputable def q0j:FX:=(ko (zi 3 (ql (qp 1 [] jl) (qc (eV 2) qk))) (q24 1 x_bound_of (qc (eV 2) qk)) (ko (sIf (z6 oGt (eOp oIx (eV 0) (eC (.int 0))) (eC (.int 8))) q1j xl) (xIf (z6 oGt (eOp oIx (eV 0) (eC (.int 0))) (eC (.int 8))) (qfv "TooGreat" "most" (eC (.int 8))) k6) k6))
noncomputable def x_sayings:List D->Option XV:=fun ds=>(q0j (q5r 8 ds)).map (·.1)
theorem qhn{fa:Addr}{cdv:Value}{A:Around}{outer:List Env}{s:Shared}{H:Hp}{E:XK}{C_Growing:Addr}(O_Growing:ClsOk K "Growing" C_Growing)(m_Growing:mg "Growing" = some (.ref C_Growing)){a_bound_of:Addr}{fd_bound_of:FuncData}(c_4:Cal P w K mg base "bound_of" 3 ["thing"] 1 jl a_bound_of fd_bound_of)(b_4:Binds K fd_bound_of ["thing"] []){a_Growing_often:Addr}{fd_Growing_often:FuncData}(c_1:CalM P w K mg base "Growing" "often" C_Growing 4 ["self","pile","least"] 3 jo a_Growing_often fd_Growing_often)(b_1:Binds K fd_Growing_often ["self","pile","least"] []){a_marked_by_following:Addr}{fd_marked_by_following:FuncData}(c_21:Cal P w K mg base "marked_by_following" 4 ["told","wares"] 2 j7 a_marked_by_following fd_marked_by_following)(b_21:Binds K fd_marked_by_following ["told","wares"] []){a_saying_of:Addr}{fd_saying_of:FuncData}(c_27:Cal P w K mg base "saying_of" 3 ["whom","what","counts"] 3 xa a_saying_of fd_saying_of)(b_27:Binds K fd_saying_of ["whom","what","counts"] []){a_whats_for:Addr}{fd_whats_for:FuncData}(c_30:Cal P w K mg base "whats_for" 2 ["whom","counts"] 2 yo a_whats_for fd_whats_for)(b_30:Binds K fd_whats_for ["whom","counts"] []){a_reaches:Addr}{fd_reaches:FuncData}(c_26:Cal P w K mg base "reaches" 1 ["one","other"] 2 vt a_reaches fd_reaches)(b_26:Binds K fd_reaches ["one","other"] [])(n_dict:mg "dict" = none)(g_MOST_WARES_SAID:∃t,mg "MOST_WARES_SAID" = some (.int 8 t))(gr_bound_of:FnOk P w K mg base (CXR P w) 3 a_bound_of fd_bound_of ["thing"] (spR K 1 x_bound_of)){C_TooGreat fI_TooGreat:Addr}{fdI_TooGreat:FuncData}(ei_TooGreat:q01 K C_TooGreat fI_TooGreat=true)(gI_TooGreat:FnOk P w K mg base CX0 1 fI_TooGreat fdI_TooGreat ["self","most"] (spI C_TooGreat "most"))(bI_TooGreat:Binds K fdI_TooGreat ["self","most"] [])(tI_TooGreat:PySem.W.typeIn K (.ref fI_TooGreat)=some (.type "function"))(kp_TooGreat:PySem.W.keepIn K (.ref C_TooGreat)=true)(m_TooGreat:mg "TooGreat" = some (.ref C_TooGreat))(ns_TooGreat:PySem.W.nsIn K mainGlobals "TooGreat" = some (some (.ref C_TooGreat)))(hr:Room 4 (A.deeper (envOfC "sayings" (qh x5) s.heap.objs.size fa cdv))):
  PSs (z5 (CXR P w) P w K mg base q39 "sayings" (qh x5) fa cdv A outer s H E) (qx x5) (tXS K q0j E):=by
 unfold q0j;refine(q5s (PS.nox ?_) (qrb (i:=3) nd_sayings rfl (Or.inr rfl) (qfs gr_bound_of hr (by decide) rfl c_4.mg c_4.kp b_4 ?_)) (q5s (PS.nox ?_) (qgw (PT.nox ?_) (q8p (qjs ei_TooGreat gI_TooGreat bI_TooGreat tI_TooGreat kp_TooGreat hr (by decide) rfl m_TooGreat ns_TooGreat ?_)) q1k) q1k));refine(zb (i:=3) ?_ ?_ ?_ ?_ ?_ ?_);exact nd_sayings;exact rfl;exact(Or.inr rfl);refine(qz c_4 b_4 hr (by decide) rfl ?_);walk_at "A";exact(qf (pv 2));exact qi;exact rfl;walk_at "L";walk_at "A";exact(qf (pv 2));exact qi;refine(xm ?_ (qt q13) jw);refine(zf q6j ?_ ?_);refine(j8 ?_ qg);exact(qf (pv 0));exact(q6m rfl g_MOST_WARES_SAID);refine(zf q6j ?_ ?_);refine(j8 ?_ qg);exact(qf (pv 0));exact(q6m rfl g_MOST_WARES_SAID);exact(q6m rfl g_MOST_WARES_SAID)
theorem qeq{fa:Addr}{dV:Value}{fd:FuncData}(F:Fun2 K "sayings" "sayings" x5 dV fa fd){C_Growing:Addr}(O_Growing:ClsOk K "Growing" C_Growing)(m_Growing:mg "Growing" = some (.ref C_Growing)){a_bound_of:Addr}{fd_bound_of:FuncData}(c_4:Cal P w K mg base "bound_of" 3 ["thing"] 1 jl a_bound_of fd_bound_of)(b_4:Binds K fd_bound_of ["thing"] []){a_Growing_often:Addr}{fd_Growing_often:FuncData}(c_1:CalM P w K mg base "Growing" "often" C_Growing 4 ["self","pile","least"] 3 jo a_Growing_often fd_Growing_often)(b_1:Binds K fd_Growing_often ["self","pile","least"] []){a_marked_by_following:Addr}{fd_marked_by_following:FuncData}(c_21:Cal P w K mg base "marked_by_following" 4 ["told","wares"] 2 j7 a_marked_by_following fd_marked_by_following)(b_21:Binds K fd_marked_by_following ["told","wares"] []){a_saying_of:Addr}{fd_saying_of:FuncData}(c_27:Cal P w K mg base "saying_of" 3 ["whom","what","counts"] 3 xa a_saying_of fd_saying_of)(b_27:Binds K fd_saying_of ["whom","what","counts"] []){a_whats_for:Addr}{fd_whats_for:FuncData}(c_30:Cal P w K mg base "whats_for" 2 ["whom","counts"] 2 yo a_whats_for fd_whats_for)(b_30:Binds K fd_whats_for ["whom","counts"] []){a_reaches:Addr}{fd_reaches:FuncData}(c_26:Cal P w K mg base "reaches" 1 ["one","other"] 2 vt a_reaches fd_reaches)(b_26:Binds K fd_reaches ["one","other"] [])(n_dict:mg "dict" = none)(g_MOST_WARES_SAID:∃t,mg "MOST_WARES_SAID" = some (.int 8 t))(gr_bound_of:FnOk P w K mg base (CXR P w) 3 a_bound_of fd_bound_of ["thing"] (spR K 1 x_bound_of)){C_TooGreat fI_TooGreat:Addr}{fdI_TooGreat:FuncData}(ei_TooGreat:q01 K C_TooGreat fI_TooGreat=true)(gI_TooGreat:FnOk P w K mg base CX0 1 fI_TooGreat fdI_TooGreat ["self","most"] (spI C_TooGreat "most"))(bI_TooGreat:Binds K fdI_TooGreat ["self","most"] [])(tI_TooGreat:PySem.W.typeIn K (.ref fI_TooGreat)=some (.type "function"))(kp_TooGreat:PySem.W.keepIn K (.ref C_TooGreat)=true)(m_TooGreat:mg "TooGreat" = some (.ref C_TooGreat))(ns_TooGreat:PySem.W.nsIn K mainGlobals "TooGreat" = some (some (.ref C_TooGreat))): FnOk P w K mg base (CXR P w) 5 fa fd ["pile","least","bound"] (spR K 3 x_sayings):=
 q5t (k:=4) (v:=q0j) F q8y rfl rfl rfl fun cdv A outer s H E hr=>qhn O_Growing m_Growing c_4 b_4 c_1 b_1 c_21 b_21 c_27 b_27 c_30 b_30 c_26 b_26 n_dict g_MOST_WARES_SAID gr_bound_of ei_TooGreat gI_TooGreat bI_TooGreat tI_TooGreat kp_TooGreat m_TooGreat ns_TooGreat hr
abbrev yi:Stmt:=top 49
noncomputable def q1y:List Str:=["_law_pile_here","_law_least","_law_bound","_law_seen","_law_field","e","_law_others"]
theorem jc:(q1y).Nodup:=by decide +kernel
theorem q9z:FnScope q1y ["_law_pile_here","_law_least","_law_bound"] (qh yi):=⟨rfl,rfl,rfl,jc,rfl,by decide +kernel,by decide +kernel⟩
noncomputable def q08:FS:=(z0 (zi 3 (eL (xq qk))) (z0 (zi 4 (eC .non)) (z0 (q25 (sIf (z6 (oIs false) (eV 2) (eC .non)) (q33 (ql (qp 3 [.non] zo) (qc (eV 0) (qc (eV 1) qk)))) (q33 (ql (qp 3 [] zo) (qc (eV 0) (qc (eV 1) (qc (eV 2) qk)))))) (xIf (z6 (oIs false) (eV 2) (eC .non)) (qd2 3 [.non] x_sayings (qc (eV 0) (qc (eV 1) qk))) (q24 3 x_sayings (qc (eV 0) (qc (eV 1) (qc (eV 2) qk))))) ["TooGreat","NoShare"] (qtv [("TooGreat",(sAs 5 "TooGreat" (z0 (zi 6 (eUn (isX "TooGreat" false) (eV 5))) (z0 (zi 3 (eL (xq (qc (eC (.str "great")) (qc (q4e (eUn (isX "TooGreat" true) (eV 5)) (eUn (isX "TooGreat" true) (eV 5))) (qc (eV 6) qk)))))) (zi 4 (eXF "TooGreat" "most" (eV 5))))))),("NoShare",(sAs 5 "NoShare" (z0 (zi 6 (eUn (isX "NoShare" false) (eV 5))) (zi 3 (eL (xq (qc (eC (.str "share")) (qc (q4e (eUn (isX "NoShare" true) (eV 5)) (eUn (isX "NoShare" true) (eV 5))) (qc (eV 6) qk)))))))))])) (zu (eL (xq (qc (eV 3) (qc (eV 4) qk))))))))
noncomputable def j5:List D->Option D:=zj 7 q08
theorem q43{fa:Addr}{cdv:Value}{A:Around}{outer:List Env}{s:Shared}{H:Hp}{E:XK}{a_sayings:Addr}{fd_sayings:FuncData}(c_28:Cal P w K mg base "sayings" 5 ["pile","least","bound"] 3 zo a_sayings fd_sayings)(b_28:Binds K fd_sayings ["pile","least","bound"] []){dvs_sayings_1:List V}{dv_l_sayings_1:List Value}(bd_sayings_1:Binds K fd_sayings ["pile","least","bound"] dv_l_sayings_1)(dv_sayings_1:Vals dvs_sayings_1 dv_l_sayings_1)(dd_sayings_1:∀ {H:Hp},RepL K H [.non] dvs_sayings_1){C_NoShare:Addr}(ns_NoShare:PySem.W.nsIn K mainGlobals "NoShare" = some (some (.ref C_NoShare)))(cx_NoShare:q4b K C_NoShare)(m_NoShare:mg "NoShare" = some (.ref C_NoShare)){C_TooGreat:Addr}(ns_TooGreat:PySem.W.nsIn K mainGlobals "TooGreat" = some (some (.ref C_TooGreat)))(cx_TooGreat:q4b K C_TooGreat)(m_TooGreat:mg "TooGreat" = some (.ref C_TooGreat))(tp_TooGreat:PySem.W.typeIn K (.ref C_TooGreat)=some (.type "type"))(mr_TooGreat_TooGreat:PySem.W.mroIn K C_TooGreat (.ref C_TooGreat)=some true)(mr_NoShare_TooGreat:PySem.W.mroIn K C_NoShare (.ref C_TooGreat)=some false)(tp_NoShare:PySem.W.typeIn K (.ref C_NoShare)=some (.type "type"))(mr_TooGreat_NoShare:PySem.W.mroIn K C_TooGreat (.ref C_NoShare)=some false)(mr_NoShare_NoShare:PySem.W.mroIn K C_NoShare (.ref C_NoShare)=some true)(gr_sayings:FnOk P w K mg base (CXR P w) 5 a_sayings fd_sayings ["pile","least","bound"] (spR K 3 x_sayings))(ci_TooGreat:ClsI K C_TooGreat "most"){C_NoRun:Addr}(m_NoRun:mg "NoRun" = some (.ref C_NoRun)){C_NoStore:Addr}(m_NoStore:mg "NoStore" = some (.ref C_NoStore)){C_NoText:Addr}(m_NoText:mg "NoText" = some (.ref C_NoText)){C_NoTree:Addr}(m_NoTree:mg "NoTree" = some (.ref C_NoTree)){C_NotThere:Addr}(m_NotThere:mg "NotThere" = some (.ref C_NotThere))(ka_TooGreat_NoRun_NoShare_NoStore_NoText_NoTree_NotThere:PySem.W.kitAny K (.ref C_TooGreat) ([C_NoRun,C_NoShare,C_NoStore,C_NoText,C_NoTree,C_NotThere].map Value.ref)=some false){C_OftenError:Addr}(m_OftenError:mg "OftenError" = some (.ref C_OftenError))(kt_TooGreat_OftenError:PySem.W.kitOne K (.ref C_TooGreat) (.ref C_OftenError)=some true)(kt_TooGreat_ValueError:PySem.W.kitOne K (.ref C_TooGreat) (.type "ValueError")=some true)(ka_NoShare_NoRun_NoStore_NoText_NoTree_NotThere:PySem.W.kitAny K (.ref C_NoShare) ([C_NoRun,C_NoStore,C_NoText,C_NoTree,C_NotThere].map Value.ref)=some false)(kt_NoShare_OftenError:PySem.W.kitOne K (.ref C_NoShare) (.ref C_OftenError)=some true)(kt_NoShare_ValueError:PySem.W.kitOne K (.ref C_NoShare) (.type "ValueError")=some true)(n_isinstance:mg "isinstance" = none)(n_ValueError:mg "ValueError" = none)(hr:Room 5 (A.deeper (envOfC "_law_refused" (qh yi) s.heap.objs.size fa cdv))):
  PSs (z5 CX0 P w K mg base q1y "_law_refused" (qh yi) fa cdv A outer s H E).nox (qx yi) (tDS K q08):=by
 unfold q08;refine(qq ?_ ?_);refine(zb (i:=3) ?_ ?_ ?_ ?_ ?_ ?_);exact jc;exact rfl;exact(Or.inl rfl);refine(j9 ?_);exact(jh qi);exact rfl;walk_at "L";refine(qq ?_ ?_);refine(zb (i:=4) ?_ ?_ ?_ kv ?_ ?_);exact jc;exact rfl;exact(Or.inl rfl);exact rfl;walk_at "L";refine(qq ?_ ?_);refine(qoj ⟨rfl,rfl⟩ ?_ ?_ ?_ ?_);intro pins σ0 Ex;refine PSs.nox ?_;refine(qt ?_);refine(xm ?_ (qt ?_) (qt ?_));refine(zf (qbg rfl) ?_ kv);exact(qf (pv 2));refine(qfb ?_);refine(qfh c_28 bd_sayings_1 dv_sayings_1 (fun _=>dd_sayings_1) hr (by decide) rfl ?_);walk_at "A";exact(qf (pv 0));walk_at "A";exact(qf (pv 1));exact qi;refine(qfb ?_);refine(qz c_28 b_28 hr (by decide) rfl ?_);walk_at "A";exact(qf (pv 0));walk_at "A";exact(qf (pv 1));walk_at "A";exact(qf (pv 2));exact qi;intro pins σ0 Ex;refine(q7o (qsx (PT.nox ?_) (q7o (qfu (qm2 gr_sayings hr (by decide) rfl c_28.mg c_28.kp bd_sayings_1 dv_sayings_1 (fun _=>dd_sayings_1) ?_))) (q7o (qfu (qoi gr_sayings hr (by decide) rfl c_28.mg c_28.kp b_28 ?_)))));refine(zf (qbg rfl) ?_ kv);exact(qf (pv 2));walk_at "A";exact(qf (pv 0));walk_at "A";exact(qf (pv 1));exact qi;walk_at "A";exact(qf (pv 0));walk_at "A";exact(qf (pv 1));walk_at "A";exact(qf (pv 2));exact qi;intro y C hy hn;simp only [m4,g4f,g2i] at hy;rcases hy with rfl|rfl;cases ns_TooGreat.symm.trans hn;refine(qn5 (i:=5) cx_TooGreat.1 tp_TooGreat mr_TooGreat_TooGreat ns_TooGreat cx_TooGreat rfl m_TooGreat jc rfl rfl ?_);intro a;refine(qq ?_ ?_);refine(zb (i:=6) ?_ ?_ ?_ ?_ ?_ ?_);exact jc;exact rfl;exact(Or.inl rfl);refine(qfq (Cs:=[C_NoRun,C_NoShare,C_NoStore,C_NoText,C_NoTree,C_NotThere]) ns_TooGreat ka_TooGreat_NoRun_NoShare_NoStore_NoText_NoTree_NotThere rfl n_isinstance (show 6<=sizeLine by decide) (zr (vv (v:=.ref C_NoRun) rfl m_NoRun rfl) (zr (vv (v:=.ref C_NoShare) rfl m_NoShare rfl) (zr (vv (v:=.ref C_NoStore) rfl m_NoStore rfl) (zr (vv (v:=.ref C_NoText) rfl m_NoText rfl) (zr (vv (v:=.ref C_NoTree) rfl m_NoTree rfl) (zr (vv (v:=.ref C_NotThere) rfl m_NotThere rfl) yj)))))) (fun _ _ _ q=>q) ?_);exact(qf (pv 5));exact rfl;walk_at "L";refine(qq ?_ ?_);refine(zb (i:=3) ?_ ?_ ?_ ?_ ?_ ?_);exact jc;exact rfl;exact(Or.inl rfl);refine(j9 ?_);refine(jh ?_);walk_at "A";exact q2j;walk_at "A";refine(q5j ?_ (q8a ?_));refine(qfo ns_TooGreat kt_TooGreat_OftenError rfl n_isinstance rfl m_OftenError ?_);exact(qf (pv 5));refine(qfp ns_TooGreat kt_TooGreat_ValueError rfl n_isinstance rfl n_ValueError PyProof.Rows.Boot.«ValueError» ?_);exact(qf (pv 5));walk_at "A";exact(qf (pv 6));exact qi;exact rfl;walk_at "L";refine(qt ?_);refine(zb (i:=4) ?_ ?_ ?_ ?_ ?_ ?_);exact jc;exact rfl;exact(Or.inl rfl);refine(qon ns_TooGreat ci_TooGreat ?_);exact(qf (pv 5));exact rfl;walk_at "L";cases ns_NoShare.symm.trans hn;refine(qcy cx_TooGreat.1 tp_TooGreat mr_NoShare_TooGreat rfl m_TooGreat (qn5 (i:=5) cx_NoShare.1 tp_NoShare mr_NoShare_NoShare ns_NoShare cx_NoShare rfl m_NoShare jc rfl rfl ?_));intro a;refine(qq ?_ ?_);refine(zb (i:=6) ?_ ?_ ?_ ?_ ?_ ?_);exact jc;exact rfl;exact(Or.inl rfl);refine(qfq (Cs:=[C_NoRun,C_NoStore,C_NoText,C_NoTree,C_NotThere]) ns_NoShare ka_NoShare_NoRun_NoStore_NoText_NoTree_NotThere rfl n_isinstance (show 5<=sizeLine by decide) (zr (vv (v:=.ref C_NoRun) rfl m_NoRun rfl) (zr (vv (v:=.ref C_NoStore) rfl m_NoStore rfl) (zr (vv (v:=.ref C_NoText) rfl m_NoText rfl) (zr (vv (v:=.ref C_NoTree) rfl m_NoTree rfl) (zr (vv (v:=.ref C_NotThere) rfl m_NotThere rfl) yj))))) (fun _ _ _ q=>q) ?_);exact(qf (pv 5));exact rfl;walk_at "L";refine(qt ?_);refine(zb (i:=3) ?_ ?_ ?_ ?_ ?_ ?_);exact jc;exact rfl;exact(Or.inl rfl);refine(j9 ?_);refine(jh ?_);walk_at "A";exact q2j;walk_at "A";refine(q5j ?_ (q8a ?_));refine(qfo ns_NoShare kt_NoShare_OftenError rfl n_isinstance rfl m_OftenError ?_);exact(qf (pv 5));refine(qfp ns_NoShare kt_NoShare_ValueError rfl n_isinstance rfl n_ValueError PyProof.Rows.Boot.«ValueError» ?_);exact(qf (pv 5));walk_at "A";exact(qf (pv 6));exact qi;exact rfl;walk_at "L";intro y hy;simp only [m4,g4f,g2i] at hy;rcases hy with rfl|rfl;exact⟨_,ns_TooGreat⟩;exact⟨_,ns_NoShare⟩;refine(qt ?_);refine(ze ?_);refine(j9 ?_);refine(jh ?_);walk_at "A";exact(qf (pv 3));walk_at "A";exact(qf (pv 4));exact qi
theorem qa0{fa:Addr}{dV:Value}{fd:FuncData}(F:Fun2 K "_law_refused" "_law_refused" yi dV fa fd){a_sayings:Addr}{fd_sayings:FuncData}(c_28:Cal P w K mg base "sayings" 5 ["pile","least","bound"] 3 zo a_sayings fd_sayings)(b_28:Binds K fd_sayings ["pile","least","bound"] []){dvs_sayings_1:List V}{dv_l_sayings_1:List Value}(bd_sayings_1:Binds K fd_sayings ["pile","least","bound"] dv_l_sayings_1)(dv_sayings_1:Vals dvs_sayings_1 dv_l_sayings_1)(dd_sayings_1:∀ {H:Hp},RepL K H [.non] dvs_sayings_1){C_NoShare:Addr}(ns_NoShare:PySem.W.nsIn K mainGlobals "NoShare" = some (some (.ref C_NoShare)))(cx_NoShare:q4b K C_NoShare)(m_NoShare:mg "NoShare" = some (.ref C_NoShare)){C_TooGreat:Addr}(ns_TooGreat:PySem.W.nsIn K mainGlobals "TooGreat" = some (some (.ref C_TooGreat)))(cx_TooGreat:q4b K C_TooGreat)(m_TooGreat:mg "TooGreat" = some (.ref C_TooGreat))(tp_TooGreat:PySem.W.typeIn K (.ref C_TooGreat)=some (.type "type"))(mr_TooGreat_TooGreat:PySem.W.mroIn K C_TooGreat (.ref C_TooGreat)=some true)(mr_NoShare_TooGreat:PySem.W.mroIn K C_NoShare (.ref C_TooGreat)=some false)(tp_NoShare:PySem.W.typeIn K (.ref C_NoShare)=some (.type "type"))(mr_TooGreat_NoShare:PySem.W.mroIn K C_TooGreat (.ref C_NoShare)=some false)(mr_NoShare_NoShare:PySem.W.mroIn K C_NoShare (.ref C_NoShare)=some true)(gr_sayings:FnOk P w K mg base (CXR P w) 5 a_sayings fd_sayings ["pile","least","bound"] (spR K 3 x_sayings))(ci_TooGreat:ClsI K C_TooGreat "most"){C_NoRun:Addr}(m_NoRun:mg "NoRun" = some (.ref C_NoRun)){C_NoStore:Addr}(m_NoStore:mg "NoStore" = some (.ref C_NoStore)){C_NoText:Addr}(m_NoText:mg "NoText" = some (.ref C_NoText)){C_NoTree:Addr}(m_NoTree:mg "NoTree" = some (.ref C_NoTree)){C_NotThere:Addr}(m_NotThere:mg "NotThere" = some (.ref C_NotThere))(ka_TooGreat_NoRun_NoShare_NoStore_NoText_NoTree_NotThere:PySem.W.kitAny K (.ref C_TooGreat) ([C_NoRun,C_NoShare,C_NoStore,C_NoText,C_NoTree,C_NotThere].map Value.ref)=some false){C_OftenError:Addr}(m_OftenError:mg "OftenError" = some (.ref C_OftenError))(kt_TooGreat_OftenError:PySem.W.kitOne K (.ref C_TooGreat) (.ref C_OftenError)=some true)(kt_TooGreat_ValueError:PySem.W.kitOne K (.ref C_TooGreat) (.type "ValueError")=some true)(ka_NoShare_NoRun_NoStore_NoText_NoTree_NotThere:PySem.W.kitAny K (.ref C_NoShare) ([C_NoRun,C_NoStore,C_NoText,C_NoTree,C_NotThere].map Value.ref)=some false)(kt_NoShare_OftenError:PySem.W.kitOne K (.ref C_NoShare) (.ref C_OftenError)=some true)(kt_NoShare_ValueError:PySem.W.kitOne K (.ref C_NoShare) (.type "ValueError")=some true)(n_isinstance:mg "isinstance" = none)(n_ValueError:mg "ValueError" = none): FnOk P w K mg base CX0 6 fa fd ["_law_pile_here","_law_least","_law_bound"] (spD K 3 j5):=
 F.okn (k:=5) (n:=7) (ar:=3) (k1:=6) (u:=q08) q9z rfl rfl rfl fun cdv A outer s H E hr=>(by first|(with_reducible exact q43 c_28 b_28 bd_sayings_1 dv_sayings_1 dd_sayings_1 ns_NoShare cx_NoShare m_NoShare ns_TooGreat cx_TooGreat m_TooGreat tp_TooGreat mr_TooGreat_TooGreat mr_NoShare_TooGreat tp_NoShare mr_TooGreat_NoShare mr_NoShare_NoShare gr_sayings ci_TooGreat m_NoRun m_NoStore m_NoText m_NoTree m_NotThere ka_TooGreat_NoRun_NoShare_NoStore_NoText_NoTree_NotThere m_OftenError kt_TooGreat_OftenError kt_TooGreat_ValueError ka_NoShare_NoRun_NoStore_NoText_NoTree_NotThere kt_NoShare_OftenError kt_NoShare_ValueError n_isinstance n_ValueError hr)|exact q43 c_28 b_28 bd_sayings_1 dv_sayings_1 dd_sayings_1 ns_NoShare cx_NoShare m_NoShare ns_TooGreat cx_TooGreat m_TooGreat tp_TooGreat mr_TooGreat_TooGreat mr_NoShare_TooGreat tp_NoShare mr_TooGreat_NoShare mr_NoShare_NoShare gr_sayings ci_TooGreat m_NoRun m_NoStore m_NoText m_NoTree m_NotThere ka_TooGreat_NoRun_NoShare_NoStore_NoText_NoTree_NotThere m_OftenError kt_TooGreat_OftenError kt_TooGreat_ValueError ka_NoShare_NoRun_NoStore_NoText_NoTree_NotThere kt_NoShare_OftenError kt_NoShare_ValueError n_isinstance n_ValueError hr)
abbrev q0k:Stmt:=top 50
noncomputable def q68:List Str:=["_law_number"]
theorem qho:(q68).Nodup:=by decide +kernel
theorem qhp:FnScope q68 ["_law_number"] (qh q0k):=⟨rfl,rfl,rfl,qho,rfl,by decide +kernel,by decide +kernel⟩
noncomputable def q3b:FS:=(zu (eOp oIx (eL (xq (qc (eC (.bl true)) (qc (eC (.bl false)) (qc (eC .non) (qc (eC (.str "1")) (qc (z8 (qc (eC (.int 1)) qk)) (qc (eUn q5m (eC (.int 1))) (qc (eOp oSub (eUn q5m (eC (.int 1))) (eOp oMod (eOp oDiv (eV 0) (eC (.int 8))) (eOp oPow (eC (.int 10)) (eC (.int 12))))) (qc (eL (xq (qc (eC (.int 1)) qk))) qk)))))))))) (eOp oMod (eV 0) (eC (.int 8)))))
noncomputable def wb:List D->Option D:=zj 1 q3b
theorem q90{fa:Addr}{cdv:Value}{A:Around}{outer:List Env}{s:Shared}{H:Hp}{E:XK}(hr:Room 0 (A.deeper (envOfC "_law_odd" (qh q0k) s.heap.objs.size fa cdv))):
  PSs (z5 CX0 P w K mg base q68 "_law_odd" (qh q0k) fa cdv A outer s H E).nox (qx q0k) (tDS K q3b):=by
 unfold q3b;refine(qt ?_);refine(ze ?_);refine(j8 ?_ ?_);refine(j9 ?_);refine(jh ?_);walk_at "A";exact ku;walk_at "A";exact ku;walk_at "A";exact kv;walk_at "A";exact q2j;walk_at "A";refine(z7 ?_);walk_at "A";exact qg;exact qi;walk_at "A";exact(qcc qg);walk_at "A";refine(qr qq9 ?_ ?_);exact(qcc qg);refine(qr j0 ?_ ?_);refine(qr q2k ?_ qg);exact(qf (pv 0));exact(qr q5h qg qg);walk_at "A";refine(j9 ?_);refine(jh ?_);walk_at "A";exact qg;exact qi;exact qi;refine(qr j0 ?_ qg);exact(qf (pv 0))
theorem qhq{fa:Addr}{dV:Value}{fd:FuncData}(F:Fun2 K "_law_odd" "_law_odd" q0k dV fa fd): FnOk P w K mg base CX0 1 fa fd ["_law_number"] (spD K 1 wb):=
 F.okn (k:=0) (n:=1) (ar:=1) (k1:=1) (u:=q3b) qhp rfl rfl rfl fun cdv A outer s H E hr=>(by first|(with_reducible exact q90  hr)|exact q90  hr)
abbrev vy:Stmt:=top 51
noncomputable def q17:List Str:=["_law_number","_law_far"]
theorem q3c:(q17).Nodup:=by decide +kernel
theorem q91:FnScope q17 ["_law_number"] (qh vy):=⟨rfl,rfl,rfl,q3c,rfl,by decide +kernel,by decide +kernel⟩
noncomputable def wu:FS:=(z0 (zi 1 (eOp oDiv (eV 0) (eC (.int 6)))) (z0 (sIf (z6 oEq (eOp oMod (eV 0) (eC (.int 6))) (eC (.int 0))) (zu (z8 (qc (ql (qp 1 [] wb) (qc (eV 1) qk)) (qc (eC (.int 2)) qk)))) xl) (z0 (sIf (z6 oEq (eOp oMod (eV 0) (eC (.int 6))) (eC (.int 1))) (zu (z8 (qc (eC (.int 1)) (qc (ql (qp 1 [] wb) (qc (eV 1) qk)) qk)))) xl) (z0 (sIf (z6 oEq (eOp oMod (eV 0) (eC (.int 6))) (eC (.int 2))) (zu (z8 (qc (eOp oMod (eV 1) (eC (.int 5))) (qc (eC (.int 0)) qk)))) xl) (zu (eOp oIx (eL (xq (qc (eL (xq (qc (eC (.int 1)) (qc (eC (.int 2)) qk)))) (qc (z8 (qc (eC (.int 1)) qk)) (qc (z8 (qc (eC (.int 1)) (qc (eC (.int 2)) (qc (eC (.int 1)) qk)))) (qc (z8 qk) (qc (eC (.int 1)) (qc (eC (.str "12")) (qc qqq (qc (eC (.bl true)) (qc (z8 (qc (z8 (qc (eC (.int 1)) (qc (eC (.int 2)) qk))) qk)) (qc (z8 (qc (eC .non) (qc (eC .non) qk))) qk)))))))))))) (eOp oMod (eV 1) (eC (.int 10)))))))))
noncomputable def vz:List D->Option D:=zj 2 wu
theorem q3d{fa:Addr}{cdv:Value}{A:Around}{outer:List Env}{s:Shared}{H:Hp}{E:XK}{a__law_odd:Addr}{fd__law_odd:FuncData}(c_14:Cal P w K mg base "_law_odd" 1 ["_law_number"] 1 wb a__law_odd fd__law_odd)(b_14:Binds K fd__law_odd ["_law_number"] [])(hr:Room 1 (A.deeper (envOfC "_law_no_bound" (qh vy) s.heap.objs.size fa cdv))):
  PSs (z5 CX0 P w K mg base q17 "_law_no_bound" (qh vy) fa cdv A outer s H E).nox (qx vy) (tDS K wu):=by
 unfold wu;refine(qq ?_ ?_);refine(zb (i:=1) ?_ ?_ ?_ ?_ ?_ ?_);exact q3c;exact rfl;exact(Or.inl rfl);refine(qr q2k ?_ qg);exact(qf (pv 0));exact rfl;walk_at "L";refine(qq ?_ ?_);refine(xm ?_ (qt ?_) jw);refine(zf (wg hr.units) ?_ qg);refine(qr j0 ?_ qg);exact(qf (pv 0));refine(ze ?_);refine(z7 ?_);walk_at "A";refine(qz c_14 b_14 hr (by decide) rfl ?_);walk_at "A";exact(qf (pv 1));exact qi;walk_at "A";exact qg;exact qi;refine(qq ?_ ?_);refine(xm ?_ (qt ?_) jw);refine(zf (wg hr.units) ?_ qg);refine(qr j0 ?_ qg);exact(qf (pv 0));refine(ze ?_);refine(z7 ?_);walk_at "A";exact qg;walk_at "A";refine(qz c_14 b_14 hr (by decide) rfl ?_);walk_at "A";exact(qf (pv 1));exact qi;exact qi;refine(qq ?_ ?_);refine(xm ?_ (qt ?_) jw);refine(zf (wg hr.units) ?_ qg);refine(qr j0 ?_ qg);exact(qf (pv 0));refine(ze ?_);refine(z7 ?_);walk_at "A";refine(qr j0 ?_ qg);exact(qf (pv 1));walk_at "A";exact qg;exact qi;refine(qt ?_);refine(ze ?_);refine(j8 ?_ ?_);refine(j9 ?_);refine(jh ?_);walk_at "A";refine(j9 ?_);refine(jh ?_);walk_at "A";exact qg;walk_at "A";exact qg;exact qi;walk_at "A";refine(z7 ?_);walk_at "A";exact qg;exact qi;walk_at "A";refine(z7 ?_);walk_at "A";exact qg;walk_at "A";exact qg;walk_at "A";exact qg;exact qi;walk_at "A";exact(z7 qi);walk_at "A";exact qg;walk_at "A";exact q2j;walk_at "A";exact qqr;walk_at "A";exact ku;walk_at "A";refine(z7 ?_);walk_at "A";refine(z7 ?_);walk_at "A";exact qg;walk_at "A";exact qg;exact qi;exact qi;walk_at "A";refine(z7 ?_);walk_at "A";exact kv;walk_at "A";exact kv;exact qi;exact qi;refine(qr j0 ?_ qg);exact(qf (pv 1))
theorem q92{fa:Addr}{dV:Value}{fd:FuncData}(F:Fun2 K "_law_no_bound" "_law_no_bound" vy dV fa fd){a__law_odd:Addr}{fd__law_odd:FuncData}(c_14:Cal P w K mg base "_law_odd" 1 ["_law_number"] 1 wb a__law_odd fd__law_odd)(b_14:Binds K fd__law_odd ["_law_number"] []): FnOk P w K mg base CX0 2 fa fd ["_law_number"] (spD K 1 vz):=
 F.okn (k:=1) (n:=2) (ar:=1) (k1:=2) (u:=wu) q91 rfl rfl rfl fun cdv A outer s H E hr=>(by first|(with_reducible exact q3d c_14 b_14 hr)|exact q3d c_14 b_14 hr)
abbrev q6u:Stmt:=top 52
noncomputable def qhr:List Str:=["_law_script","_law_number","_law_wares","_law_pile_here","_law_least","_law_far","_law_good","_law_due","_law_small","_law_found","_law_k","_law_bound","_law_wide"]
theorem ym:(qhr).Nodup:=by decide +kernel
theorem qrk:FnScope qhr ["_law_script"] (qh q6u):=⟨rfl,rfl,rfl,ym,rfl,by decide +kernel,by decide +kernel⟩
noncomputable def q7z:FS:=(z0 (zi 11 (ql (qp 1 [] vz) (qc (eOp zq (eV 5) (eOp zz (eC (.int 7)) (eV 10))) qk))) (z0 (sIf (z6 q9q (ql (qp 3 [] j5) (qc (eV 3) (qc (eV 4) (qc (eV 11) qk)))) (eL (xq (qc (eL (xq (qc (eC (.str "share")) (qc (eC (.bl true)) (qc (eC (.bl false)) qk))))) (qc (eC .non) qk))))) (zu (eC (.bl false))) xl) (sIf (bOr (z6 q1t (ql km (qc (ql (qp 3 [] zo) (qc (eV 8) (qc (eC (.int 1)) (qc (z8 (qc (eC (.int 1)) (qc (eC (.int 1)) qk))) qk)))) qk)) (eC (.int 2))) (z6 q1t (ql km (qc (ql (qp 3 [.non] zo) (qc (eV 8) (qc (eC (.int 4)) qk))) qk)) (eC (.int 1)))) (zu (eC (.bl false))) xl)))
noncomputable def qbj:FS:=(z0 (zi 1 (eOp oDiv (ql (qp 2 [] xw) (qc (eV 0) (qc (eC (.int 0)) qk))) (eC (.int 2)))) (z0 (zi 2 (eOp oMod (eV 1) (eC (.int 13)))) (z0 (zi 3 (ql (qp 3 [] q0p) (qc (eV 0) (qc (eV 2) (qc (eC (.int 4)) qk))))) (z0 (zi 4 (eOp zq (eC (.int 1)) (eOp oMod (ql (qp 2 [] xw) (qc (eV 0) (qc (eC (.int 1)) qk))) (eC (.int 10))))) (z0 (zi 5 (ql (qp 2 [] xw) (qc (eV 0) (qc (eC (.int 2)) qk)))) (z0 (zi 6 (eOp oIx (eL (xq (qc (z8 (qc (eOp oMod (eV 5) (eC (.int 11))) (qc (eOp zq (eC (.int 1)) (eOp oMod (eOp oDiv (eV 5) (eC (.int 11))) (eC (.int 10)))) qk))) (qc (z8 (qc (eOp oMod (eV 5) (eOp oPow (eC (.int 10)) (eC (.int 15)))) (qc (eOp zq (eC (.int 1)) (eOp oMod (eOp oDivB (eV 5) (eOp oPow (eC (.int 10)) (eC (.int 15)))) (eOp oPow (eC (.int 10)) (eC (.int 15))))) qk))) (qc (eC .non) qk))))) (eOp oMod (eOp oDiv (eV 1) (eC (.int 13))) (eC (.int 3))))) (z0 (zi 7 (eL (xq (qc (eL (xq qk)) (qc (eC .non) qk))))) (z0 (sIf (z6 oGt (eV 2) (eC (.int 8))) (zi 7 (eL (xq (qc (eL (xq (qc (eC (.str "great")) (qc (eC (.bl true)) (qc (eC (.bl false)) qk))))) (qc (eC (.int 8)) qk))))) xl) (z0 (zi 8 (z8 (qc (eC (.int 2)) (qc (z8 (qc (z8 (qc (eC (.int 3)) (qc (z8 (qc (eC (.int 0)) (qc (eC (.int 1)) qk))) qk))) (qc (z8 (qc (eC (.int 1)) (qc (z8 (qc (eC (.int 1)) qk)) qk))) qk))) qk)))) (z0 (sIf (bOr (z6 oLt' (eV 2) (eC (.int 6))) (z6 oGt (eV 2) (eC (.int 8)))) (z0 (zi 9 (ql (qp 3 [] j5) (qc (eV 3) (qc (eV 4) (qc (eV 6) qk))))) (sIf (bOr (z6 q9q (eV 9) (eV 7)) (bT (q1w .bool (eOp oIx (eV 9) (eC (.int 1)))))) (zu (eC (.bl false))) xl)) xl) (z0 (q3e (iR1 (qc (eC (.int 4)) qk)) (bN 10) q7z) (z0 (zi 12 (z8 (qc (eC (.int 8)) (qc (z8 (qc (z8 (qc (eC (.int 1)) (qc (z8 (qc (eC (.int 7)) qk)) qk))) (qc (z8 (qc (eC (.int 1)) (qc (z8 (qc (eC (.int 0)) (qc (eC (.int 7)) qk))) qk))) qk))) qk)))) (zu (q4e (eOp oEq (ql km (qc (ql (qp 3 [] zo) (qc (eV 12) (qc (eC (.int 2)) (qc (z8 (qc (eC (.int 1)) (qc (eC (.int 1)) qk))) qk)))) qk)) (eC (.int 1))) (eOp oEq (ql (qp 3 [] j5) (qc (z8 (qc (eC (.int 9)) (qc (eOp oIx (eV 12) (eC (.int 1))) qk))) (qc (eC (.int 1)) (qc (z8 (qc (eC (.int 1)) (qc (eC (.int 1)) qk))) qk)))) (eL (xq (qc (eL (xq (qc (eC (.str "great")) (qc (eC (.bl true)) (qc (eC (.bl false)) qk))))) (qc (eC (.int 8)) qk)))))))))))))))))))
noncomputable def qhs:List D->Option D:=zj 13 qbj
theorem qk2{fa:Addr}{cdv:Value}{A:Around}{outer:List Env}{s:Shared}{H:Hp}{E:XK}{a__law_pile:Addr}{fd__law_pile:FuncData}(c_16:Cal P w K mg base "_law_pile" 3 ["_law_script","_law_wares","_law_most_runs"] 3 q0p a__law_pile fd__law_pile)(b_16:Binds K fd__law_pile ["_law_script","_law_wares","_law_most_runs"] []){a__law_cell:Addr}{fd__law_cell:FuncData}(c_11:Cal P w K mg base "_law_cell" 1 ["_law_script","_law_k"] 2 xw a__law_cell fd__law_cell)(b_11:Binds K fd__law_cell ["_law_script","_law_k"] []){a__law_refused:Addr}{fd__law_refused:FuncData}(c_17:Cal P w K mg base "_law_refused" 6 ["_law_pile_here","_law_least","_law_bound"] 3 j5 a__law_refused fd__law_refused)(b_17:Binds K fd__law_refused ["_law_pile_here","_law_least","_law_bound"] []){a__law_no_bound:Addr}{fd__law_no_bound:FuncData}(c_13:Cal P w K mg base "_law_no_bound" 2 ["_law_number"] 1 vz a__law_no_bound fd__law_no_bound)(b_13:Binds K fd__law_no_bound ["_law_number"] []){a_sayings:Addr}{fd_sayings:FuncData}(c_28:Cal P w K mg base "sayings" 5 ["pile","least","bound"] 3 zo a_sayings fd_sayings)(b_28:Binds K fd_sayings ["pile","least","bound"] []){dvs_sayings_1:List V}{dv_l_sayings_1:List Value}(bd_sayings_1:Binds K fd_sayings ["pile","least","bound"] dv_l_sayings_1)(dv_sayings_1:Vals dvs_sayings_1 dv_l_sayings_1)(dd_sayings_1:∀ {H:Hp},RepL K H [.non] dvs_sayings_1)(n_range:mg "range" = none)(n_isinstance:mg "isinstance" = none)(n_bool:mg "bool" = none)(n_len:mg "len" = none)(hr:Room 6 (A.deeper (envOfC "law" (qh q6u) s.heap.objs.size fa cdv))):
  PSs (z5 CX0 P w K mg base qhr "law" (qh q6u) fa cdv A outer s H E).nox (qx q6u) (tDS K qbj):=by
 unfold qbj q7z;refine(qq ?_ ?_);refine(zb (i:=1) ?_ ?_ ?_ ?_ ?_ ?_);exact ym;exact rfl;exact(Or.inl rfl);refine(qr q2k ?_ qg);refine(qz c_11 b_11 hr (by decide) rfl ?_);walk_at "A";exact(qf (pv 0));walk_at "A";exact qg;exact qi;exact rfl;walk_at "L";refine(qq ?_ ?_);refine(zb (i:=2) ?_ ?_ ?_ ?_ ?_ ?_);exact ym;exact rfl;exact(Or.inl rfl);refine(qr j0 ?_ qg);exact(qf (pv 1));exact rfl;walk_at "L";refine(qq ?_ ?_);refine(zb (i:=3) ?_ ?_ ?_ ?_ ?_ ?_);exact ym;exact rfl;exact(Or.inl rfl);refine(qz c_16 b_16 hr (by decide) rfl ?_);walk_at "A";exact(qf (pv 0));walk_at "A";exact(qf (pv 2));walk_at "A";exact qg;exact qi;exact rfl;walk_at "L";refine(qq ?_ ?_);refine(zb (i:=4) ?_ ?_ ?_ ?_ ?_ ?_);exact ym;exact rfl;exact(Or.inl rfl);refine(qr jb qg ?_);refine(qr j0 ?_ qg);refine(qz c_11 b_11 hr (by decide) rfl ?_);walk_at "A";exact(qf (pv 0));walk_at "A";exact qg;exact qi;exact rfl;walk_at "L";refine(qq ?_ ?_);refine(zb (i:=5) ?_ ?_ ?_ ?_ ?_ ?_);exact ym;exact rfl;exact(Or.inl rfl);refine(qz c_11 b_11 hr (by decide) rfl ?_);walk_at "A";exact(qf (pv 0));walk_at "A";exact qg;exact qi;exact rfl;walk_at "L";refine(qq ?_ ?_);refine(zb (i:=6) ?_ ?_ ?_ ?_ ?_ ?_);exact ym;exact rfl;exact(Or.inl rfl);refine(j8 ?_ ?_);refine(j9 ?_);refine(jh ?_);walk_at "A";refine(z7 ?_);walk_at "A";refine(qr j0 ?_ qg);exact(qf (pv 5));walk_at "A";refine(qr jb qg ?_);refine(qr j0 ?_ qg);refine(qr q2k ?_ qg);exact(qf (pv 5));exact qi;walk_at "A";refine(z7 ?_);walk_at "A";refine(qr j0 ?_ ?_);exact(qf (pv 5));exact(qr q5h qg qg);walk_at "A";refine(qr jb qg ?_);refine(qr j0 ?_ ?_);refine(qr q6p ?_ ?_);exact(qf (pv 5));exact(qr q5h qg qg);exact(qr q5h qg qg);exact qi;walk_at "A";exact kv;exact qi;refine(qr j0 ?_ qg);refine(qr q2k ?_ qg);exact(qf (pv 1));exact rfl;walk_at "L";refine(qq ?_ ?_);refine(zb (i:=7) ?_ ?_ ?_ ?_ ?_ ?_);exact ym;exact rfl;exact(Or.inl rfl);refine(j9 ?_);refine(jh ?_);walk_at "A";refine(j9 ?_);exact(jh qi);walk_at "A";exact kv;exact qi;exact rfl;walk_at "L";refine(qq ?_ ?_);refine(xm ?_ (qt ?_) jw);refine(zf q6j ?_ qg);exact(qf (pv 2));refine(zb (i:=7) ?_ ?_ ?_ ?_ ?_ ?_);exact ym;exact rfl;exact(Or.inl rfl);refine(j9 ?_);refine(jh ?_);walk_at "A";refine(j9 ?_);refine(jh ?_);walk_at "A";exact q2j;walk_at "A";exact ku;walk_at "A";exact ku;exact qi;walk_at "A";exact qg;exact qi;exact rfl;walk_at "L";refine(qq ?_ ?_);refine(zb (i:=8) ?_ ?_ ?_ ?_ ?_ ?_);exact ym;exact rfl;exact(Or.inl rfl);refine(z7 ?_);walk_at "A";exact qg;walk_at "A";refine(z7 ?_);walk_at "A";refine(z7 ?_);walk_at "A";exact qg;walk_at "A";refine(z7 ?_);walk_at "A";exact qg;walk_at "A";exact qg;exact qi;exact qi;walk_at "A";refine(z7 ?_);walk_at "A";exact qg;walk_at "A";refine(z7 ?_);walk_at "A";exact qg;exact qi;exact qi;exact qi;exact qi;exact rfl;walk_at "L";refine(qq ?_ ?_);refine(xm ?_ (qq ?_ ?_) jw);refine(PW.pt (q07 ?_ (q0n ?_)));refine(zf qj5 ?_ qg);exact(qf (pv 2));refine(zf q6j ?_ qg);exact(qf (pv 2));refine(zb (i:=9) ?_ ?_ ?_ ?_ ?_ ?_);exact ym;exact rfl;exact(Or.inl rfl);refine(qz c_17 b_17 hr (by decide) rfl ?_);walk_at "A";exact(qf (pv 3));walk_at "A";exact(qf (pv 4));walk_at "A";exact(qf (pv 6));exact qi;exact rfl;walk_at "L";refine(qt ?_);refine(xm ?_ (qt ?_) jw);refine(PW.pt (q07 ?_ (q0n ?_)));refine(zf (qjm hr.units) ?_ ?_);exact(qf (pv 9));exact(qf (pv 7));refine(y0 ?_);refine(q3w .bool rfl n_isinstance rfl n_bool DL.boot_bool ?_);refine(j8 ?_ qg);exact(qf (pv 9));exact(ze ku);refine(qq ?_ ?_);refine(q3v uk rfl ?_ (zt ym rfl (Or.inl rfl) (.inl rfl)) (qq ?_ ?_));refine(q1h rfl n_range ?_);walk_at "A";exact qg;exact qi;refine(zb (i:=11) ?_ ?_ ?_ ?_ ?_ ?_);exact ym;exact rfl;exact(Or.inl rfl);refine(qz c_13 b_13 hr (by decide) rfl ?_);walk_at "A";refine(qr jb ?_ ?_);exact(qf (pv 5));refine(qr xg qg ?_);exact(qf (pv 10));exact qi;exact rfl;walk_at "L";refine(qq ?_ ?_);refine(xm ?_ (qt ?_) jw);refine(zf (qjm hr.units) ?_ ?_);refine(qz c_17 b_17 hr (by decide) rfl ?_);walk_at "A";exact(qf (pv 3));walk_at "A";exact(qf (pv 4));walk_at "A";exact(qf (pv 11));exact qi;refine(j9 ?_);refine(jh ?_);walk_at "A";refine(j9 ?_);refine(jh ?_);walk_at "A";exact q2j;walk_at "A";exact ku;walk_at "A";exact ku;exact qi;walk_at "A";exact kv;exact qi;exact(ze ku);refine(qt ?_);refine(xm ?_ (qt ?_) jw);refine(PW.pt (q07 ?_ (q0n ?_)));refine(zf q2l ?_ qg);refine(ju (ky) rfl n_len DL.v7 ?_);walk_at "A";refine(qz c_28 b_28 hr (by decide) rfl ?_);walk_at "A";exact(qf (pv 8));walk_at "A";exact qg;walk_at "A";refine(z7 ?_);walk_at "A";exact qg;walk_at "A";exact qg;exact qi;exact qi;exact qi;refine(zf q2l ?_ qg);refine(ju (ky) rfl n_len DL.v7 ?_);walk_at "A";refine(qfh c_28 bd_sayings_1 dv_sayings_1 (fun _=>dd_sayings_1) hr (by decide) rfl ?_);walk_at "A";exact(qf (pv 8));walk_at "A";exact qg;exact qi;exact qi;exact(ze ku);refine(qq ?_ ?_);refine(zb (i:=12) ?_ ?_ ?_ ?_ ?_ ?_);exact ym;exact rfl;exact(Or.inl rfl);refine(z7 ?_);walk_at "A";exact qg;walk_at "A";refine(z7 ?_);walk_at "A";refine(z7 ?_);walk_at "A";exact qg;walk_at "A";refine(z7 ?_);walk_at "A";exact qg;exact qi;exact qi;walk_at "A";refine(z7 ?_);walk_at "A";exact qg;walk_at "A";refine(z7 ?_);walk_at "A";exact qg;walk_at "A";exact qg;exact qi;exact qi;exact qi;exact qi;exact rfl;walk_at "L";refine(qt ?_);refine(ze ?_);refine(q5j ?_ (q8a ?_));refine(q3u (wg hr.units) ?_ qg);refine(ju (ky) rfl n_len DL.v7 ?_);walk_at "A";refine(qz c_28 b_28 hr (by decide) rfl ?_);walk_at "A";exact(qf (pv 12));walk_at "A";exact qg;walk_at "A";refine(z7 ?_);walk_at "A";exact qg;walk_at "A";exact qg;exact qi;exact qi;exact qi;refine(q3u (wg hr.units) ?_ ?_);refine(qz c_17 b_17 hr (by decide) rfl ?_);walk_at "A";refine(z7 ?_);walk_at "A";exact qg;walk_at "A";refine(j8 ?_ qg);exact(qf (pv 12));exact qi;walk_at "A";exact qg;walk_at "A";refine(z7 ?_);walk_at "A";exact qg;walk_at "A";exact qg;exact qi;exact qi;refine(j9 ?_);refine(jh ?_);walk_at "A";refine(j9 ?_);refine(jh ?_);walk_at "A";exact q2j;walk_at "A";exact ku;walk_at "A";exact ku;exact qi;walk_at "A";exact qg;exact qi
theorem qrl{fa:Addr}{dV:Value}{fd:FuncData}(F:Fun2 K "law" "law" q6u dV fa fd){a__law_pile:Addr}{fd__law_pile:FuncData}(c_16:Cal P w K mg base "_law_pile" 3 ["_law_script","_law_wares","_law_most_runs"] 3 q0p a__law_pile fd__law_pile)(b_16:Binds K fd__law_pile ["_law_script","_law_wares","_law_most_runs"] []){a__law_cell:Addr}{fd__law_cell:FuncData}(c_11:Cal P w K mg base "_law_cell" 1 ["_law_script","_law_k"] 2 xw a__law_cell fd__law_cell)(b_11:Binds K fd__law_cell ["_law_script","_law_k"] []){a__law_refused:Addr}{fd__law_refused:FuncData}(c_17:Cal P w K mg base "_law_refused" 6 ["_law_pile_here","_law_least","_law_bound"] 3 j5 a__law_refused fd__law_refused)(b_17:Binds K fd__law_refused ["_law_pile_here","_law_least","_law_bound"] []){a__law_no_bound:Addr}{fd__law_no_bound:FuncData}(c_13:Cal P w K mg base "_law_no_bound" 2 ["_law_number"] 1 vz a__law_no_bound fd__law_no_bound)(b_13:Binds K fd__law_no_bound ["_law_number"] []){a_sayings:Addr}{fd_sayings:FuncData}(c_28:Cal P w K mg base "sayings" 5 ["pile","least","bound"] 3 zo a_sayings fd_sayings)(b_28:Binds K fd_sayings ["pile","least","bound"] []){dvs_sayings_1:List V}{dv_l_sayings_1:List Value}(bd_sayings_1:Binds K fd_sayings ["pile","least","bound"] dv_l_sayings_1)(dv_sayings_1:Vals dvs_sayings_1 dv_l_sayings_1)(dd_sayings_1:∀ {H:Hp},RepL K H [.non] dvs_sayings_1)(n_range:mg "range" = none)(n_isinstance:mg "isinstance" = none)(n_bool:mg "bool" = none)(n_len:mg "len" = none): FnOk P w K mg base CX0 7 fa fd ["_law_script"] (spD K 1 qhs):=
 F.okn (k:=6) (n:=13) (ar:=1) (k1:=7) (u:=qbj) qrk rfl rfl rfl fun cdv A outer s H E hr=>(by first|(with_reducible exact qk2 c_16 b_16 c_11 b_11 c_17 b_17 c_13 b_13 c_28 b_28 bd_sayings_1 dv_sayings_1 dd_sayings_1 n_range n_isinstance n_bool n_len hr)|exact qk2 c_16 b_16 c_11 b_11 c_17 b_17 c_13 b_13 c_28 b_28 bd_sayings_1 dv_sayings_1 dd_sayings_1 n_range n_isinstance n_bool n_len hr)
end
end My
namespace DL
open PySem L2
theorem qdn(a b:Int): decide (V.int a=V.int b)=decide (a=b):=decide_eq_decide.mpr ⟨fun h=>by injection h,fun h=>by rw [h]⟩
theorem q44(a b:Int): oEq (.int a) (.int b)=some (.bl (decide (a=b))):=by
 simp only [oEq,ql0,flD,q9b,gb,pz,g1d,qdn]
theorem q45(a b:Int): q1t (.int a) (.int b)=some (.bl (!decide (a=b))):=by
 simp only [q1t,flD,q9b,gb,pz,qdn]
theorem qrm(a b:Bool): oEq (.bl a) (.bl b)=some (.bl (a==b)):=by
 cases a <;> cases b <;> rfl
theorem jv(a b:Int)(h:0<b): oMod (.int a) (.int b)=some (.int (a%b)):=by simp [oMod,oI,h]
theorem q18(a b:Int)(h:0<b)(h2:b<1073741824): oDiv (.int a) (.int b)=some (.int (a / b)):=by simp [oDiv,oI,h,h2]
theorem q1p(a b:Int): zq (.int a) (.int b)=some (.int (a+b)):=rfl
theorem qdo(a b:Int): oSub (.int a) (.int b)=some (.int (a-b)):=rfl
theorem qfx(a b:Int): oLt' (.int a) (.int b)=some (.bl (decide (a<b))):=rfl
theorem qop(a b:Int): oLe (.int a) (.int b)=some (.bl (decide (a<=b))):=rfl
theorem q2d(a b:Int): oGt (.int a) (.int b)=some (.bl (decide (b<a))):=rfl
theorem qa1(a b:Int): oGe (.int a) (.int b)=some (.bl (decide (b<=a))):=rfl
theorem qat(xs ys:List D)(h:xs.length+ys.length<=1000000): zq (.tup xs) (.tup ys)=some (.tup (xs++ys)):=by
 show(oAdd (.tup xs) (.tup ys)).or (qc8 (.tup xs) (.tup ys))=_;simp only [oAdd,oI,g1e,qc8,lim,gx h]
theorem qdp(a b:Int)(h:0<=b)(h2:b<=1000000)(h3:a.natAbs<2 ^ 64): oShl (.int a) (.int b)=some (.int (a*2 ^ b.toNat)):=by simp [oShl,oI,h,h2,h3]
theorem qm9(a b:Int)(h:0<=b): oShr (.int a) (.int b)=some (.int (a / 2 ^ b.toNat)):=by simp [oShr,oI,h]
theorem q56(a b:Int)(h:0<=b)(h2:b<=1000000)(h3:a.natAbs<2 ^ 64): oPow (.int a) (.int b)=some (.int (a ^ b.toNat)):=by simp [oPow,oI,h,h2,h3]
theorem qau(ns:List Int): qc6 [.lst (ns.map .int)]=some (.int ns.sum):=by simp [qc6,o1L,v5]
theorem qht(bs:List Bool): q9g [.lst (bs.map .bl)]=some (.bl (bs.all id)):=by simp [q9g,o1L,q4k]
theorem qhu(bs:List Bool): qgi [.lst (bs.map .bl)]=some (.bl (bs.any id)):=by simp [qgi,o1L,q4k]
theorem qfy{α : Type}{xs:List α}{i:Int}(h0:0<=i): atI xs i=xs[i.toNat]? :=by
 unfold atI ixN;rw [gx h0]
 by_cases h:i<xs.length
 ·rw [gx h];rfl
 ·rw [m8 h,g52 (by omega)];rfl
theorem qma{α : Type}(xs:List α): atI xs (-1)=xs.getLast? :=by
 unfold atI ixN;rw [m8 (by decide)];cases xs with
 | nil=>rfl
 | cons a r=>
  rw [gx (by simp only [nj];omega)];show(a :: r)[((-1:Int)+((a :: r).length:Nat)).toNat]? = _;rw [List.getLast?_eq_getElem?]
  congr 1
  simp only [nj];omega
section
variable{b:FB}{body:FS}{d:D}{ds:List D}{ρ ρ1 ρ2:Rho}
theorem wc(h1:b d ρ = some ρ1)(h2:body ρ1=some (.nx, ρ2)): runFor b body (d :: ds) ρ = runFor b body ds ρ2:=by simp only [runFor,h1,h2,gb]
end
theorem wx{b:FB}{c:FT}{f:FE}{ρ : Rho}(p:D->Bool)(g:D->D): ∀ {ds:List D},(∀d∈ds,∃ ρ1,b d ρ = some ρ1/\c ρ1=some (p d)/\(p d=true->f ρ1=some (g d)))->zd b c f ρ ds=some ((ds.filter p).map g)
 | [],_=>rfl
 | d :: ds,h=>by
  obtain⟨ρ1,e1,e2,e3⟩:=h d gv;have ih:=wx p g fun e he=>h e (gy _ he);simp only [zd,e1,e2,gb];cases hp:p d with
  | true=>simp only [pz,e3 hp,gb,ih,mw,n9,hp,gh]
  | false=>simp only [gu,p7,ih,n9,hp]
theorem q1d{b:FB}{f:FE}{ρ : Rho}(g:D->D){ds:List D}(h:∀d∈ds,∃ ρ1,b d ρ = some ρ1/\f ρ1=some (g d)): zd b zx f ρ ds=some (ds.map g):=by
 have:=wx (b:=b) (c:=zx) (f:=f) (ρ := ρ) (fun _=>true) g (ds:=ds) fun d hd=>let⟨ρ1,e1,e2⟩:=h d hd; ⟨ρ1,e1,rfl,fun _=>e2⟩
 rw [List.filter_eq_self.mpr (fun _ _=>rfl)] at this;exact this
theorem q7b(lo:Int)(n:Nat): zg lo (n+1)=.int lo :: zg (lo+1) n:=by
 unfold zg;rw [g10,gh,nr]
 congr 1
 ·simp
 ·apply g34
  intro a _;simp only [Function.comp,Nat.succ_eq_add_one,Int.natCast_add]
  congr 1
  omega
theorem q29(lo:Int)(n:Nat): (zg lo n).length=n:=by simp [zg]
theorem q6v(fa:FA)(ρ : Rho)(j:Int)(h:fa ρ = some [.int j])(h1 : -(2 ^ 62)<=j)(h2:j<2 ^ 62): iR1 fa ρ = some (zg 0 j.toNat):=by
 simp only [iR1,h,gb,ma h1,ma h2,Bool.and_self,pz]
theorem qer{α : Type}(xs:List D)(k:Nat): cutD xs none (some (k:Int))=xs.take k:=by
 unfold cutD;rw [HT.sIx_nat,HT.sIx_none];simp only [g50,Nat.sub_zero]
 by_cases h:k<=xs.length
 ·rw [Nat.min_eq_left h]
 ·rw [Nat.min_eq_right (by omega),List.take_length,u9 (by omega)]
theorem qmb{α : Type}(xs:List D)(k:Nat): cutD xs (some (k:Int)) none=xs.drop k:=by
 unfold cutD;rw [HT.sIx_nat,HT.sIx_none]
 by_cases h:k<=xs.length
 ·rw [Nat.min_eq_left h,u9 (by rw [g1i];exact gq _)]
 ·rw [Nat.min_eq_right (by omega),g43,List.drop_eq_nil_of_le (by omega)];simp
section
variable{ρ ρ1 ρ':Rho}{f g:FE}{d x y z:D}{i n m ar:Nat}{fa fk:FA}{ds es:List D}{t t2:FT}{c:Bool}{u w:FS}{r:Option (Fl×Rho)}
theorem x_c:eC d ρ = some d:=rfl
theorem x_v(h : ρ[i]? = some (some (.fz d))): eV i ρ = some d:=by unfold eV;rw [h]
theorem zc{o:D->D->Option D}(h1:f ρ = some x)(h2:g ρ = some y)(h3:o x y=some z): eOp o f g ρ = some z:=by unfold eOp;rw [h1,gb,h2,gb,h3]
theorem qmc{o:D->Option D}(h1:f ρ = some x)(h3:o x=some z): eUn o f ρ = some z:=by unfold eUn;rw [h1,gb,h3]
theorem qo:qk ρ = some []:=rfl
theorem qj(h1:f ρ = some d)(h2:fa ρ = some ds): qc f fa ρ = some (d :: ds):=by unfold qc;rw [h1,gb,h2,mw]
theorem x_call{o:List D->Option D}(h1:fa ρ = some ds)(h2:o ds=some d): ql o fa ρ = some d:=by unfold ql;rw [h1,gb,h2]
theorem zh{o:List D->Option D}{dds:List D}(h1:fa ρ = some ds)(hl:(ds++dds).length=ar)(h2:o (ds++dds)=some d): ql (qp ar dds o) fa ρ = some d:=by unfold ql qp;rw [h1,gb,gx hl,h2]
theorem ve(h1:fa ρ = some ds)(hl:ds.length<=lim): z8 fa ρ = some (.tup ds):=by unfold z8;rw [h1,gb,gx hl]
theorem yf(h1:fa ρ = some ds)(hl:ds.length<=lim): xq fa ρ = some ds:=by unfold xq;rw [h1,gb,gx hl]
theorem x_l(h1:fa ρ = some ds): eL fa ρ = some (.lst ds):=by unfold eL;rw [h1,mw]
theorem qsz(h1:f ρ = some (.bl c)): qc1 f ρ = some (.bl (!c)):=by unfold qc1;rw [h1,gb];rfl
theorem qa2(h1:f ρ = some (.bl c))(hc:c=true)(h2:g ρ = some d): q4e f g ρ = some d:=by subst hc;unfold q4e;rw [h1,gb];exact h2
theorem qbk{T:Ty}(h1:f ρ = some d): q1w T f ρ = some (.bl (zk T d)):=by unfold q1w;rw [h1,mw]
theorem q0v{it:FA}{cap:List (Option Nat)}{b:FB}{q:FT}(h1:it ρ = some ds)(hl:ds.length<=lim)(h2:zd b q f (kx cap ρ) ds=some es): zp it cap b q f ρ = some es:=by unfold zp;rw [h1,gb,gx hl,h2]
theorem q31(h1:f ρ = some d)(h2:qgh d=some ds): vi f ρ = some ds:=by unfold vi;rw [h1,gb,h2]
theorem x8{o:D->D->Option D}(h1:f ρ = some x)(h2:g ρ = some y)(h3:o x y=some (.bl c)): z6 o f g ρ = some c:=by unfold z6;rw [zc h1 h2 h3,gb];rfl
theorem q19(h1:f ρ = some d)(h2:q5i d=some c): bT f ρ = some c:=by unfold bT;rw [h1,gb,h2]
theorem q1q(h1:t ρ = some c): kl t ρ = some (!c):=by unfold kl;rw [h1,mw]
theorem qdq{e:Bool}(h1:t ρ = some c)(hc:c=true)(h2:t2 ρ = some e): q1u t t2 ρ = some e:=by subst hc;unfold q1u;rw [h1,gb];exact h2
theorem qdr(h1:t ρ = some c)(hc:c=false): q1u t t2 ρ = some false:=by subst hc;unfold q1u;rw [h1,gb];rfl
theorem qa3(h1:t ρ = some c)(hc:c=true): bOr t t2 ρ = some true:=by subst hc;unfold bOr;rw [h1,gb];rfl
theorem wy{e:Bool}(h1:t ρ = some c)(hc:c=false)(h2:t2 ρ = some e): bOr t t2 ρ = some e:=by subst hc;unfold bOr;rw [h1,gb];exact h2
theorem qbl(h1:u ρ = some (.nx, ρ1))(h2:w ρ1=r): z0 u w ρ = r:=by unfold z0;rw [h1,gb];exact h2
theorem qds(h1:t ρ = some c)(hc:c=true)(h2:u ρ = r): sIf t u w ρ = r:=by subst hc;unfold sIf;rw [h1,gb];exact h2
theorem y9(h1:t ρ = some c)(hc:c=false)(h2:w ρ = r): sIf t u w ρ = r:=by subst hc;unfold sIf;rw [h1,gb];exact h2
theorem ya:xl ρ = some (.nx, ρ):=rfl
theorem xi(h1:f ρ = some d): zi i f ρ = some (.nx, ρ.set i (some (.fz d))):=by unfold zi;rw [h1,mw]
theorem qn7(h1:fa ρ = some ds): q1v i fa ρ = some (.nx, ρ.set i (some (.ow ds))):=by unfold q1v;rw [h1,mw]
theorem qn8{it:FA}{b:FB}{body:FS}(h1:it ρ = some ds)(h2:runFor b body ds ρ = r): q3e it b body ρ = r:=by unfold q3e;rw [h1,gb];exact h2
theorem qrn(h:u (ds.map (fun d=>some (.fz d))++List.replicate (n-ds.length) none)=some (.rt d, ρ')): zj n u ds=some d:=by unfold zj;rw [h]
end
theorem eV0(d:D)(r:Rho): eV 0 (some (.fz d) :: r)=some d:=rfl
theorem eVs(i:Nat)(x:Option B)(r:Rho): eV (i+1) (x :: r)=eV i r:=rfl
theorem q6w(ds:List D): km [.tup ds]=some (.int ds.length):=rfl
theorem qt0(ds:List D): km [.lst ds]=some (.int ds.length):=rfl
theorem qtx(i:Int): (match D.int i with | .int i=>some (some i)|_=>none:Option (Option Int))=some (some i):=rfl
theorem qty(ds:List D)(r:Rho): frz 0 (some (.ow ds) :: r)=some (.fz (.lst ds)) :: r:=rfl
theorem frzs(i:Nat)(x:Option B)(r:Rho): frz (i+1) (x :: r)=x :: frz i r:=by
 unfold frz;rw [g4j];cases h:r[i]? with
 | none=>rfl
 | some y=>
  cases y with
  | none=>rfl
  | some z=>cases z <;> rfl
theorem vk(a b:Int)(h : -(2 ^ 64)<b/\b<2 ^ 64): zz (.int a) (.int b)=some (.int (a*b)):=by
 have h2:(decide (-(2 ^ 64)<b)&&decide (b<2 ^ 64))=true:=by rw [ma h.1,ma h.2];rfl
 show(if((decide (-(2 ^ 64)<a)&&decide (a<2 ^ 64)) || (decide (-(2 ^ 64)<b)&&decide (b<2 ^ 64)))=true then some (D.int (a*b)) else none).or _=_;rw [h2,g58,gx rfl,g1d]
theorem kj(a b:Int)(h : -(2 ^ 64)<a/\a<2 ^ 64): zz (.int a) (.int b)=some (.int (a*b)):=by
 have h2:(decide (-(2 ^ 64)<a)&&decide (a<2 ^ 64))=true:=by rw [ma h.1,ma h.2];rfl
 show(if((decide (-(2 ^ 64)<a)&&decide (a<2 ^ 64)) || (decide (-(2 ^ 64)<b)&&decide (b<2 ^ 64)))=true then some (D.int (a*b)) else none).or _=_;rw [h2,Bool.true_or,gx rfl,g1d]
theorem qtz(ds:List D)(i:Int): oIx (.lst ds) (.int i)=atI ds i:=rfl
theorem qro(ds:List D)(i:Int): oIx (.tup ds) (.int i)=atI ds i:=rfl
theorem qoq{α : Type}(xs:List α)(n:Nat): atI xs (no_index (OfNat.ofNat n:Int))=xs[n]? :=by
 show atI xs (n:Int)=xs[n]?;rw [qfy (show(0:Int)<=(n:Int) by omega)]
 rfl
theorem qdt{α : Type}(xs:List α)(n:Nat): atI xs (n:Int)=xs[n]? :=by
 rw [qfy (show(0:Int)<=(n:Int) by omega)]
 rfl
theorem qor(ds:List D): qn3 [.lst ds]=some ds:=rfl
theorem qos(ds:List D): qn3 [.tup ds]=some ds:=rfl
theorem xj(ds:List D): yz [.lst ds]=some (.tup ds):=rfl
theorem qmd(ds:List D): yz [.tup ds]=some (.tup ds):=rfl
theorem q93(ds:List D)(r:Rho): q7g 0 (some (.ow ds) :: r)=some ds:=rfl
theorem q94(i:Nat)(x:Option B)(r:Rho): q7g (i+1) (x :: r)=q7g i r:=rfl
theorem ja{n:Nat}{u:FS}{ds:List D}{d:D}(h:(u (ds.map (fun d=>some (.fz d))++List.replicate (n-ds.length) none)).map Prod.fst=some (.rt d)): zj n u ds=some d:=by
 cases e:u (ds.map (fun d=>some (.fz d))++List.replicate (n-ds.length) none) with
 | none=>rw [e] at h;cases h
 | some p=>
  obtain⟨fl, ρ'⟩:=p;rw [e] at h;have h':fl=.rt d:=by simpa using h
  subst h';exact qrn e
theorem qot:zk .int .non=false/\(∀b:Bool,zk .int (.bl b)=true)/\(∀i:Int,zk .int (.int i)=true)/\(∀x:Str,zk .int (.str x)=false)/\(∀ds:List D,zk .int (.tup ds)=false)/\(∀ds:List D,zk .int (.lst ds)=false)/\(∀(ks:List Key) (vs:List D),zk .int (.dct ks vs)=false)/\(∀(ks:List (List Int)) (vs:List D),zk .int (.dtt ks vs)=false)/\zk .bool .non=false/\(∀b:Bool,zk .bool (.bl b)=true)/\(∀i:Int,zk .bool (.int i)=false)/\(∀x:Str,zk .bool (.str x)=false)/\(∀ds:List D,zk .bool (.tup ds)=false)/\(∀ds:List D,zk .bool (.lst ds)=false)/\(∀(ks:List Key) (vs:List D),zk .bool (.dct ks vs)=false)/\(∀(ks:List (List Int)) (vs:List D),zk .bool (.dtt ks vs)=false)/\zk .tuple .non=false/\(∀b:Bool,zk .tuple (.bl b)=false)/\(∀i:Int,zk .tuple (.int i)=false)/\(∀x:Str,zk .tuple (.str x)=false)/\(∀ds:List D,zk .tuple (.tup ds)=true)/\(∀ds:List D,zk .tuple (.lst ds)=false)/\(∀(ks:List Key) (vs:List D),zk .tuple (.dct ks vs)=false)/\(∀(ks:List (List Int)) (vs:List D),zk .tuple (.dtt ks vs)=false)/\zk .list .non=false/\(∀b:Bool,zk .list (.bl b)=false)/\(∀i:Int,zk .list (.int i)=false)/\(∀x:Str,zk .list (.str x)=false)/\(∀ds:List D,zk .list (.tup ds)=false)/\(∀ds:List D,zk .list (.lst ds)=true)/\(∀(ks:List Key) (vs:List D),zk .list (.dct ks vs)=false)/\(∀(ks:List (List Int)) (vs:List D),zk .list (.dtt ks vs)=false)/\zk .str .non=false/\(∀b:Bool,zk .str (.bl b)=false)/\(∀i:Int,zk .str (.int i)=false)/\(∀x:Str,zk .str (.str x)=true)/\(∀ds:List D,zk .str (.tup ds)=false)/\(∀ds:List D,zk .str (.lst ds)=false)/\(∀(ks:List Key) (vs:List D),zk .str (.dct ks vs)=false)/\(∀(ks:List (List Int)) (vs:List D),zk .str (.dtt ks vs)=false)/\zk .dict .non=false/\(∀b:Bool,zk .dict (.bl b)=false)/\(∀i:Int,zk .dict (.int i)=false)/\(∀x:Str,zk .dict (.str x)=false)/\(∀ds:List D,zk .dict (.tup ds)=false)/\(∀ds:List D,zk .dict (.lst ds)=false)/\(∀(ks:List Key) (vs:List D),zk .dict (.dct ks vs)=true)/\(∀(ks:List (List Int)) (vs:List D),zk .dict (.dtt ks vs)=true):=by
 refine⟨?_,?_,?_,?_,?_,?_,?_,?_,?_,?_,?_,?_,?_,?_,?_,?_,?_,?_,?_,?_,?_,?_,?_,?_,?_,?_,?_,?_,?_,?_,?_,?_,?_,?_,?_,?_,?_,?_,?_,?_,?_,?_,?_,?_,?_,?_,?_,?_⟩ <;> intros <;> rfl
theorem qfz{x:Int}{n:Nat}(hn:0<n): ∃k:Nat,k<n/\oMod (.int x) (.int (n:Int))=some (.int (k:Int)):=by
 have h1:=pq x (show(n:Int)≠0 by omega);have h2:=g0b x (show(0:Int)<(n:Int) by omega);refine⟨(x%n).toNat,by omega,?_⟩;rw [jv _ _ (by omega),uz h1]
end DL
open PySem PyProof.Rows L2 DL
local macro_rules | `(tactic| simp! [$a,*])=> `(tactic| simp (config:={decide:=true,implicitDefEqProofs:=false}) only [zj,z0,sIf,zi,zu,qsi,xl,q1v,qtp,qtq,q33,q3e,q12,qsl,eOp,eC,eV0,eVs,ql,qc,qk,z8,eL,xq,qsn,eSl,oNo,oAt,qtx,q1u,z6,kl,bT,bOr,q4e,eOr,qc1,eIf,q1w,qot,eUn,isB,q5i,q5m,q6w,qt0,qty,frzs,vi,qgh,qp,qsq,qts,bN,q4g,q0o,q4f,kx,qqh,gh,u7,nj,List.length_nil,gr,Nat.reduceAdd,Nat.reduceSub,Nat.reduceEqDiff,List.replicate,g49,g0e,pk,List.set_cons_zero,List.set_cons_succ,List.set_nil,g0s,g4j,gb,Option.bind_none,mw,Option.map_none,g2h,Option.join_none,jv,q18,q1p,qdo,vk,kj,q44,q45,qrm,qfx,qop,q2d,qa1,xj,qmd,pz,p7,g4x,g4g,gu,pd,g36,and_true,true_and,and_self,ite_true,ite_false,Int.reduceSub,Int.reduceMod,Int.reduceAdd,Int.reduceDiv,Int.reducePow,Int.reduceMul,Int.reduceNeg,Int.reduceEq,Int.reduceLT,Int.reduceLE,Int.reduceToNat,qtz,qro,qoq,qor,qos,q56,reduceCtorEq,List.isEmpty_nil,List.isEmpty_cons,List.isEmpty_iff, $a,*])
namespace My
open PySem PyProof.Rows L2 DL
abbrev TI(ns:List Int): D:=.tup (ns.map .int)
abbrev Run:=Int×List Int
abbrev q1z(r:Run): D:=.tup [.int r.1,TI r.2]
abbrev jq(w:Nat)(rs:List Run): D:=.tup [.int (w:Int),.tup (rs.map q1z)]
def bit(m i:Nat): Bool:=m / 2 ^ i%2==1
def qm(n m:Nat): List Int:=((List.range n).filter fun i=>bit m i).map fun i:Nat=>(i:Int)
def mk(b:List Int): Int:=(b.map fun x=>(2:Int) ^ x.toNat).sum
theorem qa4(a b:Nat): Builtin.bitAnd (a:Int) (b:Int)=((a &&& b:Nat):Int):=by
 unfold Builtin.bitAnd;rw [ma (by omega:(0:Int)<=(a:Int)),ma (by omega:(0:Int)<=(b:Int))];simp
theorem qk3(a b:Nat): oBand (.int (a:Int)) (.int (b:Int))=some (.int ((a &&& b:Nat):Int)):=by
 show some (D.int (Builtin.bitAnd (a:Int) (b:Int)))=_;rw [qa4]
theorem qav(a b:Int): oBand (.int a) (.int b)=some (.int (Builtin.bitAnd a b)):=rfl
theorem qou(m i:Nat): oShr (.int (m:Int)) (.int (i:Int))=some (.int ((m / 2 ^ i:Nat):Int)):=by
 rw [qm9 _ _ (by omega),t7]
 norm_cast
theorem q6x(n:Nat): zg 0 n=(List.range n).map fun i:Nat=>.int (i:Int):=by
 unfold zg;simp only [Int.zero_add]
theorem qhv(m:Nat): k8 [.int (m:Int)]=some (TI (qm 12 m)):=by
 have c:zd (bN 0) (z6 oEq (eOp oBand (eOp oShr (eV 1) (eV 0)) (eC (.int 1))) (eC (.int 1))) (eV 0) [none,some (.fz (.int (m:Int)))] (zg 0 12)=some ((qm 12 m).map D.int):=by
  have:=wx (b:=bN 0) (c:=z6 oEq (eOp oBand (eOp oShr (eV 1) (eV 0)) (eC (.int 1))) (eC (.int 1))) (f:=eV 0) (ρ :=[none,some (.fz (.int (m:Int)))]) (fun d=>match d with | .int x=>bit m x.toNat|_=>false) id (ds:=zg 0 12) fun d hd=>by
   rw [q6x] at hd;obtain⟨i,_,rfl⟩:=md.mp hd;refine⟨_,rfl,x8 (zc (zc (x_v rfl) (x_v rfl) (qou m i)) x_c (qk3 _ 1)) x_c ?_,fun _=>rfl⟩;rw [q44]
   congr 2
   show decide _=bit m (i:Int).toNat;rw [t7,bit,Nat.and_one_is_mod,ph,mx,uc];omega
  rw [this,g4y,q6x,g0y,qm,nr]
  rfl
 have hr:iR1 (qc (eC (.int 12)) qk) [some (.fz (.int (m:Int)))]=some (zg 0 12):=rfl;have hl:(zg 0 12).length<=lim:=by decide
 (refine ja ?_;simp! [k7,zp,hr,hl,c,xj])
theorem q0w:∀k:Nat,k<64->qm (Builtin.Int.intBits (k:Int)) k=qm 12 k/\mk (qm 12 k)=(k:Int):=by decide
theorem q32:∀a:Nat,a<64->∀b:Nat,b<64->qm 12 a=qm 12 b->a=b:=fun a ha b hb h=>by
 have h1:=(q0w a ha).2;have h2:=(q0w b hb).2;rw [h,h2] at h1;omega
theorem q0a(n m:Nat): (qm n m).length<=n:=by
 unfold qm;rw [gr];exact mh (n4 _ _) (by simp)
theorem q80{n m:Nat}{x:Int}(h:x∈qm n m): ∃i:Nat,x=(i:Int)/\i<n:=by
 unfold qm at h;obtain⟨i,hi,rfl⟩:=md.mp h;exact⟨i,rfl,by simpa using(mv.mp hi).1⟩
theorem qov(b:List Int)(hb:∀x∈b,0<=x/\x<100)(ρ : Rho): zd (bN 0) zx (eOp oShl (eC (.int 1)) (eV 0)) (none :: ρ) (b.map D.int)=some ((b.map fun x=>(2:Int) ^ x.toNat).map D.int):=by
 have:=q1d (b:=bN 0) (f:=eOp oShl (eC (.int 1)) (eV 0)) (ρ :=none :: ρ) (fun d=>match d with | .int x=>.int (2 ^ x.toNat)|_=>.non) (ds:=b.map D.int) fun d hd=>by
  obtain⟨x,hx,rfl⟩:=md.mp hd;have:=hb x hx;refine⟨_,rfl,zc x_c (x_v rfl) ?_⟩;rw [qdp 1 x (by omega) (by omega) (by decide),Int.one_mul]
 rw [this,nr,nr]
 rfl
theorem q95(b:List Int)(hb:∀x∈b,0<=x/\x<100)(hl:b.length<=1000): vq [TI b]=some (.int (mk b)):=by
 have hl':b.length<=lim:=by show _<=1000000;omega
 have c:=qov b hb [];have a:=qau (b.map fun x=>(2:Int) ^ x.toNat)
 (refine ja ?_;simp! [q1m,zp,hl',c,a])
 rfl
theorem q69(a b:Int)(h:0<b)(h2:b<1606938044258990275541962092341162602522202993782792835301376): oDivB (.int a) (.int b)=some (.int (a / b)):=by simp [oDivB,oI,h,h2]
end My
open PySem PyProof.Rows L2 DL
namespace My
open PySem PyProof.Rows L2 DL
def vg(rs:List Run): Prop:=rs.length<=1000/\∀r∈rs,(∀x∈r.2,0<=x/\x<100)/\r.2.length<=1000/\0<=r.1/\∃t,t<64/\r.2=qm 12 t
abbrev mrD(r:Run): D:=.tup [.int r.1,.int (mk r.2)]
theorem qk4(w:Nat)(rs:List Run)(h:vg rs): q2r [jq w rs]=some (.lst (rs.map mrD)):=by
 have hl':rs.length<=lim:=by have:=h.1;show _<=1000000;omega
 have c:zd (q4g 2 (q0o (bN 0) (q0o (bN 1) q4f))) zx (z8 (qc (eV 0) (qc (ql (qp 1 [] vq) (qc (eV 1) qk)) qk))) [none,none] (rs.map q1z)=some (rs.map mrD):=by
  have hr:=h.2;clear hl' h
  induction rs with
  | nil=>rfl
  | cons r rs ih=>
   have ih':=ih fun x hx=>hr x (gy _ hx);have m:=q95 r.2 (hr r gv).1 (hr r gv).2.1;rw [gh];simp! [zd,ih',m,zx]
 (refine ja ?_;simp! [q2q,zp,hl',c])
def cM(rs:List Run)(k:Nat): Int:=((rs.filter fun r=>decide (Builtin.bitAnd (mk r.2) (k:Int)=(k:Int))).map (·.1)).sum
theorem qow(rs:List Run)(k:Nat): zd (q4g 2 (q0o (bN 0) (q0o (bN 1) q4f))) (z6 oEq (eOp oBand (eV 1) (eV 2)) (eV 2)) (eV 0) [none,none,some (.fz (.int (k:Int)))] (rs.map mrD)
  = some (((rs.filter fun r=>decide (Builtin.bitAnd (mk r.2) (k:Int)=(k:Int))).map (·.1)).map D.int):=by
 induction rs with
 | nil=>rfl
 | cons r rs ih=>
  rw [gh]
  by_cases hb:Builtin.bitAnd (mk r.2) (k:Int)=(k:Int)
  ·simp! [zd,ih,qav,hb,n9,g4x,pz]
  ·simp! [zd,ih,qav,hb,n9,g4g,p7,gu]
theorem q96(rs:List Run)(h:vg rs)(k:Nat)(hk:k<64): vx [.lst (rs.map mrD),TI (qm 12 k)]=some (.int (cM rs k)):=by
 have hl':rs.length<=lim:=by have:=h.1;show _<=1000000;omega
 have m:vq [TI (qm 12 k)]=some (.int (k:Int)):=by
  rw [q95 _ (fun x hx=>?_) (mh (q0a 12 k) (by decide)),(q0w k hk).2];obtain⟨i,rfl,hi⟩:=q80 hx;omega
 have c:=qow rs k;have a:=qau ((rs.filter fun r=>decide (Builtin.bitAnd (mk r.2) (k:Int)=(k:Int))).map (·.1))
 (refine ja ?_;simp! [yq,zp,hl',m,c,a])
 rfl
abbrev setD(k:Nat): D:=TI (qm 12 k)
abbrev pairD(rs:List Run)(k:Nat): D:=.tup [setD k,.int (cM rs k)]
theorem qes(rs:List Run)(L:Int)(l:List Nat)(hl:l.length<=1000): vj [.lst (l.map (pairD rs)),.int L]=some (.tup ((l.filter fun k=>decide (L<=cM rs k)).map (pairD rs))):=by
 have hl':l.length<=lim:=by show _<=1000000;omega
 have c:zd (bN 0) (z6 oGe (eOp oIx (eV 0) (eC (.int 1))) (eV 1)) (eV 0) [none,some (.fz (.int L))] (l.map (pairD rs))=some ((l.filter fun k=>decide (L<=cM rs k)).map (pairD rs)):=by
  clear hl hl'
  induction l with
  | nil=>rfl
  | cons k l ih=>
   rw [gh]
   by_cases hb:L<=cM rs k
   ·simp! [zd,ih,hb,n9,g4x,pz]
   ·simp! [zd,ih,hb,n9,g4g,p7,gu]
 (refine ja ?_;simp! [wt,zp,hl',c,xj])
theorem qdu(rs:List Run)(L:Int)(l:List Nat)(hl:l.length<=1000): vj [.tup (l.map (pairD rs)),.int L]=some (.tup ((l.filter fun k=>decide (L<=cM rs k)).map (pairD rs))):=by
 have hl':l.length<=lim:=by show _<=1000000;omega
 have c:zd (bN 0) (z6 oGe (eOp oIx (eV 0) (eC (.int 1))) (eV 1)) (eV 0) [none,some (.fz (.int L))] (l.map (pairD rs))=some ((l.filter fun k=>decide (L<=cM rs k)).map (pairD rs)):=by
  clear hl hl'
  induction l with
  | nil=>rfl
  | cons k l ih=>
   rw [gh]
   by_cases hb:L<=cM rs k
   ·simp! [zd,ih,hb,n9,g4x,pz]
   ·simp! [zd,ih,hb,n9,g4g,p7,gu]
 (refine ja ?_;simp! [wt,zp,hl',c,xj])
end My
open PySem PyProof.Rows L2 DL
namespace My
open PySem PyProof.Rows L2 DL
theorem q1e(ns:List Int)(k:Nat): ∃c:Int,xw [.lst (ns.map .int),.int (k:Int)]=some (.int c):=by
 by_cases h:(k:Int)<(ns.length:Int)
 ·have hk:k<ns.length:=by omega
  have hi:atI (ns.map D.int) (k:Int)=some (.int ns[k]):=by rw [qdt,gz,m9 hk];rfl
  refine⟨ns[k],?_⟩
  (refine ja ?_;simp! [wk,h,hi])
 ·refine⟨0,?_⟩
  (refine ja ?_;simp! [wk,h])
theorem q0x(ns:List Int)(hl:ns.length<=63)(k:Int)(h0:0<=k)(h1:k<=1000000): ∃m,jk [.lst (ns.map .int),.int k]=some (.int m)/\0<=m/\m<2147483563:=by
 have hk7:zz (.int k) (.int 7919)=some (.int (k*7919)):=vk _ _ ⟨by decide,by decide⟩;have h7k:zz (.int 7) (.int k)=some (.int (7*k)):=kj _ _ ⟨by decide,by decide⟩;have h2k:zz (.int 2) (.int k)=some (.int (2*k)):=kj _ _ ⟨by decide,by decide⟩;have h2kk:zz (.int (2*k)) (.int k)=some (.int (2*k*k)):=vk _ _ ⟨by omega,by omega⟩;have hkk:0<=2*k*k/\2*k*k<=2000000000000:=by
  have a:0<=k*k:=Int.mul_nonneg h0 h0;have b:k*k<=1000000*1000000:=Int.mul_le_mul h1 h1 h0 (by decide);rw [Int.mul_assoc];omega
 have hc:∀x:Int,zz (.int x) (.int (48271+2*k*k))=some (.int (x*(48271+2*k*k))):=fun x=>vk _ _ ⟨by omega,by omega⟩;have hx:∀x:Int,zz (.int (x%2147483629)) (.int (x%2147483629))=some (.int ((x%2147483629)*(x%2147483629))):=fun x=>
  vk _ _ ⟨by have:=pq x (show(2147483629:Int)≠0 by decide);omega,by have:=g0b x (show(0:Int)<2147483629 by decide);omega⟩
 have hy:∀x:Int,zz (.int x) (.int (69621+k))=some (.int (x*(69621+k))):=fun x=>vk _ _ ⟨by omega,by omega⟩;have fin:∀x:Int,0<=x%2147483563/\x%2147483563<2147483563:=fun x=>⟨pq x (by decide),g0b x (by decide)⟩
 by_cases hn:0<ns.length
 ·obtain⟨j,hj,hm⟩:=qfz (x:=k) hn
  have hn':(0:Int)<(ns.length:Int):=by omega
  have hi:atI (ns.map D.int) (j:Int)=some (.int ns[j]):=by rw [qdt,gz,m9 hj];rfl
  have hd:oDivB (.int k) (.int (ns.length:Int))=some (.int (k / (ns.length:Int))):=q69 _ _ hn' (by omega);have h11:∀x:Int,zz (.int 11) (.int x)=some (.int (11*x)):=fun x=>kj _ _ ⟨by decide,by decide⟩;simp! [jk,ke,hk7,h7k,h2k,h2kk,hc,hx,hy,hm,hn',hi,hd,h11];exact⟨_,rfl,fin _⟩
 ·have hn':¬(0:Int)<(ns.length:Int):=by omega
  simp! [jk,ke,hk7,h7k,h2k,h2kk,hc,hx,hy,hn'];exact⟨_,rfl,fin _⟩
def runOf(n:Int)(w:Nat)(most:Int): Run:=(1+n / 4096%most,qm 12 (n%2 ^ w).toNat)
theorem qg0(w:Nat)(hw:w<=1000): oShl (.int 1) (.int (w:Int))=some (.int (2 ^ w)):=by
 rw [qdp 1 (w:Int) (by omega) (by omega) (by decide),t7,Int.one_mul]
theorem q97(n:Int)(w:Nat)(most:Int)(hw:w<=12)(hm:0<most): q0d [.int n,.int (w:Int),.int most]=some (q1z (runOf n w most)):=by
 have hp:=qg0 w (by omega);have hpos:(0:Int)<2 ^ w:=Int.pow_pos (by decide);have ls:=qhv (n%2 ^ w).toNat;rw [uz (pq n (by omega))] at ls
 (refine ja ?_;simp! [q1l,hp,hm,hpos,ls])
 rfl
def q98(w:Nat)(r:Run): Prop:=(∀x∈r.2,0<=x/\x<100)/\r.2.length<=1000/\0<=r.1/\r.1<=1000000000000/\∃t,t<2 ^ w/\r.2=qm 12 t
theorem qdv(n:Int)(w:Nat)(most:Int)(hw:w<=12)(hm:0<most)(hm2:most<=1000000000000): q98 w (runOf n w most):=by
 have hp0:(0:Int)<2 ^ w:=Int.pow_pos (by decide);have h1:=pq (n / 4096) (by omega:most≠0);have h4:=g0b (n / 4096) hm;have h2:=g0b n hp0;have h3:=pq n (by omega:(2:Int) ^ w≠0);refine⟨fun x hx=>?_,mh (q0a 12 _) (by decide),by show 0<=1+n / 4096%most;omega,by show 1+n / 4096%most<=_;omega,_,?_,rfl⟩
 ·obtain⟨i,rfl,hi⟩:=q80 hx
  omega
 ·have:((n%2 ^ w).toNat:Int)<((2 ^ w:Nat):Int):=by
   rw [uz h3]
   exact_mod_cast h2
  exact_mod_cast this
theorem q46(x0 x2:Option B)(w:Nat)(most:Int)(hw:w<=12)(hm:0<most)(t:Rho): ∀(cs:List Int) (acc:List Run) (b5:Option B),acc.length+cs.length<=1000->∃b5',
  runFor (bN 5) k9 (cs.map D.int) ([x0,some (.fz (.int (w:Int))),x2,some (.fz (.int most)),some (.ow (acc.map q1z)),b5]++t) =
   some (.nx,[x0,some (.fz (.int (w:Int))),x2,some (.fz (.int most)),some (.ow ((acc++cs.map fun n=>runOf n w most).map q1z)),b5']++t)
 | [],acc,b5,_=>⟨b5,by simp [runFor]⟩
 | c :: cs,acc,b5,h=>by
  have lr:=q97 c w most hw hm;have hl:acc.length<lim:=by simp at h;show _<1000000;omega
  obtain⟨b5',ih⟩:=q46 x0 x2 w most hw hm t cs (acc++[runOf c w most]) (some (.fz (.int c))) (by simp at h ⊢;omega);have body:k9 ([x0,some (.fz (.int (w:Int))),x2,some (.fz (.int most)),some (.ow (acc.map q1z)),some (.fz (.int c))]++t)=some (.nx,[x0,some (.fz (.int (w:Int))),x2,some (.fz (.int most)),some (.ow ((acc++[runOf c w most]).map q1z)),some (.fz (.int c))]++t):=by
   simp! [k9,lr,q5k,q93,q94,hl,nv]
  refine⟨b5',?_⟩;rw [gh,wc (b:=bN 5) rfl body,ih];simp
theorem q47(ns:List Int)(hns:ns.length<=63)(x2:Option B)(w:Nat)(most base:Int)(hw:w<=12)(hm:0<most)(hm2:most<=1000000000000)(b5:Option B): ∀(n:Nat) (k:Int) (acc:List Run) (b7 b8:Option B),0<=k->k+n<=1000->acc.length+n<=1000->(∀r∈acc,q98 w r) ->
  ∃(rs:List Run) (b7' b8':Option B),runFor (bN 7) yh (zg k n) [some (.fz (.lst (ns.map .int))),some (.fz (.int (w:Int))),x2,some (.fz (.int most)),some (.ow (acc.map q1z)),b5,some (.fz (.int base)),b7,b8] =
   some (.nx,[some (.fz (.lst (ns.map .int))),some (.fz (.int (w:Int))),x2,some (.fz (.int most)),some (.ow (rs.map q1z)),b5,some (.fz (.int base)),b7',b8'])/\rs.length=acc.length+n/\∀r∈rs,q98 w r
 | 0,k,acc,b7,b8,_,_,_,ha=>⟨acc,b7,b8,by simp [zg,runFor],by simp,ha⟩
 | n+1,k,acc,b7,b8,h0,h1,h2,ha=>by
  obtain⟨m1,e1,p1,q1⟩:=q0x ns hns (10+k) (by omega) (by omega);have hl:acc.length<lim:=by show _<1000000;omega
  have body:∃N b8',yh [some (.fz (.lst (ns.map .int))),some (.fz (.int (w:Int))),x2,some (.fz (.int most)),some (.ow (acc.map q1z)),b5,some (.fz (.int base)),some (.fz (.int k)),b8] =
    some (.nx,[some (.fz (.lst (ns.map .int))),some (.fz (.int (w:Int))),x2,some (.fz (.int most)),some (.ow ((acc++[runOf N w most]).map q1z)),b5,some (.fz (.int base)),some (.fz (.int k)),b8']):=by
   have lr:=fun n=>q97 n w most hw hm;have hor:∀a b:Int,oBor (.int a) (.int b)=some (.int (Builtin.bitOr a b)):=fun _ _=>rfl;have ht:∀x:Int,zz (.int x) (.int 4096)=some (.int (x*4096)):=fun x=>vk _ _ ⟨by decide,by decide⟩
   by_cases c2:m1%3=0
   ·simp! [yh,e1,c2,lr,hor,ht,q5k,q93,q94,hl,nv]
    exact⟨_,_,rfl⟩
   ·simp! [yh,e1,c2,lr,q5k,q93,q94,hl,nv]
    exact⟨_,_,rfl⟩
  obtain⟨N,b8',eb⟩:=body;obtain⟨rs,c7,c8,er,el,ho⟩:=q47 ns hns x2 w most base hw hm hm2 b5 n (k+1) (acc++[runOf N w most]) (some (.fz (.int k))) b8' (by omega) (by omega) (by simp;omega) (fun r hr=>by
   rcases nh.mp hr with hr|hr
   ·exact ha r hr
   ·rw [tf.mp hr];exact qdv N w most hw hm hm2)
  refine⟨rs,c7,c8,?_,by rw [el];simp;omega,ho⟩;rw [q7b,wc (b:=bN 7) rfl eb,er]
theorem qet(ns:List Int)(hl:ns.length<=63)(w:Nat)(hw:w<=12)(mr:Nat)(hmr:mr<=61): ∃rs:List Run,q0p [.lst (ns.map .int),.int (w:Int),.int (mr:Int)]=some (jq w rs)/\rs.length<=63/\∀r∈rs,q98 w r:=by
 obtain⟨m0,e0,p0,q0⟩:=q0x ns hl 0 (by decide) (by decide);obtain⟨m1,e1,p1,q1⟩:=q0x ns hl 1 (by decide) (by decide);obtain⟨m2,e2,p2,q2⟩:=q0x ns hl 2 (by decide) (by decide);obtain⟨c0,ec⟩:=q1e ns 0;rw [show((0:Nat):Int)=0 from rfl] at ec;obtain⟨most,emost,hmost,hmost2⟩:∃most:Int,atI [D.int 1,D.int 3,D.int 9,D.int 1000000000000] (m0%4)=some (.int most)/\0<most/\most<=1000000000000:=by
  have:m0%4=0\/m0%4=1\/m0%4=2\/m0%4=3:=by omega
  rcases this with e|e|e|e <;> rw [e]
  ·exact⟨1,rfl,by decide,by decide⟩
  ·exact⟨3,rfl,by decide,by decide⟩
  ·exact⟨9,rfl,by decide,by decide⟩
  ·exact⟨1000000000000,rfl,by decide,by decide⟩
 have hpw:oPow (.int 10) (.int 12)=some (.int 1000000000000):=by
  rw [q56 10 12 (by decide) (by decide) (by decide)];rfl
 by_cases hc:c0%2=0
 ·have sl:∃cs:List Int,oSl (.lst (ns.map D.int)) (some 2) (some (2+(mr:Int)))=some (.lst (cs.map D.int))/\cs.length<=63:=by
   refine⟨(ns.drop (min 2 ns.length)).take (min (2+mr) ns.length-min 2 ns.length),?_,?_⟩
   ·show some (D.lst (DL.cutD (ns.map D.int) (some ((2:Nat):Int)) (some (2+(mr:Int)))))=_
    rw [show(2:Int)+(mr:Int)=((2+mr:Nat):Int) by omega];unfold DL.cutD;rw [HT.sIx_nat,HT.sIx_nat,gr,g54,g55]
   ·rw [ni,g1i];omega
  obtain⟨cs,sl,hcs⟩:=sl;obtain⟨b5,e⟩:=q46 (some (.fz (.lst (ns.map .int)))) (some (.fz (.int (mr:Int)))) w most hw hmost [none,none,none] cs [] none (by simp;omega);refine⟨cs.map fun n=>runOf n w most,?_,?_,?_⟩
  ·simp only [u7,g0e,g49] at e
   (refine ja ?_;simp! [wo,e0,ec,emost,hpw,hc,sl,e,xj])
  ·rw [gr];omega
  ·intro r hr
   obtain⟨n,_,rfl⟩:=md.mp hr;exact qdv n w most hw hmost hmost2
 ·obtain⟨tn,htn,etn⟩:=qfz (x:=m2) (n:=mr+1) (by omega)
  rw [show((mr+1:Nat):Int)=(mr:Int)+1 by omega] at etn;have hpos:(0:Int)<2 ^ w:=Int.pow_pos (by decide);have hp:=qg0 w (by omega);obtain⟨rs,b7,b8,e,el,ho⟩:=q47 ns hl (some (.fz (.int (mr:Int)))) w most (m1%2 ^ w) hw hmost hmost2 none tn 0 [] none none (by decide) (by omega) (by simp;omega) (by simp);have hr:iR1 (qc (eOp oMod (ql (qp 2 [] jk) (qc (eV 0) (qc (eC (.int 2)) qk))) (eOp zq (eV 2) (eC (.int 1)))) qk) [some (.fz (.lst (ns.map .int))),some (.fz (.int (w:Int))),some (.fz (.int (mr:Int))),some (.fz (.int most)),some (.ow []),none,some (.fz (.int (m1%2 ^ w))),none,none]=some (zg 0 tn):=by
   have ha:qc (eOp oMod (ql (qp 2 [] jk) (qc (eV 0) (qc (eC (.int 2)) qk))) (eOp zq (eV 2) (eC (.int 1)))) qk [some (.fz (.lst (ns.map .int))),some (.fz (.int (w:Int))),some (.fz (.int (mr:Int))),some (.fz (.int most)),some (.ow []),none,some (.fz (.int (m1%2 ^ w))),none,none]=some [.int (tn:Int)]:=
    qj (zc (zh (qj (x_v rfl) (qj x_c qo)) rfl e2) (zc (x_v rfl) x_c rfl) etn) qo
   rw [q6v _ _ _ ha (by omega) (by omega),t7]
  refine⟨rs,?_,by rw [el];simp;omega,ho⟩;simp only [u7] at e
  (refine ja ?_;simp! [wo,e0,e1,ec,emost,hpw,hc,hp,hpos,hr,e,xj])
theorem qox{w:Nat}(hw:w<=6){rs:List Run}(hl:rs.length<=63)(h:∀r∈rs,q98 w r): vg rs:=⟨by omega,fun r hr=>by
 obtain⟨a,b,c,_,t,ht,e⟩:=h r hr;have:2 ^ w<=64:=mh (g31 (by decide) hw) (by decide);exact⟨a,b,c,t,by omega,e⟩⟩
end My
open PySem PyProof.Rows L2 DL
namespace My
open PySem PyProof.Rows L2 DL
def firstOf(b:List Int): Int:=match b.getLast? with
 | some x=>x+1
 | none=>0
theorem qk5:∀i:Nat,i<6->∀m:Nat,m<2 ^ i->qm 12 (m+2 ^ i)=qm 12 m++[(i:Int)]:=by decide +kernel
theorem qoy(b:List Int)(x:Int): oIx (TI (b++[x])) (.int (-1))=some (.int x):=by
 rw [qro,qma,nv,gh,u7,List.getLast?_append];simp
theorem qoz{fa:FA}{ρ : Rho}{i j:Int}(ha:fa ρ = some [.int i,.int j])(h1 : -(2 ^ 62)<=i)(h2:i<2 ^ 62)(h3 : -(2 ^ 62)<=j)(h4:j<2 ^ 62): iR2 fa ρ = some (zg i (j-i).toNat):=by
 unfold iR2;rw [ha,gb];dsimp only;rw [ma h1,ma h2,ma h3,ma h4]
 rfl
theorem qeu(b:List Int)(w s:Nat)(hs:firstOf b=(s:Int))(hb:b.length<=100)(hw:w<=100)(hs2:s<=100): vc [TI b,.int (w:Int)]=some (.lst ((List.range (w-s)).map fun i:Nat=>TI (b++[((s+i:Nat):Int)]))):=by
 have e:eIf (bT (eV 0)) (eOp zq (eOp oIx (eV 0) (eUn q5m (eC (.int 1)))) (eC (.int 1))) (eC (.int 0)) [some (.fz (TI b)),some (.fz (.int (w:Int))),none]=some (.int (s:Int)):=by
  rw [<- hs];cases b with
  | nil=>rfl
  | cons x r=>
   have hx:∃b' y,x :: r=b'++[y]:=⟨(x :: r).dropLast,(x :: r).getLast (by simp),(List.dropLast_concat_getLast (by simp)).symm⟩
   obtain⟨b',y,e⟩:=hx;have ht:bT (eV 0) [some (.fz (TI (x :: r))),some (.fz (.int (w:Int))),none]=some true:=rfl;unfold eIf;rw [ht,gb,gx rfl,e];have hf:firstOf (b'++[y])=y+1:=by unfold firstOf;rw [List.getLast?_append];simp
   rw [hf];exact zc (zc (x_v rfl) (qmc x_c rfl) (qoy b' y)) x_c rfl
 have r:iR2 (qc (eV 2) (qc (eV 1) qk)) [some (.fz (TI b)),some (.fz (.int (w:Int))),some (.fz (.int (s:Int)))]=some (zg (s:Int) (w-s)):=by
  rw [qoz (qj (x_v rfl) (qj (x_v rfl) qo)) (by omega) (by omega) (by omega) (by omega),show((w:Int)-(s:Int)).toNat=w-s by omega]
 have hl:(zg (s:Int) (w-s)).length<=lim:=by rw [q29];show _<=1000000;omega
 have c:zd (bN 0) zx (eOp zq (eV 1) (z8 (qc (eV 0) qk))) [none,some (.fz (TI b))] (zg (s:Int) (w-s))=some ((List.range (w-s)).map fun i:Nat=>TI (b++[((s+i:Nat):Int)])):=by
  have:=q1d (b:=bN 0) (f:=eOp zq (eV 1) (z8 (qc (eV 0) qk))) (ρ :=[none,some (.fz (TI b))]) (fun d=>match d with | .int x=>TI (b++[x])|_=>.non) (ds:=zg (s:Int) (w-s)) fun d hd=>by
   simp only [zg,md] at hd;obtain⟨i,_,rfl⟩:=hd;refine⟨_,rfl,zc (x_v rfl) (ve (qj (x_v rfl) qo) (by show 1<=1000000;decide)) ?_⟩;rw [qat _ _ (by rw [gr];simp;omega)];simp only [TI,nv,gh,u7]
  rw [this,zg,nr]
  congr 1
 have lc:zp (iR2 (qc (eV 2) (qc (eV 1) qk))) [none,some 0] (bN 0) zx (eOp zq (eV 1) (z8 (qc (eV 0) qk))) [some (.fz (TI b)),some (.fz (.int (w:Int))),some (.fz (.int (s:Int)))]=some ((List.range (w-s)).map fun i:Nat=>TI (b++[((s+i:Nat):Int)])):=by
  unfold zp;rw [r,gb,gx hl];exact c
 have k1:zi 2 (eIf (bT (eV 0)) (eOp zq (eOp oIx (eV 0) (eUn q5m (eC (.int 1)))) (eC (.int 1))) (eC (.int 0))) [some (.fz (TI b)),some (.fz (.int (w:Int))),none]=some (.nx,[some (.fz (TI b)),some (.fz (.int (w:Int))),some (.fz (.int (s:Int)))]):=by
  unfold zi;rw [e]
  rfl
 have k2:zu (eL (zp (iR2 (qc (eV 2) (qc (eV 1) qk))) [none,some 0] (bN 0) zx (eOp zq (eV 1) (z8 (qc (eV 0) qk))))) [some (.fz (TI b)),some (.fz (.int (w:Int))),some (.fz (.int (s:Int)))]=some (.rt (.lst ((List.range (w-s)).map fun i:Nat=>TI (b++[((s+i:Nat):Int)]))),[some (.fz (TI b)),some (.fz (.int (w:Int))),some (.fz (.int (s:Int)))]):=by
  unfold zu;rw [x_l lc]
  rfl
 have k3:va [some (.fz (TI b)),some (.fz (.int (w:Int))),none]=some (.rt (.lst ((List.range (w-s)).map fun i:Nat=>TI (b++[((s+i:Nat):Int)]))),[some (.fz (TI b)),some (.fz (.int (w:Int))),some (.fz (.int (s:Int)))]):=by
  unfold va z0;simp (config:={implicitDefEqProofs:=false}) only [k1,gb,k2]
 refine ja ?_;have k4:([TI b,.int (w:Int)].map (fun d=>some (B.fz d))++List.replicate (3 - [TI b,D.int (w:Int)].length) none:Rho)=[some (.fz (TI b)),some (.fz (.int (w:Int))),none]:=rfl;rw [k4,k3,mw]
def firstN(k:Nat): Nat:=((List.range 7).find? fun s=>decide (k<2 ^ s)).getD 6
def yx(w k:Nat): List Nat:=(List.range (w-firstN k)).map fun i=>k+2 ^ (firstN k+i)
def xp(k:Nat): List Nat:=((List.range 6).filter fun j=>bit k j).map fun j=>k-2 ^ j
theorem qme:∀k:Nat,k<64->firstOf (qm 12 k)=(firstN k:Int)/\k<2 ^ firstN k/\firstN k<=6:=by decide +kernel
theorem qp0(w k:Nat)(hw:w<=6)(hk:k<64): vc [setD k,.int (w:Int)]=some (.lst ((yx w k).map setD)):=by
 obtain⟨h1,h2,h3⟩:=qme k hk;rw [qeu (qm 12 k) w (firstN k) h1 (mh (q0a 12 k) (by decide)) (by omega) (by omega)];unfold yx;rw [nr]
 congr 2
 refine g34 fun i hi=>?_;have hi':=ti.mp hi;have h4:k<2 ^ (firstN k+i):=gj h2 (g31 (by decide) (by omega));show TI _=TI (qm 12 (k+2 ^ (firstN k+i)));rw [qk5 (firstN k+i) (by omega) k h4]
theorem qhw:∀k:Nat,k<64->((List.range (qm 12 k).length).map fun p=>(qm 12 k).take p++(qm 12 k).drop (p+1))=(xp k).map (qm 12):=by decide +kernel
theorem qmf(k:Nat)(hk:k<64): xt [setD k]=some (.lst ((xp k).map setD)):=by
 have hb:=q0a 12 k;have c:zd (bN 0) zx (eOp zq (eSl (eV 1) oNo (oAt (eV 0))) (eSl (eV 1) (oAt (eOp zq (eV 0) (eC (.int 1)))) oNo)) [none,some (.fz (setD k))] (zg 0 (qm 12 k).length) =
   some ((xp k).map setD):=by
  have:=q1d (b:=bN 0) (f:=eOp zq (eSl (eV 1) oNo (oAt (eV 0))) (eSl (eV 1) (oAt (eOp zq (eV 0) (eC (.int 1)))) oNo)) (ρ :=[none,some (.fz (setD k))]) (fun d=>match d with | .int x=>TI ((qm 12 k).take x.toNat++(qm 12 k).drop (x.toNat+1))|_=>.non) (ds:=zg 0 (qm 12 k).length) fun d hd=>by
   rw [q6x] at hd;obtain⟨i,hi,rfl⟩:=md.mp hd;have s1:oSl (setD k) none (some (i:Int))=some (TI ((qm 12 k).take i)):=by
    show some (D.tup (DL.cutD ((qm 12 k).map D.int) none (some (i:Int))))=_;rw [qer (α :=D), <- g54]
   have s2:oSl (setD k) (some ((i+1:Nat):Int)) none=some (TI ((qm 12 k).drop (i+1))):=by
    show some (D.tup (DL.cutD ((qm 12 k).map D.int) (some ((i+1:Nat):Int)) none))=_;rw [qmb (α :=D), <- g55]
   have s3:zq (TI ((qm 12 k).take i)) (TI ((qm 12 k).drop (i+1)))=some (TI ((qm 12 k).take i++(qm 12 k).drop (i+1))):=by
    rw [qat _ _ (by rw [gr,gr,ni,g1i];omega), <- nv]
   refine⟨_,rfl,?_⟩;show eOp zq (eSl (eV 1) oNo (oAt (eV 0))) (eSl (eV 1) (oAt (eOp zq (eV 0) (eC (.int 1)))) oNo) [some (.fz (.int (i:Int))),some (.fz (setD k))]=some (TI ((qm 12 k).take (i:Int).toNat++(qm 12 k).drop ((i:Int).toNat+1)));rw [t7];have e1:(i:Int)+1=((i+1:Nat):Int):=by omega
   simp! [s1,e1,s2,s3]
  rw [this,q6x,nr];have hf:=t4 (List.map TI) (qhw k hk);rw [nr,nr] at hf;exact t4 some hf
 have hr:iR1 (qc (ql km (qc (eV 0) qk)) qk) [some (.fz (setD k))]=some (zg 0 (qm 12 k).length):=by
  have ha:qc (ql km (qc (eV 0) qk)) qk [some (.fz (setD k))]=some [.int ((qm 12 k).length:Int)]:=by
   refine qj (x_call (qj (x_v rfl) qo) ?_) qo;rw [q6w,gr]
  rw [q6v _ _ _ ha (by omega) (by omega),t7]
 have hl:(zg 0 (qm 12 k).length).length<=lim:=by rw [q29];show _<=1000000;omega
 (refine ja ?_;simp! [y8,zp,hr,hl,c])
theorem q7c{A:List Nat}(hn:A.Nodup)(hA:∀k∈A,k<64): (A.map (qm 12)).Nodup:=by
 rw [List.Nodup,g0i];refine g1z (fun {a b} ha hb hne e=>hne (q32 a (hA a ha) b (hA b hb) e)) hn
theorem qaw:∀A:List Nat,q2o (A.map fun k=>D.tup [setD k,.bl true])=some (A.map (qm 12),A.map fun _=>.bl true)
 | []=>rfl
 | k :: A=>by
  have hi:zy ((qm 12 k).map D.int)=some (qm 12 k):=v5 _;rw [gh];show(zy ((qm 12 k).map D.int)).bind (fun q=>(q2o (A.map fun k=>D.tup [setD k,.bl true])).map fun p=>(q :: p.1,D.bl true :: p.2))=_;rw [hi,qaw A]
  rfl
abbrev vh(A:List Nat): D:=.dtt (A.map (qm 12)) (A.map fun _=>.bl true)
theorem qhx(A:List Nat)(hn:A.Nodup)(hA:∀k∈A,k<64)(hl:A.length<=1000): qbh [.lst (A.map fun k=>D.tup [setD k,.bl true])]=some (vh A):=by
 show(q2o (A.map fun k=>D.tup [setD k,.bl true])).bind (fun p=>if p.1.Nodup/\(A.map fun k=>D.tup [setD k,.bl true]).length<=lim then some (D.dtt p.1 p.2) else none)=_;rw [qaw];show(if(A.map (qm 12)).Nodup/\_ then _ else _)=_;rw [gx ⟨q7c hn hA,by rw [gr];show _<=1000000;omega⟩]
theorem qmg(A:List Nat)(hA:∀k∈A,k<64)(m:Nat)(hm:m<64): q9o (setD m) (vh A)=some (.bl (decide (m∈A))):=by
 have hi:zy ((qm 12 m).map D.int)=some (qm 12 m):=v5 _;show(zy ((qm 12 m).map D.int)).map (fun k=>D.bl (decide (k∈A.map (qm 12))))=_;rw [hi,mw]
 congr 2
 rw [ph,mx,mx]
 constructor
 ·intro h
  obtain⟨a,ha,e⟩:=md.mp h;exact q32 a (hA a ha) m hm e ▸ ha
 ·exact fun h=>g00 h
theorem qmh:∀k:Nat,k<64->∀m∈xp k,m<64:=by decide +kernel
def chk(A:List Nat)(l:Nat): Bool:=(xp l).all fun m=>decide (m∈A)
theorem qrp(A:List Nat)(hA:∀k∈A,k<64)(l:Nat)(hl:l<64)(x0 x1 x3 x4:Option B): ql q9g (qc (eL (zp (vi (ql (qp 1 [] xt) (qc (eV 5) qk))) [none,some 2] (bN 0) zx (eOp q9o (eV 0) (eV 1)))) qk)
  [x0,x1,some (.fz (vh A)),x3,x4,some (.fz (setD l))]=some (.bl (chk A l)):=by
 have f:=qmf l hl;have hlen:((xp l).map setD).length<=lim:=by
  rw [gr];unfold xp;rw [gr];exact mh (n4 _ _) (by simp;decide)
 have c:zd (bN 0) zx (eOp q9o (eV 0) (eV 1)) [none,some (.fz (vh A))] ((xp l).map setD)=some (((xp l).map fun m=>decide (m∈A)).map D.bl):=by
  have hf:=qmh l hl;generalize xp l=q at hf;clear f hlen
  induction q with
  | nil=>rfl
  | cons m q ih=>
   have ih':=ih fun x hx=>hf x (gy _ hx);have hi:=qmg A hA m (hf m gv);rw [gh];simp! [zd,ih',hi,zx]
 have a:q9g [.lst (((xp l).map fun m=>decide (m∈A)).map D.bl)]=some (.bl (chk A l)):=by rw [qht,g56];rfl
 rw [gr] at hlen;simp! [f,zp,hlen,c,a]
theorem qp1:∀w:Nat,w<7->∀k:Nat,k<64->∀l∈yx w k,l<64:=by decide +kernel
theorem qmi:∀w:Nat,w<7->∀k:Nat,k<64->(yx w k).length<=6:=by decide +kernel
theorem q3p(A:List Nat)(hA:∀k∈A,k<64)(x0 x1 x4:Option B): ∀(q acc:List Nat) (b5:Option B),(∀l∈q,l<64)->acc.length+q.length<=1000->∃b5',
  runFor (bN 5) yw (q.map setD) [x0,x1,some (.fz (vh A)),some (.ow (acc.map setD)),x4,b5]=some (.nx,[x0,x1,some (.fz (vh A)),some (.ow ((acc++q.filter (chk A)).map setD)),x4,b5'])
 | [],acc,b5,_,_=>⟨b5,by simp [runFor]⟩
 | l :: q,acc,b5,hq,hl=>by
  simp only [nj] at hl;have hla:acc.length<lim:=by show _<1000000;omega
  have ck:=qrp A hA l (hq l gv) x0 x1 (some (.ow (acc.map setD))) x4;have hq':∀x∈q,x<64:=fun x hx=>hq x (gy _ hx);have e0:bN 5 (setD l) [x0,x1,some (.fz (vh A)),some (.ow (acc.map setD)),x4,b5]=some [x0,x1,some (.fz (vh A)),some (.ow (acc.map setD)),x4,some (.fz (setD l))]:=by
   unfold bN
   rfl
  cases hc:chk A l with
  | true=>
   rw [hc] at ck;obtain⟨b5',ih⟩:=q3p A hA x0 x1 x4 q (acc++[l]) (some (.fz (setD l))) hq' (by simp;omega);have body:yw [x0,x1,some (.fz (vh A)),some (.ow (acc.map setD)),x4,some (.fz (setD l))]=some (.nx,[x0,x1,some (.fz (vh A)),some (.ow ((acc++[l]).map setD)),x4,some (.fz (setD l))]):=by
    unfold yw;refine qds (q19 ck rfl) rfl ?_;simp! [q5k,q93,q94,hla,nv]
   refine⟨b5',?_⟩;rw [gh,wc (b:=bN 5) e0 body,ih,n9,gx hc];simp
  | false=>
   rw [hc] at ck;obtain⟨b5',ih⟩:=q3p A hA x0 x1 x4 q acc (some (.fz (setD l))) hq' (by omega);have body:yw [x0,x1,some (.fz (vh A)),some (.ow (acc.map setD)),x4,some (.fz (setD l))]=some (.nx,[x0,x1,some (.fz (vh A)),some (.ow (acc.map setD)),x4,some (.fz (setD l))]):=by
    unfold yw;exact y9 (q19 ck rfl) rfl ya
   refine⟨b5',?_⟩;rw [gh,wc (b:=bN 5) e0 body,ih,n9,m8 (by rw [hc];exact gs)]
def qbm(w:Nat)(A:List Nat): List Nat:=A.flatMap fun s=>(yx w s).filter (chk A)
theorem q7d(w:Nat)(hw:w<=6)(A:List Nat)(hA:∀k∈A,k<64)(x0:Option B): ∀(q acc:List Nat) (b4 b5:Option B),(∀l∈q,l<64)->acc.length+q.length*6<=1000->∃b4' b5',
  runFor (bN 4) q0s (q.map setD) [x0,some (.fz (.int (w:Int))),some (.fz (vh A)),some (.ow (acc.map setD)),b4,b5]=some (.nx,[x0,some (.fz (.int (w:Int))),some (.fz (vh A)),some (.ow ((acc++q.flatMap fun s=>(yx w s).filter (chk A)).map setD)),b4',b5'])
 | [],acc,b4,b5,_,_=>⟨b4,b5,by simp [runFor]⟩
 | s :: q,acc,b4,b5,hq,hl=>by
  simp only [nj] at hl;have hs:=hq s gv;have m:=qp0 w s hw hs;have hml:=qmi w (by omega) s hs;obtain⟨c5,e⟩:=q3p A hA x0 (some (.fz (.int (w:Int)))) (some (.fz (setD s))) (yx w s) acc b5 (qp1 w (by omega) s hs) (by omega);have hfl:((yx w s).filter (chk A)).length<=6:=mh (n4 _ _) hml;obtain⟨b4',b5',ih⟩:=q7d w hw A hA x0 q (acc++(yx w s).filter (chk A)) (some (.fz (setD s))) c5 (fun x hx=>hq x (gy _ hx)) (by rw [mn];omega);have body:q0s [x0,some (.fz (.int (w:Int))),some (.fz (vh A)),some (.ow (acc.map setD)),some (.fz (setD s)),b5]=some (.nx,[x0,some (.fz (.int (w:Int))),some (.fz (vh A)),some (.ow ((acc++(yx w s).filter (chk A)).map setD)),some (.fz (setD s)),c5]):=by
   simp! [q0s,m,e]
  refine⟨b4',b5',?_⟩;rw [gh,wc (b:=bN 4) rfl body,ih,uq,g0h]
theorem qmj(w:Nat)(hw:w<=6)(A:List Nat)(hn:A.Nodup)(hA:∀k∈A,k<64)(hl:A.length<=100): q42 [.lst (A.map setD),.int (w:Int)]=some (.lst ((qbm w A).map setD)):=by
 have hl':A.length<=lim:=by show _<=1000000;omega
 have c:zd (bN 0) zx (z8 (qc (eV 0) (qc (eC (.bl true)) qk))) [none] (A.map setD)=some (A.map fun k=>D.tup [setD k,.bl true]):=by
  clear hl hl' hn hA
  induction A with
  | nil=>rfl
  | cons k A ih=>
   rw [gh];simp! [zd,ih,zx]
 have d:=qhx A hn hA (by omega);obtain⟨b4,b5,e⟩:=q7d w hw A hA (some (.fz (.lst (A.map setD)))) A [] none none hA (by simp;omega);simp only [u7,g0e] at e
 (refine ja ?_;simp! [q41,zp,hl',c,d,e])
 rfl
end My
open PySem PyProof.Rows L2 DL
namespace My
open PySem PyProof.Rows L2 DL
theorem q81(p q:Run->Bool): ∀rs:List Run,(∀r∈rs,0<=r.1)->(∀r∈rs,p r=true->q r=true)->((rs.filter p).map (·.1)).sum<=((rs.filter q).map (·.1)).sum
 | [],_,_=>Int.le_refl _
 | r :: rs,h,hpq=>by
  have ih:=q81 p q rs (fun x hx=>h x (gy _ hx)) fun x hx=>hpq x (gy _ hx);have h0:=h r gv;have h1:=hpq r gv;rw [n9,n9];cases hp:p r with
  | true=>
   rw [hp] at h1;rw [gx rfl,gx (h1 rfl),gh,gh,g3m,g3m];omega
  | false=>
   rw [m8 gs]
   split
   ·rw [gh,g3m];omega
   ·exact ih
def wz(rs:List Run)(L:Int)(k:Nat): Bool:=decide (L<=cM rs k)
theorem qk6:∀t:Nat,t<64->∀k:Nat,k<64->∀m∈xp k,t &&& k=k->t &&& m=m:=by decide +kernel
theorem qt1(rs:List Run)(h:vg rs)(k:Nat)(hk:k<64)(m:Nat)(hm:m∈xp k): cM rs k<=cM rs m:=by
 unfold cM;refine q81 _ _ rs (fun r hr=>(h.2 r hr).2.2.1) fun r hr hq=>?_;obtain⟨t,ht,e⟩:=(h.2 r hr).2.2.2;have e2:mk r.2=(t:Int):=by rw [e];exact(q0w t ht).2
 rw [mx,e2,qa4] at hq ⊢;have:=qk6 t ht k hk m hm (by exact_mod_cast hq);rw [this]
theorem qax(rs:List Run)(L:Int)(h:vg rs)(k:Nat)(hk:k<64)(hp:wz rs L k=true): ∀m∈xp k,wz rs L m=true:=fun m hm=>by
 have:=qt1 rs h k hk m hm;unfold wz at hp ⊢;rw [mx] at hp ⊢;omega
def cnd(rs:List Run)(L:Int)(l:Nat): Bool:=(xp l).all (wz rs L)
def lv(w:Nat): Nat->List Nat
 | 0=>[0]
 | d+1=>(lv w d).flatMap (yx w)
def q0l(w:Nat): List Nat:=(List.range (w+1)).flatMap (lv w)
theorem q3q:∀w:Nat,w<7->(∀k∈q0l w,k<2 ^ w)/\(q0l w).Nodup/\(q0l w).length<=64:=by decide +kernel
theorem qt2{w:Nat}(hw:w<=6): 2 ^ w<=64:=mh (g31 (by decide) hw) (by decide)
theorem qdw{w:Nat}(hw:w<=6): ∀k∈q0l w,k<64:=fun k hk=>gj ((q3q w (by omega)).1 k hk) (qt2 hw)
def oft(w:Nat)(rs:List Run)(L:Int): List Nat:=(q0l w).filter fun k=>decide (L<=cM rs k)
theorem qdx:∀w:Nat,w<7->lv w (w+1)=[]/\∀d:Nat,d<8->(∀k∈lv w d,k<64)/\(lv w d).Nodup/\(lv w d).length<=20:=by decide +kernel
theorem qhy:∀w:Nat,w<7->∀k:Nat,k<64->∀l∈yx w k,k∈xp l:=by decide +kernel
theorem qmk:∀w:Nat,w<7->∀d:Nat,d<7->∀l∈lv w (d+1),∀m∈xp l,m∈lv w d:=by decide +kernel
theorem q7e{α β : Type}(q : α -> Bool)(g : α -> List β): ∀l:List α,(∀s∈l,q s=false->g s=[])->(l.filter q).flatMap g=l.flatMap g
 | [],_=>rfl
 | s :: l,h=>by
  have ih:=q7e q g l fun x hx=>h x (gy _ hx);rw [n9,uq];cases c:q s with
  | true=>rw [gx rfl,uq,ih]
  | false=>rw [m8 gs,ih,h s gv c,g0e]
theorem q3r{α β : Type}(p : β -> Bool)(g : α -> List β): ∀l:List α,(l.flatMap g).filter p=l.flatMap fun s=>(g s).filter p
 | []=>rfl
 | s :: l=>by rw [uq,uq,List.filter_append,q3r p g l]
def layer(w:Nat)(rs:List Run)(L:Int)(d:Nat): List Nat:=(lv w d).filter (cnd rs L)
theorem step(w:Nat)(hw:w<=6)(rs:List Run)(L:Int)(h:vg rs)(d:Nat)(hd:d<7): qbm w ((layer w rs L d).filter (wz rs L))=layer w rs L (d+1):=by
 obtain⟨_,lf⟩:=qdx w (by omega);obtain⟨l1,l2,l3⟩:=lf d (by omega);obtain⟨k1,k2,k3⟩:=lf (d+1) (by omega);have eA:(layer w rs L d).filter (wz rs L)=(lv w d).filter fun k=>wz rs L k&&cnd rs L k:=by
  unfold layer;rw [List.filter_filter]
 rw [eA];unfold qbm;rw [q7e _ _ (lv w d) fun s hs hq=>?_]
 ·unfold layer
  show _=((lv w d).flatMap (yx w)).filter (cnd rs L);have e1:(lv w d).flatMap (fun s=>(yx w s).filter (chk ((lv w d).filter fun k=>wz rs L k&&cnd rs L k)))=((lv w d).flatMap (yx w)).filter (chk ((lv w d).filter fun k=>wz rs L k&&cnd rs L k)):=(q3r _ _ _).symm;rw [e1];refine g3v fun l hl=>?_;have hl':l∈lv w (d+1):=hl;have hf:=qmk w (by omega) d (by omega) l hl';unfold chk cnd;rw [ph,g03,g03]
  constructor
  ·intro z m hm
   have:=z m hm;rw [mx,mv,mf] at this;exact this.2.1
  ·intro z m hm
   rw [mx,mv,mf];refine⟨hf m hm,z m hm,?_⟩;show(xp m).all (wz rs L)=true;rw [g03];exact qax rs L h m (l1 m (hf m hm)) (z m hm)
 ·refine List.filter_eq_nil_iff.mpr fun l hl hc=>?_
  have hm:=qhy w (by omega) s (l1 s hs) l hl;unfold chk at hc;have:=g03.mp hc s hm;rw [mx,mv] at this;rw [this.2] at hq;cases hq
theorem qay(w:Nat)(hw:w<=6)(rs:List Run)(L:Int)(h:vg rs): ∀n d:Nat,d+n<=w+1->layer w rs L d=[]->(List.range' d n).flatMap (layer w rs L)=[]
 | 0,d,_,_=>rfl
 | n+1,d,hd,e=>by
  have s:=step w hw rs L h d (by omega);rw [e] at s;have e1:layer w rs L (d+1)=[]:=s.symm;rw [List.range'_succ,uq,e,g0e];exact qay w hw rs L h n (d+1) (by omega) e1
theorem qk7(rs:List Run)(h:vg rs)(A:List Nat)(hA:∀k∈A,k<64): zd (bN 0) zx (z8 (qc (eV 0) (qc (ql (qp 2 [] vx) (qc (eV 1) (qc (eV 0) qk))) qk))) [none,some (.fz (.lst (rs.map mrD)))] (A.map setD)=some (A.map (pairD rs)):=by
 induction A with
 | nil=>rfl
 | cons k l ih=>
  have ih':=ih fun x hx=>hA x (gy _ hx);have cm:=q96 rs h k (hA k gv);rw [gh];simp! [zd,ih',cm,zx]
theorem qml(rs:List Run)(A:List Nat): zd (bN 0) zx (eOp oIx (eV 0) (eC (.int 0))) [none] (A.map (pairD rs))=some (A.map setD):=by
 induction A with
 | nil=>rfl
 | cons k l ih=>
  rw [gh];simp! [zd,ih,zx]
theorem turn(w:Nat)(hw:w<=6)(rs:List Run)(L:Int)(h:vg rs)(x0:Option B)(A acc:List Nat)(hn:A.Nodup)(hA:∀k∈A,k<64)(hl:A.length<=100)(hacc:acc.length<=1000)(b6:Option B):
  xh [x0,some (.fz (jq w rs)),some (.fz (.int L)),some (.fz (.lst (rs.map mrD))),some (.ow (acc.map (pairD rs))),some (.fz (.lst (A.map setD))),b6] =
   some (.nx,[x0,some (.fz (jq w rs)),some (.fz (.int L)),some (.fz (.lst (rs.map mrD))),some (.ow ((acc++A).map (pairD rs))),some (.fz (.lst ((qbm w (A.filter (wz rs L))).map setD))),some (.fz (.lst (A.map (pairD rs))))]):=by
 have hl':A.length<=lim:=by show _<=1000000;omega
 have hfl:(A.filter fun k=>decide (L<=cM rs k)).length<=lim:=mh (n4 _ _) hl';have he:acc.length+A.length<=lim:=by show _<=1000000;omega
 have c1:=qk7 rs h A hA;have al:=qes rs L A (by omega);have c2:=qml rs (A.filter fun k=>decide (L<=cM rs k));have g:=qmj w hw (A.filter fun k=>decide (L<=cM rs k)) (ui _ hn) (fun k hk=>hA k (mv.mp hk).1) (mh (n4 _ _) hl);have e:(A.filter (wz rs L))=A.filter fun k=>decide (L<=cM rs k):=rfl;rw [e];simp! [xh,zp,hl',c1,q9j,q93,q94,he,al,hfl,c2,g,nv]
theorem qdy(w:Nat)(hw:w<=6)(rs:List Run)(L:Int)(h:vg rs)(x0:Option B): ∀(n d f:Nat) (acc:List Nat) (b6:Option B),d+n=w+1->n<f->acc.length+n*20<=1000->∃b5' b6',
  jn (bT (eV 5)) xh f [x0,some (.fz (jq w rs)),some (.fz (.int L)),some (.fz (.lst (rs.map mrD))),some (.ow (acc.map (pairD rs))),some (.fz (.lst ((layer w rs L d).map setD))),b6] =
   some (.nx,[x0,some (.fz (jq w rs)),some (.fz (.int L)),some (.fz (.lst (rs.map mrD))),some (.ow ((acc++(List.range' d n).flatMap (layer w rs L)).map (pairD rs))),b5',b6'])
 | n,d,0,acc,b6,_,hf,_=>by omega
 | n,d,f+1,acc,b6,hd,hf,hl=>by
  obtain⟨le,lf⟩:=qdx w (by omega);have ht:bT (eV 5) [x0,some (.fz (jq w rs)),some (.fz (.int L)),some (.fz (.lst (rs.map mrD))),some (.ow (acc.map (pairD rs))),some (.fz (.lst ((layer w rs L d).map setD))),b6]=some (!((layer w rs L d).map setD).isEmpty):=q19 (x_v rfl) rfl
  by_cases hc:layer w rs L d=[]
  ·rw [hc] at ht
   have hz:=qay w hw rs L h n d (by omega) hc;rw [hz,pk];refine⟨some (.fz (.lst ((layer w rs L d).map setD))),b6,?_⟩;unfold jn;rw [hc];rw [ht]
   rfl
  ·have hne:(!((layer w rs L d).map setD).isEmpty)=true:=by
    cases e:layer w rs L d with
    | nil=>exact absurd e hc
    | cons a l=>rfl
   rw [hne] at ht;cases n with
   | zero=>
    have:d=w+1:=by omega
    subst this;exact absurd (by unfold layer;rw [le];rfl) hc
   | succ n=>
    obtain⟨k1,k2,k3⟩:=lf d (by omega);have hll:(layer w rs L d).length<=20:=mh (n4 _ _) k3;have t:=turn w hw rs L h x0 (layer w rs L d) acc (ui _ k2) (fun k hk=>k1 k (mv.mp hk).1) (by omega) (by omega) b6;rw [step w hw rs L h d (by omega)] at t;obtain⟨b5',b6',ih⟩:=qdy w hw rs L h x0 n (d+1) f (acc++layer w rs L d) (some (.fz (.lst ((layer w rs L d).map (pairD rs))))) (by omega) (by omega) (by rw [mn];omega);refine⟨b5',b6',?_⟩;unfold jn;rw [ht,gb,gx rfl,t,gb];dsimp only;rw [ih,List.range'_succ,uq,g0h]
theorem qu0(r:Rho): frz 0 (none :: r)=none :: r:=rfl
theorem qu1(d:D)(r:Rho): frz 0 (some (.fz d) :: r)=some (.fz d) :: r:=rfl
theorem qu2(d:Str×Flds)(r:Rho): frz 0 (some (.od d) :: r)=some (.od d) :: r:=rfl
def q6a(w:Nat)(rs:List Run)(L:Int): List Nat:=(q0l w).filter (cnd rs L)
theorem qhz(self:D)(w:Nat)(hw:w<=6)(rs:List Run)(L:Int)(h:vg rs): vf [self,jq w rs,.int L]=some (.tup ((q6a w rs L).map (pairD rs))):=by
 have m:=qk4 w rs h;obtain⟨b5,b6,e⟩:=qdy w hw rs L h (some (.fz self)) (w+1) 0 100000 [] none (by omega) (by omega) (by simp;omega);have e0:layer w rs L 0=[0]:=rfl;rw [e0, <- List.range_eq_range',g0e] at e;have e1:(List.range (w+1)).flatMap (layer w rs L)=q6a w rs L:=by
  unfold q6a;unfold q0l;rw [q3r]
  rfl
 rw [e1] at e;simp only [u7,gh] at e;rw [show setD 0=D.tup [] from rfl] at e;cases b6 with
 | none=>(refine ja ?_;simp! [jd,m,e,xj,qu0])
 | some z=>cases z with
  | fz z=>(refine ja ?_;simp! [jd,m,e,xj,qu1])
  | ow z=>(refine ja ?_;simp! [jd,m,e,xj])
  | od z=>(refine ja ?_;simp! [jd,m,e,xj,qu2])
theorem qi0(rs:List Run)(L:Int)(h:vg rs)(k:Nat)(hk:k<64)(hp:wz rs L k=true): cnd rs L k=true:=by
 unfold cnd;rw [g03];exact qax rs L h k hk hp
theorem qmm(w:Nat)(hw:w<=6)(rs:List Run)(L:Int)(h:vg rs): (q6a w rs L).filter (fun k=>decide (L<=cM rs k))=oft w rs L:=by
 unfold q6a oft;rw [List.filter_filter];refine g3v fun k hk=>?_;cases hp:decide (L<=cM rs k) with
 | false=>rfl
 | true=>rw [qi0 rs L h k (qdw hw k hk) hp];rfl
theorem qmn(w:Nat)(hw:w<=6)(rs:List Run)(L:Int): (q6a w rs L).length<=64:=by
 unfold q6a;exact mh (n4 _ _) (q3q w (by omega)).2.2
theorem qn9:isO "Growing" (.obj "Growing")=true:=by decide
theorem qmo(w:Nat)(hw:w<=6)(rs:List Run)(L:Int)(h:vg rs): jo [.obj "Growing",jq w rs,.int L]=some (.tup ((oft w rs L).map (pairD rs))):=by
 have c:=qhz (.obj "Growing") w hw rs L h;have a:=qdu rs L (q6a w rs L) (by have:=qmn w hw rs L;omega);rw [qmm w hw rs L h] at a
 (refine ja ?_;simp! [yl,q9l,qn9,c,a])
end My
namespace DL
open PySem L2
section
variable{ρ ρ1 ρ2 ρ':Rho}{f g:FE}{d x y z:D}{i n m ar:Nat}{fa fk:FA}{ds es:List D}{t:FT}{b:Bool}{u w:FS}{r:Option (Fl×Rho)}{c nm:Str}{fs fs':Flds}{fm gm:FM}{am:FAM}{tm:FTM}
theorem x_met{op:Flds->List D->Option (Flds×D)}(h : ρ[i]? = some (some (.od (c,fs))))(h1:fa ρ = some ds)(hl:ds.length=ar)(hn:fs.lookup nm=none)(h2:op fs ds=some (fs',d)): qr9 c nm i ar op fa ρ = some (d, ρ.set i (some (.od (c,fs')))):=by
 unfold qr9 qr8;rw [h,h1];simp only [gb,h2,mw];rw [gx ⟨trivial,hl,by rw [hn];rfl⟩]
end
end DL
namespace DL
open PySem PyProof.Rows L2
section
variable{u w:FS}{t:FT}{f:FE}{fa:FA}{ρ ρ1:Rho}{d:D}{ds:List D}{i n:Nat}{c:Bool}{r:Option Fl}
abbrev g1(x:Option (Fl×Rho)): Option Fl:=x.map Prod.fst
theorem vm(h:g1 (u (ds.map (fun d=>some (.fz d))++List.replicate (n-ds.length) none))=some (.rt d)): zj n u ds=some d:=ja h
theorem zl(h1:u ρ = some (.nx, ρ1))(h2:g1 (w ρ1)=r): g1 (z0 u w ρ)=r:=by unfold z0;rw [h1,gb];exact h2
theorem qdz(h1:g1 (u ρ)=some (.rt d)): g1 (z0 u w ρ)=some (.rt d):=by
 cases e:u ρ with
 | none=>rw [e] at h1;cases h1
 | some p=>
  obtain⟨fl, ρ2⟩:=p;rw [e] at h1;cases h1;unfold z0;rw [e,gb];rfl
theorem qe0(h1:t ρ = some c)(hc:c=true)(h2:g1 (u ρ)=r): g1 (sIf t u w ρ)=r:=by subst hc;unfold sIf;rw [h1,gb];exact h2
theorem y_ret(h1:f ρ = some d): g1 (zu f ρ)=some (.rt d):=by unfold zu;rw [h1,mw];rfl
theorem qna(h1:frz i ρ = ρ1)(h2:g1 (u ρ1)=r): g1 (q12 i u ρ)=r:=by unfold q12;rw [h1];exact h2
end
theorem q05{b:FB}{t:FT}{f:FE}{ρ : Rho}{ds:List D}(h:∀d∈ds,∃ ρ1 c,b d ρ = some ρ1/\t ρ1=some c/\(c=true->∃e,f ρ1=some e)):
  zd b t f ρ ds=some ((ds.filter fun d=>((b d ρ).bind t).getD false).map fun d=>((b d ρ).bind f).getD .non):=by
 refine wx _ _ fun d hd=>?_;obtain⟨ρ1,c,h1,h2,h3⟩:=h d hd;refine⟨ρ1,h1,?_,fun hp=>?_⟩
 ·rw [h1,gb,h2];rfl
 ·rw [h1,gb,h2] at hp
  obtain⟨e,he⟩:=h3 hp;rw [h1,gb,he];rfl
end DL
open PySem PyProof.Rows L2 DL
namespace My
open PySem PyProof.Rows L2 DL
abbrev N'(n:Nat): D:=.int (n:Int)
theorem qmp(a b:Nat)(h:0<b): oMod (N' a) (N' b)=some (N' (a%b)):=by
 rw [jv _ _ (by lia)];rfl
theorem q6b{t:FT}{u:FS}{n:Nat}{ρ : Rho}(h:t ρ = some false): jn t u (n+1) ρ = some (.nx, ρ):=by
 simp only [jn,h,gb,gu,p7]
theorem qe1{t:FT}{u:FS}{n:Nat}{ρ ρ1:Rho}(h:t ρ = some true)(h1:u ρ = some (.nx, ρ1)): jn t u (n+1) ρ = jn t u n ρ1:=by
 simp only [jn,h,h1,gb,pz]
theorem qu3(n:Nat): q5i (N' n)=some (decide (n≠0)):=by
 simp only [q5i]
 congr 1
 by_cases h:n=0
 ·subst h;rfl
 ·rw [ma h,bne_iff_ne];lia
theorem qe2(a b:Nat)(x:Option B): bT (eV 1) [some (.fz (N' a)),some (.fz (N' b)),x]=some (decide (b≠0)):=by
 show(q5i (N' b))=_;exact qu3 b
theorem qrq(a b:Nat)(x:Option B)(h:b≠0): jy [some (.fz (N' a)),some (.fz (N' b)),x]=some (.nx,[some (.fz (N' b)),some (.fz (N' (a%b))),some (.fz (N' (a%b)))]):=by
 unfold jy;simp! [qmp a b (g24 h)]
theorem qp2:∀(k n a b:Nat) (x:Option B),b<2 ^ k->2*k+1<=n->∃y,jn (bT (eV 1)) jy n [some (.fz (N' a)),some (.fz (N' b)),x]=some (.nx,[some (.fz (N' (Nat.gcd a b))),some (.fz (N' 0)),y]):=by
 intro k
 induction k with
 | zero=>
  intro n a b x hb hn;obtain⟨n,rfl⟩:∃m,n=m+1:=⟨n-1,by lia⟩
  have:b=0:=by lia
  subst this;rw [q6b (by rw [qe2];rfl),g3i];exact⟨x,rfl⟩
 | succ k ih=>
  intro n a b x hb hn;obtain⟨n,rfl⟩:∃m,n=m+3:=⟨n-3,by lia⟩
  by_cases h0:b=0
  ·subst h0
   rw [q6b (by rw [qe2];rfl),g3i];exact⟨x,rfl⟩
  ·rw [qe1 (by rw [qe2,ma h0]) (qrq a b x h0)]
   have hr:a%b<b:=g3w _ (g24 h0);have e1:Nat.gcd a b=Nat.gcd b (a%b):=by rw [g4h a b,Nat.gcd_rec b a,g4h]
   rw [e1];generalize a%b=r at *
   by_cases h1:r=0
   ·subst h1
    rw [q6b (by rw [qe2];rfl),g3i];exact⟨_,rfl⟩
   ·rw [qe1 (by rw [qe2,ma h1]) (qrq b r _ h1)]
    have e2:Nat.gcd b r=Nat.gcd r (b%r):=by rw [g4h b r,Nat.gcd_rec r b,g4h]
    rw [e2];refine ih (n+1) r (b%r) _ ?_ (by lia);have h2:b%r<r:=g3w _ (g24 h1);have h3:b%r+r<=b:=by
     have:=Nat.div_add_mod b r;have h4:1<=b / r:=(Nat.one_le_div_iff (g24 h1)).mpr (g17 hr);have h5:r*1<=r*(b / r):=Nat.mul_le_mul_left r h4;lia
    have h6:2 ^ (k+1)=2*2 ^ k:=by rw [Nat.pow_succ];lia
    lia
theorem qt3(a b:Nat)(h:b<2 ^ 128): ji [N' a,N' b]=some (N' (Nat.gcd a b)):=by
 refine ja ?_;obtain⟨y,e⟩:=qp2 128 100000 a b none h (by decide);unfold v8;simp! [e]
theorem isn(n:Nat): zm [N' n]=some (.bl true):=by(refine ja ?_;simp! [q02,ma (show(0:Int)<=(n:Int) by lia)])
theorem q82(T B:Nat)(hB:0<B)(h2:B<2 ^ 128): yp [N' T,N' B]=some (.tup [N' (T / Nat.gcd T B),N' (B / Nat.gcd T B)]):=by
 have hg:0<Nat.gcd T B:=Nat.gcd_pos_of_pos_right _ hB;have hl:Nat.gcd T B<=B:=Nat.gcd_le_right _ hB;have e0:¬(B:Int)=0:=by lia
 have d:∀a:Nat,oDivB (N' a) (N' (Nat.gcd T B))=some (N' (a / Nat.gcd T B)):=fun a=>by
  have hq:(Nat.gcd T B:Int)<2 ^ 128:=by exact_mod_cast g0z hl h2
  rw [q69 _ _ (by lia) (Int.lt_trans hq (by decide))];rfl
 (refine ja ?_;simp! [q40,isn,m6 e0,qt3 T B h2,d])
theorem tms(a b:Nat)(h:a<2 ^ 64): zz (N' a) (N' b)=some (.int ((a:Int)*b)):=kj _ _ (by lia)
theorem qmq(a b c d:Nat)(h1:a<2 ^ 64)(h2:c<2 ^ 64): vt [.tup [N' a,N' b],.tup [N' c,N' d]]=some (.bl (decide ((c:Int)*b<=(a:Int)*d))):=by
 (refine ja ?_;simp! [q1o,tms a d h1,tms c b h2])
theorem qa5(x:Int): ∀b:List Int,inF (.int x) (b.map D.int)=decide (x∈b)
 | []=>rfl
 | y :: b=>by
  show((eqF (.int y) (.int x)) || inF (.int x) (b.map D.int))=_;rw [qa5 x b];show((y==x) || _)=_;rw [ph];simp only [g1p,uc,mx,m4]
  constructor <;> rintro(h|h)
  ·exact .inl h.symm
  ·exact .inr h
  ·exact .inl h.symm
  ·exact .inr h
theorem qaz(b:List Int): (b.map D.int).all flat=true:=by
 rw [g56,g03];intro x _;rfl
theorem qmr(x:Int)(b:List Int): oIn false (.int x) (TI b)=some (.bl (decide (x∈b))):=by
 show(if(flat (.int x)&&(b.map D.int).all flat)=true then some (D.bl (if false=true then !inF (.int x) (b.map D.int) else inF (.int x) (b.map D.int))) else none)=_;rw [qaz,qa5];rfl
def uni(s t:List Int): List Int:=((List.range 12).map fun i:Nat=>(i:Int)).filter fun x=>decide (x∈s\/x∈t)
theorem q6c:∀(s:List Int),(∀x∈s,0<=x/\x<12)->q3h (s.map D.int)=some (s.map Int.toNat)
 | [],_=>rfl
 | x :: s,h=>by
  have hx:=h x gv;show(if 0<=x/\x<12 then(q3h (s.map D.int)).map (x.toNat :: ·) else none)=_;rw [gx hx,q6c s fun y hy=>h y (gy _ hy)]
  rfl
theorem qb0{s:List Int}(h:∀x∈s,0<=x/\x<12)(n:Nat): n∈s.map Int.toNat↔(n:Int)∈s:=by
 constructor
 ·intro hn
  obtain⟨x,hx,e⟩:=md.mp hn;have:=h x hx;have:x=(n:Int):=by omega
  exact this ▸ hx
 ·intro hn
  exact md.mpr ⟨_,hn,by simp⟩
theorem qi1(s t:List Int)(hs:∀x∈s,0<=x/\x<12)(ht:∀x∈t,0<=x/\x<12): qgo (TI s) (TI t)=some ((uni s t).map D.int):=by
 show(q3h (s.map D.int)).bind (fun a=>(q3h (t.map D.int)).bind fun b=>some (((List.range 12).filter fun n=>decide (n∈a\/n∈b)).map fun n=>D.int (n:Nat)))=_;rw [q6c s hs,q6c t ht];show some _=_
 congr 1
 unfold uni;rw [g0y,nr]
 congr 1
 refine g3v fun n _=>?_;show decide (n∈s.map Int.toNat\/n∈t.map Int.toNat)=decide ((n:Int)∈s\/(n:Int)∈t);rw [ph,g3d,g3d,qb0 hs,qb0 ht]
theorem qb1(s t:List Int)(hs:∀x∈s,0<=x/\x<12)(ht:∀x∈t,0<=x/\x<12): yn [TI s,TI t]=some (TI (uni s t)):=by
 have h:=qi1 s t hs ht
 (refine ja ?_;simp! [q2w,qgp,h,xj])
def Bd(rs:List Run): Prop:=∀k,cM rs k<100000000000000
theorem qt4{rs:List Run}(hl:rs.length<=63)(h:∀r∈rs,0<=r.1/\r.1<=1000000000000): Bd rs:=fun k=>by
 have hz:∀q:List Run,(∀r∈q,r.1<=1000000000000)->(q.map (·.1)).sum<=(q.length:Int)*1000000000000:=by
  intro q
  induction q with
  | nil=>intro _;simp
  | cons r q ih=>
   intro hq;have h1:=hq r gv;have h2:=ih fun r hr=>hq r (gy _ hr);rw [gh,g3m,nj]
   push_cast
   omega
 have h1:=hz (rs.filter fun r=>decide (Builtin.bitAnd (mk r.2) (k:Int)=(k:Int))) fun r hr=>(h r (mv.mp hr).1).2;have h2:=n4 (fun r:Run=>decide (Builtin.bitAnd (mk r.2) (k:Int)=(k:Int))) rs;unfold cM;omega
abbrev jm(K:List Nat)(rs:List Run): D:=.dtt (K.map (qm 12)) (K.map fun k=>.int (cM rs k))
structure KOk(K:List Nat)(rs:List Run): Prop where
 nd:K.Nodup
 lt:∀k∈K,k<64
 len:K.length<=64
 pos:∀k∈K,1<=cM rs k
 zero:K≠[]->0∈K
theorem qi2:∀w:Nat,w<7->0∈q0l w:=by decide +kernel
theorem qrr(w:Nat)(hw:w<=6)(rs:List Run)(h:vg rs): KOk (oft w rs 1) rs:=by
 obtain⟨m1,m2,m3⟩:=q3q w (by omega);refine⟨ui _ m2,fun k hk=>qdw hw k (mv.mp hk).1,mh (n4 _ _) m3,fun k hk=>by simpa using(mv.mp hk).2,fun hne=>?_⟩;obtain⟨a,ha⟩:=List.exists_mem_of_ne_nil _ hne;refine mv.mpr ⟨qi2 w (by omega),?_⟩;have h1:1<=cM rs a:=by simpa using(mv.mp ha).2
 have h2:cM rs a<=cM rs 0:=by
  unfold cM;refine q81 _ _ rs (fun r hr=>(h.2 r hr).2.2.1) fun r hr _=>?_;obtain⟨t,ht,e⟩:=(h.2 r hr).2.2.2;have e2:mk r.2=(t:Int):=by rw [e];exact(q0w t ht).2
  rw [mx,e2,qa4,Nat.and_zero]
 rw [mx];omega
theorem qb2(rs:List Run): ∀A:List Nat,q2o (A.map (pairD rs))=some (A.map (qm 12),A.map fun k=>.int (cM rs k))
 | []=>rfl
 | k :: A=>by
  have hi:zy ((qm 12 k).map D.int)=some (qm 12 k):=v5 _;rw [gh];show(zy ((qm 12 k).map D.int)).bind (fun q=>(q2o (A.map (pairD rs))).map fun p=>(q :: p.1,D.int (cM rs k) :: p.2))=_;rw [hi,qb2 rs A]
  rfl
theorem qi3{K:List Nat}{rs:List Run}(h:KOk K rs): q8n [.tup (K.map (pairD rs))]=some (jm K rs):=by
 show(q2o (K.map (pairD rs))).bind (fun p=>if p.1.Nodup/\(K.map (pairD rs)).length<=lim then some (D.dtt p.1 p.2) else none)=_;rw [qb2];show(if(K.map (qm 12)).Nodup/\_ then _ else _)=_;rw [gx ⟨q7c h.nd h.lt,by rw [gr];have:=h.len;show _<=1000000;omega⟩]
theorem qk8{K:List Nat}{rs:List Run}(h:KOk K rs){a:Nat}(ha:a∈K): (K.map fun k=>D.int (cM rs k))[(K.map (qm 12)).idxOf (qm 12 a)]? = some (.int (cM rs a)):=by
 have hm:qm 12 a∈K.map (qm 12):=g00 ha;have hi:=g1g hm;have e:=g3g hi;generalize (K.map (qm 12)).idxOf (qm 12 a)=i at *;rw [List.getElem_map] at e;have hi':i<K.length:=by simpa using hi
 have:=q32 _ (h.lt _ (g0p hi')) a (h.lt a ha) e;rw [gz,m9 hi',mw,this]
theorem q6d{K:List Nat}{rs:List Run}(h:KOk K rs){a:Nat}(ha:a∈K): q34 (jm K rs) (setD a)=some (.int (cM rs a)):=by
 have hi:zy ((qm 12 a).map D.int)=some (qm 12 a):=v5 _;show(zy ((qm 12 a).map D.int)).bind (fun k=>if k∈K.map (qm 12) then(K.map fun k=>D.int (cM rs k))[(K.map (qm 12)).idxOf k]? else none)=_;rw [hi,gb,gx (g00 ha),qk8 h ha]
theorem qi4{K:List Nat}{rs:List Run}(h:KOk K rs)(l:List Int): ∃n:Nat,q4r (jm K rs) [TI l,.int 0]=some (N' n)/\(n=0\/∃a∈K,cM rs a=(n:Int)):=by
 have hi:zy (l.map D.int)=some l:=v5 _;have e:q4r (jm K rs) [TI l,.int 0]=if l∈K.map (qm 12) then(K.map fun k=>D.int (cM rs k))[(K.map (qm 12)).idxOf l]? else some (.int 0):=by
  show(zy (l.map D.int)).bind (fun k=>if k∈K.map (qm 12) then(K.map fun k=>D.int (cM rs k))[(K.map (qm 12)).idxOf k]? else some (.int 0))=_;rw [hi,gb]
 by_cases hm:l∈K.map (qm 12)
 ·obtain⟨a,ha,rfl⟩:=md.mp hm
  have hp:=h.pos a ha;refine⟨(cM rs a).toNat,?_,.inr ⟨a,ha,by omega⟩⟩;rw [e,gx hm,qk8 h ha];show _=some (D.int ((cM rs a).toNat:Int));rw [uz (by omega)]
 ·exact⟨0,by rw [e,m8 hm];rfl,.inl rfl⟩
theorem qrs(a b:List Int)(ha:a.length<=1000): ∃l:List Int,q6t [TI a,TI b]=some (TI l):=by
 have hc:=wx (b:=bN 0) (c:=z6 (oIn false) (eV 0) (eV 1)) (f:=eV 0) (ρ :=[none,some (.fz (TI b))]) (fun d=>match d with | .int x=>decide (x∈b)|_=>false) id (ds:=a.map D.int) fun d hd=>by
  obtain⟨x,hx,rfl⟩:=md.mp hd;exact⟨_,rfl,x8 (x_v rfl) (x_v rfl) (qmr x b),fun _=>x_v rfl⟩
 rw [g4y,g0y] at hc;exact⟨_,vm (y_ret (x_call (qj (x_l (q0v (ds:=a.map D.int) (q31 (x_v rfl) rfl) (by rw [gr];show _<=1000000;omega) hc)) qo) (xj _)))⟩
theorem qi5(a:List Int)(x:Int)(ha:a.length<=1000): ∃l:List Int,wa [TI a,.int x]=some (TI l):=by
 have hc:=wx (b:=bN 0) (c:=z6 q1t (eV 0) (eV 1)) (f:=eV 0) (ρ :=[none,some (.fz (.int x))]) (fun d=>match d with | .int y=> !decide (y=x)|_=>false) id (ds:=a.map D.int) fun d hd=>by
  obtain⟨y,hy,rfl⟩:=md.mp hd;exact⟨_,rfl,x8 (x_v rfl) (x_v rfl) (q45 y x),fun _=>x_v rfl⟩
 rw [g4y,g0y] at hc;exact⟨_,vm (y_ret (x_call (qj (x_l (q0v (ds:=a.map D.int) (q31 (x_v rfl) rfl) (by rw [gr];show _<=1000000;omega) hc)) qo) (xj _)))⟩
theorem eq_nil(l:List Int): ∃c,oEq (TI l) (.tup [])=some (.bl c):=by
 cases l with
 | nil=>exact⟨_,rfl⟩
 | cons x r=>
  have hd:y6 (D.int x :: r.map D.int)<=60:=by
   have:∀q:List Int,y6 (q.map D.int)=0:=by
    intro q
    induction q with
    | nil=>rfl
    | cons y q ih=>rw [gh,y6,ih];rfl
   have h:=this (x :: r);rw [gh] at h;omega
  refine⟨false,?_⟩;show(none:Option D).or (qcb (.tup (.int x :: r.map D.int)) (.tup []))=_;simp [qcb,yu,eqL,hd,gh]
theorem ne_nil(l:List Int): ∃c,q9k (TI l) (.tup [])=some (.bl c):=by
 cases l with
 | nil=>exact⟨_,rfl⟩
 | cons x r=>
  have hd:y6 (D.int x :: r.map D.int)<=60:=by
   have:∀q:List Int,y6 (q.map D.int)=0:=by
    intro q
    induction q with
    | nil=>rfl
    | cons y q ih=>rw [gh,y6,ih];rfl
   have h:=this (x :: r);rw [gh] at h;omega
  refine⟨true,?_⟩;show(none:Option D).or (qcj (.tup (.int x :: r.map D.int)) (.tup []))=_;simp [qcj,yu,eqL,hd,gh]
theorem qe3(K:List Nat): q6q (K.map (qm 12))=K.map setD:=by
 unfold q6q;rw [nr];rfl
theorem qms{K:List Nat}{rs:List Run}(h:KOk K rs)(a:Nat): ∃L:List Nat,yo [setD a,jm K rs]=some (.lst (L.map setD))/\L.Sublist K:=by
 have hl:=q0a 12 a;have hc:=q05 (b:=bN 0) (t:=q1u (z6 q9k (eV 0) (z8 qk)) (z6 oEq (ql (qp 2 [] q6t) (qc (eV 1) (qc (eV 0) qk))) (z8 qk))) (f:=eV 0) (ρ :=[none,some (.fz (setD a))]) (ds:=K.map setD) fun d hd=>by
  obtain⟨k,hk,rfl⟩:=md.mp hd;obtain⟨c,hc⟩:=ne_nil (qm 12 k);obtain⟨l,hm⟩:=qrs (qm 12 a) (qm 12 k) (by omega);obtain⟨c2,hc2⟩:=eq_nil l;have t1:z6 q9k (eV 0) (z8 qk) [some (.fz (setD k)),some (.fz (setD a))]=some c:=x8 (x_v rfl) (ve qo (by decide)) hc;refine⟨[some (.fz (setD k)),some (.fz (setD a))],c&&c2,rfl,?_,fun _=>⟨_,x_v rfl⟩⟩;cases c with
  | false=>exact qdr t1 rfl
  | true=>exact qdq t1 rfl (x8 (zh (qj (x_v rfl) (qj (x_v rfl) qo)) rfl hm) (ve qo (by decide)) hc2)
 rw [g0y,nr] at hc;refine⟨_,vm (y_ret (x_l (q0v (ds:=K.map setD) ?_ (by rw [gr];have:=h.len;show _<=1000000;omega) hc))),List.filter_sublist⟩;show Option.bind (some (jm K rs)) _=_;rw [gb];show some (q6q (K.map (qm 12)))=_;rw [qe3]
theorem qt5{f:FE}{fa:FA}{ρ : Rho}{x d:D}{xs:List D}(h1:f ρ = some x)(h2:fa ρ = some xs)(h3:q4r x xs=some d): qgs f fa ρ = some d:=by unfold qgs;rw [h1,gb,h2,gb,h3]
def q99(d:D)(a b:Nat): Prop:=∃n x y u v:Nat,d=.tup [setD a,setD b,N' n,.tup [N' x,N' y],.tup [N' u,N' v]]/\x<2 ^ 64/\y<2 ^ 64
theorem qe4(k:Nat): ∀x∈qm 12 k,0<=x/\x<12:=fun x hx=>by
 obtain⟨i,rfl,hi⟩:=q80 hx;omega
theorem qk9{K:List Nat}{rs:List Run}(h:KOk K rs)(hB:Bd rs){a b:Nat}(ha:a∈K)(hb:b∈K): ∃d,xa [setD a,setD b,jm K rs]=some d/\q99 d a b:=by
 have h0:0∈K:=h.zero fun e=>by rw [e] at ha;cases ha
 obtain⟨n,en,hn⟩:=qi4 h (uni (qm 12 a) (qm 12 b));have hj:=qb1 (qm 12 a) (qm 12 b) (qe4 a) (qe4 b);have nat:∀k∈K,∃c:Nat,cM rs k=(c:Int)/\1<=c/\c<100000000000000:=fun k hk=>⟨(cM rs k).toNat,by have:=h.pos k hk;omega,by have:=h.pos k hk;omega,by have:=h.pos k hk;have:=hB k;omega⟩
 obtain⟨c0,e0,p0,q0⟩:=nat 0 h0;obtain⟨ca,ea,pa,qa⟩:=nat a ha;obtain⟨cb,eb,pb,qb⟩:=nat b hb;have hnl:n<100000000000000:=by
  rcases hn with rfl|⟨k,hk,e⟩
  ·decide
  ·have:=hB k;omega
 have i0:=q6d h h0;have ia:=q6d h ha;have ib:=q6d h hb;rw [e0] at i0;rw [ea] at ia;rw [eb] at ib;rw [show setD 0=D.tup [] from rfl] at i0;have t1:zz (N' n) (N' c0)=some (N' (n*c0)):=by
  rw [vk _ _ ⟨by omega,by omega⟩];show _=some (D.int ((n*c0:Nat):Int))
  push_cast
  rfl
 have t2:zz (N' ca) (N' cb)=some (N' (ca*cb)):=by
  rw [vk _ _ ⟨by omega,by omega⟩];show _=some (D.int ((ca*cb:Nat):Int))
  push_cast
  rfl
 have hpos:0<ca*cb:=Nat.mul_pos (by omega) (by omega);have hlt:ca*cb<2 ^ 128:=g0z (Nat.mul_le_mul (g17 qa) (g17 qb)) (by decide);have s1:=q82 (n*c0) (ca*cb) hpos hlt;have s2:=q82 n ca (by omega) (g46 qa (by decide));refine⟨_,vm (zl (xi (d:=N' n) ?_) (zl (xi (zh (qj (zc (x_v rfl) (zc (x_v rfl) (ve qo (by decide)) i0) t1) (qj (zc (zc (x_v rfl) (x_v rfl) ia) (zc (x_v rfl) (x_v rfl) ib) t2) qo)) rfl s1)) (y_ret (ve (qj (x_v rfl) (qj (x_v rfl) (qj (x_v rfl) (qj (zh (qj (x_v rfl) (qj (zc (x_v rfl) (x_v rfl) ia) qo)) rfl s2) (qj (x_v rfl) qo))))) (show 5<=1000000 by decide))))),n,_,_,_,_,rfl,?_,?_⟩
 ·exact qt5 (x_v rfl) (qj (zh (qj (x_v rfl) (qj (x_v rfl) qo)) rfl hj) (qj x_c qo)) en
 ·exact g0z (g4r _ _) (by omega)
 ·exact g0z (g4r _ _) (by omega)
abbrev Tr:=(Nat×Nat)×D
structure AccOk(K:List Nat)(acc:List Tr): Prop where
 say:∀t∈acc,q99 t.2 t.1.1 t.1.2
 mem:∀t∈acc,t.1.1∈K/\t.1.2∈K
 nd:(acc.map (·.1)).Nodup
theorem qe5{K:List Nat}{rs:List Run}(h:KOk K rs)(hB:Bd rs){a:Nat}(ha:a∈K): ∀(L:List Nat),(∀b∈L,b∈K)->∃T:List Tr,T.map (·.1)=L.map (fun b=>(a,b))/\(∀t∈T,q99 t.2 t.1.1 t.1.2) /\
  zd (bN 0) zx (ql (qp 3 [] xa) (qc (eV 1) (qc (eV 0) (qc (eV 2) qk)))) [none,some (.fz (setD a)),some (.fz (jm K rs))] (L.map setD)=some (T.map (·.2))
 | [],_=>⟨[],rfl,fun t ht=>(nomatch ht),rfl⟩
 | b :: L,hL=>by
  obtain⟨d,e,hd⟩:=qk9 h hB ha (hL b gv);obtain⟨T,t1,t2,t3⟩:=qe5 h hB ha L fun b hb=>hL b (gy _ hb);refine⟨((a,b),d) :: T,by rw [gh,t1];rfl,fun t ht=>?_,?_⟩
  ·rcases m4.mp ht with rfl|ht
   ·exact hd
   ·exact t2 t ht
  ·have e2:ql (qp 3 [] xa) (qc (eV 1) (qc (eV 0) (qc (eV 2) qk))) [some (.fz (setD b)),some (.fz (setD a)),some (.fz (jm K rs))]=some d:=zh (qj (x_v rfl) (qj (x_v rfl) (qj (x_v rfl) qo))) rfl e
   rw [gh];unfold zd;show Option.bind (some _) _=_;rw [gb];show Option.bind (some true) _=_;rw [gb];simp only [pz];show Option.bind (ql (qp 3 [] xa) (qc (eV 1) (qc (eV 0) (qc (eV 2) qk))) [some (.fz (setD b)),some (.fz (setD a)),some (.fz (jm K rs))]) _=_;rw [e2,gb,t3];rfl
structure AskOk(d:D): Prop where
 is:∃c e:Nat,d=.tup [N' c,N' e]/\c<2 ^ 64
theorem qev{ask:D}(hk:AskOk ask)(L:Int)(T:List Tr)(hT:∀t∈T,q99 t.2 t.1.1 t.1.2): ∃p:D->Bool,
  zd (bN 0) (q1u (z6 oGe (eOp oIx (eV 0) (eC (.int 2))) (eV 1)) (bT (ql (qp 2 [] vt) (qc (eOp oIx (eV 0) (eC (.int 3))) (qc (eV 2) qk))))) (eV 0) [none,some (.fz (.int L)),some (.fz ask)] (T.map (·.2))=some ((T.map (·.2)).filter p):=by
 obtain⟨c,e,rfl,hc⟩:=hk.is;have ht:=q05 (b:=bN 0) (t:=q1u (z6 oGe (eOp oIx (eV 0) (eC (.int 2))) (eV 1)) (bT (ql (qp 2 [] vt) (qc (eOp oIx (eV 0) (eC (.int 3))) (qc (eV 2) qk))))) (f:=eV 0) (ρ :=[none,some (.fz (.int L)),some (.fz (.tup [N' c,N' e]))]) (ds:=T.map fun t:Tr=>t.2) fun d hd=>by
  obtain⟨t,hm,rfl⟩:=md.mp hd;obtain⟨n,x,y,u,v,e1,hx,hy⟩:=hT t hm;rw [e1];refine⟨_,decide (L<=(n:Int))&&decide ((c:Int)*y<=(x:Int)*e),rfl,?_,fun _=>⟨_,x_v rfl⟩⟩;have t1:z6 oGe (eOp oIx (eV 0) (eC (.int 2))) (eV 1) [some (.fz (.tup [setD t.1.1,setD t.1.2,N' n,.tup [N' x,N' y],.tup [N' u,N' v]])),some (.fz (.int L)),some (.fz (.tup [N' c,N' e]))]=some (decide (L<=(n:Int))):=x8 (zc (x_v rfl) x_c (z:=N' n) rfl) (x_v rfl) (qa1 _ _);cases hq:decide (L<=(n:Int)) with
  | false=>
   rw [hq] at t1;exact qdr t1 rfl
  | true=>
   rw [hq] at t1;exact qdq t1 rfl (q19 (zh (qj (zc (x_v rfl) x_c (z:=.tup [N' x,N' y]) rfl) (qj (x_v rfl) qo)) rfl (qmq x y c e hx hc)) rfl)
 have ei:(fun d=>((bN 0 d [none,some (B.fz (.int L)),some (.fz (.tup [N' c,N' e]))]).bind (eV 0)).getD D.non)=id:=by funext d;rfl
 rw [ei,g4y] at ht;exact⟨_,ht⟩
theorem qi6(p:D->Bool)(T:List Tr): (T.map (·.2)).filter p=(T.filter fun t=>p t.2).map (·.2):=by
 rw [g0y];rfl
theorem q6e{K:List Nat}{rs:List Run}(h:KOk K rs)(hB:Bd rs){ask:D}(hk:AskOk ask)(L:Int)(x0 x2:Option B): ∀(q:List Nat) (dn:List Nat) (acc:List Tr) (b6 b7:Option B),dn++q=K->AccOk K acc->(∀t∈acc,t.1.1∈dn)->acc.length<=dn.length*64 ->
  ∃(acc':List Tr) (b6' b7':Option B),runFor (bN 6) q30 (q.map setD) [x0,some (.fz (.int L)),x2,some (.fz ask),some (.fz (jm K rs)),some (.ow (acc.map (·.2))),b6,b7] =
   some (.nx,[x0,some (.fz (.int L)),x2,some (.fz ask),some (.fz (jm K rs)),some (.ow (acc'.map (·.2))),b6',b7'])/\AccOk K acc'/\acc'.length<=4096/\((b7'=none\/∃d,b7'=some (.fz d))\/b7'=b7)
 | [],dn,acc,b6,b7,e,hA,hd,hl=>⟨acc,b6,b7,rfl,hA,by
   rw [pk] at e;have:=h.len;rw [<- e] at this;omega,.inr rfl⟩
 | a :: q,dn,acc,b6,b7,e,hA,hd,hl=>by
  have hKl:=h.len;have ha:a∈K:=by rw [<- e];simp
  obtain⟨W,ew,hsub⟩:=qms h a;obtain⟨T,t1,t2,t3⟩:=qe5 h hB ha W fun b hb=>hsub.subset hb;obtain⟨p,hp⟩:=qev hk L T t2;have hTl:T.length<=64:=by
   have:=t4 List.length t1;rw [gr,gr] at this;have:=hsub.length_le;omega
  have hdl:dn.length+(q.length+1)=K.length:=by rw [<- e,mn,nj]
  have nd:=h.nd;rw [<- e] at nd;have hna:a∉dn:=fun z=>(List.nodup_append.mp nd).2.2 a z a gv rfl;have hTf:∀t∈T,t.1.1=a/\t.1.2∈W:=fun t ht=>by
   have:t.1∈W.map (fun b=>(a,b)):=by rw [<- t1];exact g00 ht
   obtain⟨b,hb,eb⟩:=md.mp this;rw [<- eb];exact⟨rfl,hb⟩
  have hA':AccOk K (acc++T.filter fun t=>p t.2):=by
   refine⟨fun t ht=>?_,fun t ht=>?_,?_⟩
   ·rcases nh.mp ht with ht|ht
    ·exact hA.say t ht
    ·exact t2 t (mv.mp ht).1
   ·rcases nh.mp ht with ht|ht
    ·exact hA.mem t ht
    ·obtain⟨z1,z2⟩:=hTf t (mv.mp ht).1
     exact⟨by rw [z1];exact ha,hsub.subset z2⟩
   ·rw [nv,List.nodup_append]
    refine⟨hA.nd,?_,fun x hx y hy exy=>?_⟩
    ·refine List.Nodup.sublist (List.Sublist.map _ (List.filter_sublist (p:=fun t:Tr=>p t.2) (l:=T))) ?_
     rw [t1,List.Nodup,g0i];exact(List.Nodup.sublist hsub h.nd).imp fun hne z=>hne (by injection z)
    ·obtain⟨t,ht,rfl⟩:=md.mp hx
     obtain⟨t',ht',rfl⟩:=md.mp hy;have h1:=hd t ht;obtain⟨z1,_⟩:=hTf t' (mv.mp ht').1;rw [exy,z1] at h1;exact hna h1
  have hfl:(T.filter fun t=>p t.2).length<=64:=mh (n4 _ _) hTl;obtain⟨acc',c6,c7,ih,i1,i2,i3⟩:=q6e h hB hk L x0 x2 q (dn++[a]) (acc++T.filter fun t=>p t.2) (some (.fz (setD a))) (some (.fz (.lst (T.map (·.2))))) (by rw [g0h];exact e) hA' (fun t ht=>by
   rcases nh.mp ht with ht|ht
   ·exact g0k _ (hd t ht)
   ·rw [(hTf t (mv.mp ht).1).1];simp) (by rw [mn,mn,g2m];omega)
  refine⟨acc',c6,c7,?_,i1,i2,?_⟩
  ·rw [gh]
   refine(wc (ρ1:=[x0,some (.fz (.int L)),x2,some (.fz ask),some (.fz (jm K rs)),some (.ow (acc.map (·.2))),some (.fz (setD a)),b7]) (ρ2:=[x0,some (.fz (.int L)),x2,some (.fz ask),some (.fz (jm K rs)),some (.ow ((acc++T.filter fun t=>p t.2).map (·.2))),some (.fz (setD a)),some (.fz (.lst (T.map (·.2))))]) rfl ?_).trans ih;refine qbl (qn7 (ds:=T.map fun t:Tr=>t.2) (q0v (ds:=W.map setD) (q31 (zh (qj (x_v rfl) (qj (x_v rfl) qo)) rfl ew) rfl) (by rw [gr];have:=hsub.length_le;show _<=1000000;omega) t3)) ?_;unfold q12;show q9j 5 _ [x0,some (.fz (.int L)),x2,some (.fz ask),some (.fz (jm K rs)),some (.ow (acc.map (·.2))),some (.fz (setD a)),some (.fz (.lst (T.map (·.2))))]=_;have hl2:eL (zp (vi (eV 7)) [none,some 1,some 3] (bN 0) (q1u (z6 oGe (eOp oIx (eV 0) (eC (.int 2))) (eV 1)) (bT (ql (qp 2 [] vt) (qc (eOp oIx (eV 0) (eC (.int 3))) (qc (eV 2) qk))))) (eV 0)) [x0,some (.fz (.int L)),x2,some (.fz ask),some (.fz (jm K rs)),some (.ow (acc.map (·.2))),some (.fz (setD a)),some (.fz (.lst (T.map (·.2))))]=some (.lst ((T.filter fun t=>p t.2).map (·.2))):=by
    rw [<- qi6];exact x_l (q0v (ds:=T.map fun t:Tr=>t.2) (q31 (x_v rfl) rfl) (by rw [gr];show _<=1000000;omega) hp)
   unfold q9j;rw [hl2];show Option.bind (some (acc.map (·.2))) _=_;rw [gb,gb];simp only [gr];rw [gx (by show _<=1000000;omega),nv];rfl
  ·rcases i3 with i3|i3
   ·exact .inl i3
   ·exact .inl (.inr ⟨_,i3⟩)
theorem qew(a b w:Nat)(hw:w<=12): ∃l:List D,xo [setD a,setD b,.int (w:Int)]=some (.lst l)/\l.length<=12/\∀d∈l,∃x y:List Int,d=.tup [TI x,TI y]:=by
 have la:=q0a 12 a;have lb:=q0a 12 b;have inn:∀(x:Int),oIn true (.int x) (setD b)=some (.bl (!decide (x∈qm 12 b))):=fun x=>by
  show(if(flat (.int x)&&((qm 12 b).map D.int).all flat)=true then some (D.bl (if true=true then !inF (.int x) ((qm 12 b).map D.int) else inF (.int x) ((qm 12 b).map D.int))) else none)=_;rw [qaz,qa5];rfl
 have el:∀i:Nat,i<12->∃x y:List Int,z8 (qc (ql (qp 2 [] wa) (qc (eV 1) (qc (eV 0) qk))) (qc (ql (qp 2 [] yn) (qc (eV 2) (qc (z8 (qc (eV 0) qk)) qk))) qk)) [some (.fz (.int (i:Int))),some (.fz (setD a)),some (.fz (setD b))]=some (.tup [TI x,TI y]):=fun i hi=>by
  obtain⟨x,hx⟩:=qi5 (qm 12 a) (i:Int) (by omega);have hy:=qb1 (qm 12 b) [(i:Int)] (qe4 b) (by intro z hz;rw [tf.mp hz];omega);exact⟨x,_,ve (qj (zh (qj (x_v rfl) (qj (x_v rfl) qo)) rfl hx) (qj (zh (qj (x_v rfl) (qj (ve (qj (x_v rfl) qo) (show 1<=1000000 by decide)) qo)) rfl hy) qo)) (show 2<=1000000 by decide)⟩
 have hc:=q05 (b:=bN 0) (t:=z6 (oIn true) (eV 0) (eV 2)) (f:=z8 (qc (ql (qp 2 [] wa) (qc (eV 1) (qc (eV 0) qk))) (qc (ql (qp 2 [] yn) (qc (eV 2) (qc (z8 (qc (eV 0) qk)) qk))) qk))) (ρ :=[none,some (.fz (setD a)),some (.fz (setD b))]) (ds:=zg 0 w) fun d hd=>by
  obtain⟨i,hi,rfl⟩:=md.mp hd;have hi:=ti.mp hi;rw [show(0:Int)+(i:Int)=(i:Int) by omega];obtain⟨x,y,e⟩:=el i (by omega);exact⟨_,_,rfl,x8 (x_v rfl) (x_v rfl) (inn _),fun _=>⟨_,e⟩⟩
 refine⟨_,vm (y_ret (x_l (q0v (ds:=zg 0 w) (q6v _ _ (w:Int) (qj (x_v rfl) qo) (by omega) (by omega)) (by rw [q29];show _<=1000000;omega) hc))),?_,fun d hd=>?_⟩
 ·rw [gr]
  refine mh (n4 _ _) ?_;rw [q29];exact hw
 ·obtain⟨z,hz,rfl⟩:=md.mp hd
  obtain⟨i,hi,rfl⟩:=md.mp (mv.mp hz).1;have hi:=ti.mp hi;rw [show(0:Int)+(i:Int)=(i:Int) by omega];obtain⟨x,y,e⟩:=el i (by omega);refine⟨x,y,?_⟩;show(Option.bind (some [some (B.fz (.int (i:Int))),some (.fz (setD a)),some (.fz (setD b))]) _).getD D.non=_;rw [gb,e];rfl
theorem qe6(x y:List Int)(ks:List (List Int×List Int)): q26 (.tup [TI x,TI y]) (.dt2 ks)=some (.bl (decide ((x,y)∈ks))):=by
 have hx:zy (x.map D.int)=some x:=v5 _;have hy:zy (y.map D.int)=some y:=v5 _;show(zy (x.map D.int)).bind (fun k1=>(zy (y.map D.int)).map fun k2=>D.bl (decide ((k1,k2)∈ks)))=_;rw [hx,hy];rfl
theorem qi7{d:D}{a b:Nat}(hd:q99 d a b)(ks:List (List Int×List Int))(w:Nat)(hw:w<=12): ∃c,q0h [d,.dt2 ks,.int (w:Int)]=some (.bl c):=by
 obtain⟨n,x,y,u,v,rfl,_,_⟩:=hd;obtain⟨l,el,hl,hm⟩:=qew a b w hw;have hc:=q1d (b:=bN 0) (f:=eOp q26 (eV 0) (eV 1)) (ρ :=[none,some (.fz (.dt2 ks))]) (fun d=>match d with | .tup [.tup x,.tup y]=>(q26 (.tup [.tup x,.tup y]) (.dt2 ks)).getD .non|_=>.non) (ds:=l) fun d hd=>by
  obtain⟨x,y,rfl⟩:=hm d hd;refine⟨_,rfl,zc (x_v rfl) (x_v rfl) ?_⟩;show _=some ((q26 (.tup [TI x,TI y]) (.dt2 ks)).getD .non);rw [qe6];rfl
 have hb:∃bs:List Bool,(l.map fun d=>match d with | .tup [.tup x,.tup y]=>(q26 (.tup [.tup x,.tup y]) (.dt2 ks)).getD .non|_=>.non)=bs.map D.bl:=by
  clear hc el hl
  induction l with
  | nil=>exact⟨[],rfl⟩
  | cons d l ih=>
   obtain⟨bs,e⟩:=ih fun d hd=>hm d (gy _ hd);obtain⟨x,y,rfl⟩:=hm d gv;refine⟨decide ((x,y)∈ks) :: bs,?_⟩;rw [gh,e,gh]
   congr 1
   show(q26 (.tup [TI x,TI y]) (.dt2 ks)).getD .non=_;rw [qe6];rfl
 obtain⟨bs,eb⟩:=hb;rw [eb] at hc;exact⟨_,vm (y_ret (x_call (qj (x_l (q0v (ds:=l) (q31 (zh (qj (zc (x_v rfl) x_c (z:=setD a) rfl) (qj (zc (x_v rfl) x_c (z:=setD b) rfl) (qj (x_v rfl) qo))) rfl el) rfl) (by show _<=1000000;omega) hc)) qo) (qhu bs)))⟩
theorem qe7:∀acc:List Tr,q4t (acc.map fun t=>D.tup [.tup [setD t.1.1,setD t.1.2],.bl true])=some (acc.map fun t=>(qm 12 t.1.1,qm 12 t.1.2))
 | []=>rfl
 | t :: acc=>by
  have h1:zy ((qm 12 t.1.1).map D.int)=some (qm 12 t.1.1):=v5 _;have h2:zy ((qm 12 t.1.2).map D.int)=some (qm 12 t.1.2):=v5 _;rw [gh];show(zy ((qm 12 t.1.1).map D.int)).bind (fun k1=>(zy ((qm 12 t.1.2).map D.int)).bind fun k2=>(q4t (acc.map fun t=>D.tup [.tup [setD t.1.1,setD t.1.2],.bl true])).map fun p=>(k1,k2) :: p)=_;rw [h1,h2,qe7 acc];rfl
theorem qex{K:List Nat}{rs:List Run}(h:KOk K rs)(acc:List Tr)(hA:AccOk K acc)(hl:acc.length<=4096)(w:Nat)(hw:w<=12): ∃ds,j7 [.lst (acc.map (·.2)),.int (w:Int)]=some (.tup ds):=by
 have c1:zd (bN 0) zx (z8 (qc (z8 (qc (eOp oIx (eV 0) (eC (.int 0))) (qc (eOp oIx (eV 0) (eC (.int 1))) qk))) (qc (eC (.bl true)) qk))) [none] (acc.map (·.2))=some (acc.map fun t=>D.tup [.tup [setD t.1.1,setD t.1.2],.bl true]):=by
  have:=q05 (b:=bN 0) (t:=zx) (f:=z8 (qc (z8 (qc (eOp oIx (eV 0) (eC (.int 0))) (qc (eOp oIx (eV 0) (eC (.int 1))) qk))) (qc (eC (.bl true)) qk))) (ρ :=[none]) (ds:=acc.map fun t:Tr=>t.2) fun d hd=>by
   obtain⟨t,ht,rfl⟩:=md.mp hd;obtain⟨n,x,y,u,v,e,_,_⟩:=hA.say t ht;rw [e];exact⟨_,true,rfl,rfl,fun _=>⟨_,ve (qj (ve (qj (zc (x_v rfl) x_c (z:=setD t.1.1) rfl) (qj (zc (x_v rfl) x_c (z:=setD t.1.2) rfl) qo)) (show 2<=1000000 by decide)) (qj x_c qo)) (show 2<=1000000 by decide)⟩⟩
  rw [this]
  congr 1
  have hft:(acc.map fun t:Tr=>t.2).filter (fun d=>((bN 0 d [none]).bind zx).getD false)=acc.map fun t:Tr=>t.2:=List.filter_eq_self.mpr fun _ _=>rfl;rw [hft,nr];refine g34 fun t ht=>?_;obtain⟨n,x,y,u,v,e,_,_⟩:=hA.say t ht;show((bN 0 t.2 [none]).bind _).getD D.non=_;rw [e];rfl
 have hnd:(acc.map fun t=>(qm 12 t.1.1,qm 12 t.1.2)).Nodup:=by
  have:=hA.nd;rw [List.Nodup,g0i] at this ⊢;refine g1z (fun {t t'} ht ht' hne e=>hne ?_) this;injection e with e1 e2
  have m1:=hA.mem t ht;have m2:=hA.mem t' ht';have q1:=q32 _ (h.lt _ m1.1) _ (h.lt _ m2.1) e1;have q2:=q32 _ (h.lt _ m1.2) _ (h.lt _ m2.2) e2;exact Prod.ext q1 q2
 have hd:q8q [.lst (acc.map fun t=>D.tup [.tup [setD t.1.1,setD t.1.2],.bl true])]=some (.dt2 (acc.map fun t=>(qm 12 t.1.1,qm 12 t.1.2))):=by
  show(q4t (acc.map fun t=>D.tup [.tup [setD t.1.1,setD t.1.2],.bl true])).bind (fun p=>if p.Nodup/\(acc.map fun t=>D.tup [.tup [setD t.1.1,setD t.1.2],.bl true]).length<=lim then some (D.dt2 p) else none)=_;rw [qe7,gb,gx ⟨hnd,by rw [gr];show _<=1000000;omega⟩]
 generalize (acc.map fun t=>(qm 12 t.1.1,qm 12 t.1.2))=ks at hd;have c2:=q05 (b:=bN 0) (t:=zx) (f:=eOp zq (eV 0) (z8 (qc (ql (qp 3 [] q0h) (qc (eV 0) (qc (eV 1) (qc (eV 2) qk)))) qk))) (ρ :=[none,some (.fz (.dt2 ks)),some (.fz (.int (w:Int)))]) (ds:=acc.map fun t:Tr=>t.2) fun d hd=>by
  obtain⟨t,ht,rfl⟩:=md.mp hd;obtain⟨c,hc⟩:=qi7 (hA.say t ht) ks w hw;obtain⟨n,x,y,u,v,e,_,_⟩:=hA.say t ht;rw [e] at hc ⊢;exact⟨_,true,rfl,rfl,fun _=>⟨.tup ([setD t.1.1,setD t.1.2,N' n,.tup [N' x,N' y],.tup [N' u,N' v]]++[.bl c]),zc (x_v rfl) (ve (qj (zh (qj (x_v rfl) (qj (x_v rfl) (qj (x_v rfl) qo))) rfl hc) qo) (show 1<=1000000 by decide)) rfl⟩⟩
 exact⟨_,vm (zl (xi (x_call (qj (x_l (q0v (ds:=acc.map fun t:Tr=>t.2) (q31 (x_v rfl) rfl) (by rw [gr];show _<=1000000;omega) c1)) qo) hd)) (y_ret (x_call (qj (x_l (q0v (ds:=acc.map fun t:Tr=>t.2) (q31 (x_v rfl) rfl) (by rw [gr];show _<=1000000;omega) c2)) qo) (xj _))))⟩
abbrev xNS:XV:=("NoShare",none)
abbrev xTG(n:Int): XV:=("TooGreat",some ("most",n))
theorem bound_none:jl [.non]=some (.tup [N' 1,N' 2])/\x_bound_of [.non]=none:=⟨rfl,rfl⟩
theorem qp3(c e:Nat)(he:0<e): x_share [N' c,N' e]=none:=by
 have t:bOr (kl (bT (ql (qp 1 [] zm) (qc (eV 0) qk)))) (bOr (kl (bT (ql (qp 1 [] zm) (qc (eV 1) qk)))) (z6 oEq (eV 1) (eC (.int 0)))) [some (.fz (N' c)),some (.fz (N' e)),none]=some false:=
  wy (q1q (q19 (zh (qj (x_v rfl) qo) rfl (isn c)) rfl)) rfl (wy (q1q (q19 (zh (qj (x_v rfl) qo) rfl (isn e)) rfl)) rfl (by
   rw [x8 (c:=decide ((e:Int)=0)) (x_v rfl) x_c (q44 _ _),m6 (by omega)]))
 unfold x_share q2b;show Option.map (·.1) (ko _ _ _ [some (.fz (N' c)),some (.fz (N' e)),none])=_;simp only [ko,xIf,t,gb,gu,p7,k6,sIf,xl,g1e]
 rfl
theorem q6y(d1 d2:D): x_bound_of [.tup [d1,d2]]=x_share [d1,d2]:=by
 unfold x_bound_of q0q;show Option.map (·.1) (ko _ _ _ [some (.fz (.tup [d1,d2]))])=_;have t1:z6 (oIs false) (eV 0) (eC .non) [some (.fz (.tup [d1,d2]))]=some false:=rfl;have t2:bOr (kl (bT (q1w .tuple (eV 0)))) (z6 q1t (ql km (qc (eV 0) qk)) (eC (.int 2))) [some (.fz (.tup [d1,d2]))]=some false:=rfl;have t3:q24 2 x_share (qc (eOp oIx (eV 0) (eC (.int 0))) (qc (eOp oIx (eV 0) (eC (.int 1))) qk)) [some (.fz (.tup [d1,d2]))]=(x_share [d1,d2]).map fun p=>(p,[some (.fz (.tup [d1,d2]))]):=rfl;simp only [ko,xIf,t1,t2,t3,gb,gu,p7,k6,sIf,xl,g1e];cases x_share [d1,d2] <;> rfl
theorem q6f(c e:Nat)(he:0<e)(hc:c<2 ^ 60)(he2:e<2 ^ 60): ∃ask,jl [.tup [N' c,N' e]]=some ask/\AskOk ask/\x_bound_of [.tup [N' c,N' e]]=none:=by
 have s:=q82 c e he (g46 he2 (by decide));refine⟨_,vm (zl (y9 (x8 (x_v rfl) x_c (c:=false) rfl) rfl ya) (zl (y9 (wy (q1q (q19 (qbk (x_v rfl)) rfl)) rfl (x8 (x_call (qj (x_v rfl) qo) (q6w _)) x_c (q45 _ _))) rfl ya) (y_ret (zh (qj (zc (x_v rfl) x_c (z:=N' c) rfl) (qj (zc (x_v rfl) x_c (z:=N' e) rfl) qo)) rfl s)))),⟨⟨_,_,rfl,g0z (g4r _ _) (g46 hc (by decide))⟩⟩,?_⟩;rw [q6y,qp3 c e he]
theorem qmt:AskOk (.tup [N' 1,N' 2]):=⟨⟨1,2,rfl,by decide⟩⟩
theorem qi8(w:Nat)(hw:w<=6)(rs:List Run)(h:vg rs)(hB:Bd rs)(L:Int){b ask:D}(hb:jl [b]=some ask)(hk:AskOk ask): ∃ds,zo [jq w rs,.int L,b]=some (.tup ds):=by
 have hK:=qrr w hw rs h;have ho:=qmo w hw rs 1 h;obtain⟨acc,b6,b7,el,hA,hl,h7⟩:=q6e hK hB hk L (some (.fz (jq w rs))) (some (.fz b)) (oft w rs 1) [] [] none none rfl ⟨fun t ht=>(nomatch ht),fun t ht=>(nomatch ht),by simp⟩ (fun t ht=>(nomatch ht)) (pj _);obtain⟨ds,em⟩:=qex hK acc hA hl w (by omega);refine⟨ds,?_⟩;have em2:q9l "Growing" 3 jo (eC (.obj "Growing")) (qc (eV 0) (qc (eC (.int 1)) qk)) [some (.fz (jq w rs)),some (.fz (.int L)),some (.fz b),some (.fz ask),none,none,none,none]=some (.tup ((oft w rs 1).map (pairD rs))):=by
  unfold q9l;rw [show eC (D.obj "Growing") [some (.fz (jq w rs)),some (.fz (.int L)),some (.fz b),some (.fz ask),none,none,none,none]=some (D.obj "Growing") from rfl,gb,qj (ρ :=[some (.fz (jq w rs)),some (.fz (.int L)),some (.fz b),some (.fz ask),none,none,none,none]) (x_v (i:=0) rfl) (qj x_c qo),gb,qn9];exact ho
 have hit:qgr (eV 4) [some (.fz (jq w rs)),some (.fz (.int L)),some (.fz b),some (.fz ask),some (.fz (jm (oft w rs 1) rs)),some (.ow []),none,none]=some ((oft w rs 1).map setD):=by
  show some (q6q _)=_;rw [qe3]
 refine vm ?_;refine zl (xi (zh (qj (x_v rfl) qo) rfl hb)) ?_;refine zl (y9 (x8 (zc (x_v rfl) x_c (z:=.int (w:Int)) rfl) x_c (q2d _ _)) (m6 (by omega)) ya) ?_;refine zl (xi (x_call (qj em2 qo) (qi3 hK))) ?_;refine zl (qn7 (yf qo (by decide))) ?_;refine zl (qn8 hit el) ?_;have hf7:frz 7 [some (.fz (jq w rs)),some (.fz (.int L)),some (.fz b),some (.fz ask),some (.fz (jm (oft w rs 1) rs)),some (.ow (acc.map (·.2))),b6,b7]=[some (.fz (jq w rs)),some (.fz (.int L)),some (.fz b),some (.fz ask),some (.fz (jm (oft w rs 1) rs)),some (.ow (acc.map (·.2))),b6,b7]:=by
  rcases h7 with(rfl|⟨d,rfl⟩)|rfl <;> rfl
 refine qna hf7 (qna rfl ?_);exact y_ret (zh (qj (x_v rfl) (qj (zc (x_v rfl) x_c (z:=.int (w:Int)) rfl) qo)) rfl em)
theorem qey{p l b:D}(h:x_bound_of [b]=some xNS): x_sayings [p,l,b]=some xNS:=by
 unfold x_sayings q0j;show Option.map (·.1) (ko _ _ _ [some (.fz p),some (.fz l),some (.fz b),none,none,none,none,none])=_;have hx:q24 1 x_bound_of (qc (eV 2) qk) [some (.fz p),some (.fz l),some (.fz b),none,none,none,none,none]=some (xNS,[some (.fz p),some (.fz l),some (.fz b),none,none,none,none,none]):=by
  show Option.map _ (x_bound_of [b])=_;rw [h];rfl
 simp only [ko,hx,g1d]
 rfl
theorem qb3{w:Int}{r l b ask:D}(h1:x_bound_of [b]=none)(h2:jl [b]=some ask): x_sayings [.tup [.int w,r],l,b]=if 8<w then some (xTG 8) else none:=by
 unfold x_sayings q0j;show Option.map (·.1) (ko _ _ _ [some (.fz (.tup [.int w,r])),some (.fz l),some (.fz b),none,none,none,none,none])=_;have hx:q24 1 x_bound_of (qc (eV 2) qk) [some (.fz (.tup [.int w,r])),some (.fz l),some (.fz b),none,none,none,none,none]=none:=by
  show Option.map _ (x_bound_of [b])=_;rw [h1];rfl
 have s1:zi 3 (ql (qp 1 [] jl) (qc (eV 2) qk)) [some (.fz (.tup [.int w,r])),some (.fz l),some (.fz b),none,none,none,none,none]=some (.nx,[some (.fz (.tup [.int w,r])),some (.fz l),some (.fz b),some (.fz ask),none,none,none,none]):=xi (zh (qj (x_v rfl) qo) rfl h2);have t1:z6 oGt (eOp oIx (eV 0) (eC (.int 0))) (eC (.int 8)) [some (.fz (.tup [.int w,r])),some (.fz l),some (.fz b),some (.fz ask),none,none,none,none]=some (decide (8<w)):=x8 (zc (x_v rfl) x_c (z:=.int w) rfl) x_c (q2d _ _)
 by_cases h8:8<w
 ·rw [ma h8] at t1
  rw [gx h8];simp only [ko,xIf,hx,s1,t1,gb,pz,k6,g1e]
  rfl
 ·rw [m6 h8] at t1
  rw [m8 h8];simp only [ko,xIf,hx,s1,t1,gb,gu,p7,k6,sIf,xl,g1e]
  rfl
theorem qka(b:D): ∃c,oIs false b .non=some (.bl c)/\(c=true->b=.non):=by
 cases b <;> first|exact⟨_,rfl,fun _=>rfl⟩|exact⟨false,rfl,fun h=>(nomatch h)⟩
theorem qi9(p l b:D)(q:Rho): xIf (z6 (oIs false) (eV 2) (eC .non)) (qd2 3 [.non] x_sayings (qc (eV 0) (qc (eV 1) qk))) (q24 3 x_sayings (qc (eV 0) (qc (eV 1) (qc (eV 2) qk)))) (some (.fz p) :: some (.fz l) :: some (.fz b) :: q)=(x_sayings [p,l,b]).map fun z=>(z,some (.fz p) :: some (.fz l) :: some (.fz b) :: q):=by
 obtain⟨c,h1,h2⟩:=qka b;have t:z6 (oIs false) (eV 2) (eC .non) (some (.fz p) :: some (.fz l) :: some (.fz b) :: q)=some c:=x8 (x_v rfl) x_c h1;unfold xIf;rw [t,gb];cases c with
 | true=>rw [gx rfl,h2 rfl];rfl
 | false=>rw [m8 (by decide)];rfl
theorem qt6(p l b d:D)(q:Rho)(h:zo [p,l,b]=some d): sIf (z6 (oIs false) (eV 2) (eC .non)) (q33 (ql (qp 3 [.non] zo) (qc (eV 0) (qc (eV 1) qk)))) (q33 (ql (qp 3 [] zo) (qc (eV 0) (qc (eV 1) (qc (eV 2) qk))))) (some (.fz p) :: some (.fz l) :: some (.fz b) :: q)=some (.nx,some (.fz p) :: some (.fz l) :: some (.fz b) :: q):=by
 obtain⟨c,h1,h2⟩:=qka b;have t:z6 (oIs false) (eV 2) (eC .non) (some (.fz p) :: some (.fz l) :: some (.fz b) :: q)=some c:=x8 (x_v rfl) x_c h1;unfold sIf;rw [t,gb];cases c with
 | true=>
  have hb:=h2 rfl;subst hb;rw [gx rfl];have e:ql (qp 3 [.non] zo) (qc (eV 0) (qc (eV 1) qk)) (some (.fz p) :: some (.fz l) :: some (.fz .non) :: q)=some d:=x_call (qj (x_v rfl) (qj (x_v rfl) qo)) (by show(if([p,l]++[D.non]).length=3 then zo ([p,l]++[D.non]) else none)=_;rw [gx (by rfl:([p,l]++[D.non]).length=3)];exact h);unfold q33;rw [e];rfl
 | false=>
  rw [m8 (by decide)];have e:ql (qp 3 [] zo) (qc (eV 0) (qc (eV 1) (qc (eV 2) qk))) (some (.fz p) :: some (.fz l) :: some (.fz b) :: q)=some d:=zh (qj (x_v rfl) (qj (x_v rfl) (qj (x_v rfl) qo))) rfl h;unfold q33;rw [e];rfl
theorem qmu{p l b d:D}(h1:x_sayings [p,l,b]=none)(h2:zo [p,l,b]=some d): j5 [p,l,b]=some (.lst [.lst [],.non]):=by
 refine vm (zl (xi (x_l (yf qo (by decide)))) (zl (xi x_c) (zl (ρ1:=[some (.fz p),some (.fz l),some (.fz b),some (.fz (.lst [])),some (.fz .non),none,none]) ?_ (y_ret (x_l (yf (qj (x_v rfl) (qj (x_v rfl) qo)) (show 2<=1000000 by decide)))))));show q25 _ _ _ _ [some (.fz p),some (.fz l),some (.fz b),some (.fz (.lst [])),some (.fz .non),none,none]=_;unfold q25;rw [qi9,h1];exact qt6 p l b d _ h2
theorem qb4{p l b:D}(h1:x_sayings [p,l,b]=some (xTG 8)): j5 [p,l,b]=some (.lst [.lst [.str "great",.bl true,.bl false],.int 8]):=by
 refine vm (zl (xi (x_l (yf qo (by decide)))) (zl (xi x_c) (zl (ρ1:=[some (.fz p),some (.fz l),some (.fz b),some (.fz (.lst [.str "great",.bl true,.bl false])),some (.fz (.int 8)),none,some (.fz (.bl false))]) ?_ (y_ret (x_l (yf (qj (x_v rfl) (qj (x_v rfl) qo)) (show 2<=1000000 by decide)))))));show q25 _ _ _ _ [some (.fz p),some (.fz l),some (.fz b),some (.fz (.lst [])),some (.fz .non),none,none]=_;unfold q25;rw [qi9,h1]
 rfl
theorem qkb{p l b:D}(h1:x_sayings [p,l,b]=some xNS): j5 [p,l,b]=some (.lst [.lst [.str "share",.bl true,.bl false],.non]):=by
 refine vm (zl (xi (x_l (yf qo (by decide)))) (zl (xi x_c) (zl (ρ1:=[some (.fz p),some (.fz l),some (.fz b),some (.fz (.lst [.str "share",.bl true,.bl false])),some (.fz .non),none,some (.fz (.bl false))]) ?_ (y_ret (x_l (yf (qj (x_v rfl) (qj (x_v rfl) qo)) (show 2<=1000000 by decide)))))));show q25 _ _ _ _ [some (.fz p),some (.fz l),some (.fz b),some (.fz (.lst [])),some (.fz .non),none,none]=_;unfold q25;rw [qi9,h1]
 rfl
theorem qrt(n:Int): ∃d,wb [.int n]=some d/\zm [d]=some (.bl false):=by
 have hp:oPow (.int 10) (.int 12)=some (.int 1000000000000):=by
  rw [q56 10 12 (by decide) (by decide) (by decide)];rfl
 have hneg:∀i:Int,i<0->zm [.int i]=some (.bl false):=fun i hi=>by
  refine vm (y_ret (qa2 (qbk (x_v rfl)) rfl (qa2 (qsz (qbk (x_v rfl))) rfl (zc (x_v rfl) x_c ?_))));rw [qa1,m6 (by omega)]
 have h8:n%8=0\/n%8=1\/n%8=2\/n%8=3\/n%8=4\/n%8=5\/n%8=6\/n%8=7:=by omega
 have m:=pq (n / 8) (show(1000000000000:Int)≠0 by decide);have go:∀d,oIx (.lst [.bl true,.bl false,.non,.str "1",.tup [.int 1],.int (-1),.int (-1-n / 8%1000000000000),.lst [.int 1]]) (.int (n%8))=some d->wb [.int n]=some d:=fun d hd=>
  vm (y_ret (zc (x_l (yf (qj x_c (qj x_c (qj x_c (qj x_c (qj (ve (qj x_c qo) (show 1<=1000000 by decide)) (qj (qmc x_c rfl) (qj (zc (qmc x_c rfl) (zc (zc (x_v rfl) x_c (q18 _ _ (by decide) (by decide))) (zc x_c x_c hp) (jv _ _ (by decide))) (qdo _ _)) (qj (x_l (yf (qj x_c qo) (show 1<=1000000 by decide))) qo)))))))) (show 8<=1000000 by decide))) (zc (x_v rfl) x_c (jv _ _ (by decide))) hd))
 rcases h8 with e|e|e|e|e|e|e|e
 ·exact⟨_,go _ (by rw [e];rfl),rfl⟩
 ·exact⟨_,go _ (by rw [e];rfl),rfl⟩
 ·exact⟨_,go _ (by rw [e];rfl),rfl⟩
 ·exact⟨_,go _ (by rw [e];rfl),rfl⟩
 ·exact⟨_,go _ (by rw [e];rfl),rfl⟩
 ·exact⟨_,go _ (by rw [e];rfl),hneg _ (by decide)⟩
 ·exact⟨_,go _ (by rw [e];rfl),hneg _ (by omega)⟩
 ·exact⟨_,go _ (by rw [e];rfl),rfl⟩
theorem q83{d1 d2:D}(t:bOr (kl (bT (ql (qp 1 [] zm) (qc (eV 0) qk)))) (bOr (kl (bT (ql (qp 1 [] zm) (qc (eV 1) qk)))) (z6 oEq (eV 1) (eC (.int 0)))) [some (.fz d1),some (.fz d2),none]=some true): x_share [d1,d2]=some xNS:=by
 unfold x_share q2b;show Option.map (·.1) (ko _ _ _ [some (.fz d1),some (.fz d2),none])=_;simp only [ko,xIf,t,gb,pz,q8o,g1d]
 rfl
theorem qez(n:Int): ∃d,vz [.int n]=some d/\x_bound_of [d]=some xNS:=by
 obtain⟨o,eo,ho⟩:=qrt (n / 6);have s1:zi 1 (eOp oDiv (eV 0) (eC (.int 6))) [some (.fz (.int n)),none]=some (.nx,[some (.fz (.int n)),some (.fz (.int (n / 6)))]):=xi (zc (x_v rfl) x_c (q18 _ _ (by decide) (by decide)));have tst:∀k:Int,z6 oEq (eOp oMod (eV 0) (eC (.int 6))) (eC (.int k)) [some (.fz (.int n)),some (.fz (.int (n / 6)))]=some (decide (n%6=k)):=fun k=>x8 (zc (x_v rfl) x_c (jv _ _ (by decide))) x_c (q44 _ _)
 by_cases h0:n%6=0
 ·refine⟨_,vm (zl s1 (qdz (qe0 (tst 0) (ma h0) (y_ret (ve (qj (zh (qj (x_v rfl) qo) rfl eo) (qj x_c qo)) (show 2<=1000000 by decide)))))),?_⟩
  rw [q6y];exact q83 (qa3 (q1q (q19 (zh (qj (x_v rfl) qo) rfl ho) rfl)) rfl)
 ·by_cases h1:n%6=1
  ·refine⟨_,vm (zl s1 (zl (y9 (tst 0) (m6 h0) ya) (qdz (qe0 (tst 1) (ma h1) (y_ret (ve (qj x_c (qj (zh (qj (x_v rfl) qo) rfl eo) qo)) (show 2<=1000000 by decide))))))),?_⟩
   rw [q6y];exact q83 (wy (q1q (q19 (zh (qj (x_v rfl) qo) rfl (isn 1)) rfl)) rfl (qa3 (q1q (q19 (zh (qj (x_v rfl) qo) rfl ho) rfl)) rfl))
  ·by_cases h2:n%6=2
   ·obtain⟨k,hk⟩:=u5 (pq (n / 6) (show(5:Int)≠0 by decide))
    refine⟨.tup [N' k,.int 0],vm (zl s1 (zl (y9 (tst 0) (m6 h0) ya) (zl (y9 (tst 1) (m6 h1) ya) (qdz (qe0 (tst 2) (ma h2) (y_ret (ve (qj (zc (x_v rfl) x_c (by rw [jv _ _ (by decide),hk])) (qj x_c qo)) (show 2<=1000000 by decide)))))))),?_⟩;rw [q6y];exact q83 (wy (q1q (q19 (zh (qj (x_v rfl) qo) rfl (isn k)) rfl)) rfl (wy (q1q (q19 (zh (qj (x_v rfl) qo) rfl (isn 0)) rfl)) rfl (x8 (x_v rfl) x_c (c:=true) rfl)))
   ·have go:∀d,oIx (.lst [.lst [.int 1,.int 2],.tup [.int 1],.tup [.int 1,.int 2,.int 1],.tup [],.int 1,.str "12",.dct [] [],.bl true,.tup [.tup [.int 1,.int 2]],.tup [.non,.non]]) (.int (n / 6%10))=some d->vz [.int n]=some d:=fun d hd=>
     vm (zl s1 (zl (y9 (tst 0) (m6 h0) ya) (zl (y9 (tst 1) (m6 h1) ya) (zl (y9 (tst 2) (m6 h2) ya) (y_ret (zc (x:=.lst [.lst [.int 1,.int 2],.tup [.int 1],.tup [.int 1,.int 2,.int 1],.tup [],.int 1,.str "12",.dct [] [],.bl true,.tup [.tup [.int 1,.int 2]],.tup [.non,.non]]) rfl (zc (x_v rfl) x_c (jv _ _ (by decide))) hd))))))
    have h10:n / 6%10=0\/n / 6%10=1\/n / 6%10=2\/n / 6%10=3\/n / 6%10=4\/n / 6%10=5\/n / 6%10=6\/n / 6%10=7\/n / 6%10=8\/n / 6%10=9:=by omega
    rcases h10 with e|e|e|e|e|e|e|e|e|e
    all_goals exact⟨_,go _ (by rw [e];rfl),rfl⟩
abbrev yb:D:=.tup [.int 2,.tup [.tup [.int 3,.tup [.int 0,.int 1]],.tup [.int 1,.tup [.int 1]]]]
abbrev qbn:D:=.tup [.tup [.int 1,.tup [.int 7]],.tup [.int 1,.tup [.int 0,.int 7]]]
abbrev qnb:D:=.tup [.int 8,qbn]
def qnc(n:Nat)(x:Option D): Bool:=match x with|some (.tup l)=>l.length==n|_=>false
theorem q84{n:Nat}{x:Option D}(h:qnc n x=true): ∃l:List D,x=some (.tup l)/\l.length=n:=by
 unfold qnc at h
 split at h
 ·exact⟨_,rfl,by simpa using h⟩
 ·cases h
theorem qru:∃l:List D,zo [yb,.int 1,.tup [.int 1,.int 1]]=some (.tup l)/\l.length=2:=q84 (by decide +kernel)
theorem qrv:∃l:List D,zo [yb,.int 4,.non]=some (.tup l)/\l.length=1:=q84 (by decide +kernel)
theorem qt7:∃l:List D,zo [qnb,.int 2,.tup [.int 1,.int 1]]=some (.tup l)/\l.length=1:=q84 (by decide +kernel)
theorem qmv:q9q (.lst [.lst [.str "share",.bl true,.bl false],.non]) (.lst [.lst [.str "share",.bl true,.bl false],.non])=some (.bl false):=by rfl
theorem qe8(x0 x1 x2 x6 x7 x9 x12:Option B)(p:D)(least far:Int): ∀(n k:Nat) (b10 b11:Option B),∃b10' b11',
  runFor (bN 10) q7z (zg (k:Int) n) [x0,x1,x2,some (.fz p),some (.fz (.int least)),some (.fz (.int far)),x6,x7,some (.fz yb),x9,b10,b11,x12]=some (.nx,[x0,x1,x2,some (.fz p),some (.fz (.int least)),some (.fz (.int far)),x6,x7,some (.fz yb),x9,b10',b11',x12])
 | 0,k,b10,b11=>⟨b10,b11,rfl⟩
 | n+1,k,b10,b11=>by
  obtain⟨d,ed,hd⟩:=qez (far+7*(k:Int));obtain⟨l1,e1,q1⟩:=qru;obtain⟨l2,e2,q2⟩:=qrv;obtain⟨c10,c11,ih⟩:=qe8 x0 x1 x2 x6 x7 x9 x12 p least far n (k+1) (some (.fz (.int (k:Int)))) (some (.fz d));refine⟨c10,c11,?_⟩;rw [q7b];refine(wc (ρ1:=[x0,x1,x2,some (.fz p),some (.fz (.int least)),some (.fz (.int far)),x6,x7,some (.fz yb),x9,some (.fz (.int (k:Int))),b11,x12]) (ρ2:=[x0,x1,x2,some (.fz p),some (.fz (.int least)),some (.fz (.int far)),x6,x7,some (.fz yb),x9,some (.fz (.int (k:Int))),some (.fz d),x12]) rfl ?_).trans ih;refine qbl (xi (zh (qj (zc (x_v rfl) (zc x_c (x_v rfl) (kj _ _ (by decide))) (q1p _ _)) qo) rfl ed)) ?_;refine qbl (y9 (x8 (zh (qj (x_v rfl) (qj (x_v rfl) (qj (x_v rfl) qo))) rfl (qkb (qey hd))) (x_l (yf (qj (x_l (yf (qj x_c (qj x_c (qj x_c qo))) (show 3<=1000000 by decide))) (qj x_c qo)) (show 2<=1000000 by decide))) qmv) rfl ya) ?_;refine y9 (wy (x8 (x_call (qj (zh (qj (x_v rfl) (qj x_c (qj (ve (qj x_c (qj x_c qo)) (show 2<=1000000 by decide)) qo))) rfl e1) qo) (q6w _)) x_c (q45 _ _)) ?_ (x8 (x_call (qj (x_call (qj (x_v rfl) (qj x_c qo)) ?_) qo) (q6w l2)) x_c (q45 _ _))) ?_ ya
  ·rw [q1];decide
  ·show(if([yb,D.int 4]++[D.non]).length=3 then zo ([yb,D.int 4]++[D.non]) else none)=_
   rw [gx (by rfl:([yb,D.int 4]++[D.non]).length=3)];exact e2
  ·rw [q2];decide
theorem qp4(far num:Int): ∃b ask:D,oIx (.lst [.tup [.int (far%11),.int (1+far / 11%10)],.tup [.int (far%1000000000000000),.int (1+far / 1000000000000000%1000000000000000)],.non]) (.int (num / 13%3))=some b/\jl [b]=some ask/\AskOk ask/\x_bound_of [b]=none:=by
 have h3:num / 13%3=0\/num / 13%3=1\/num / 13%3=2:=by omega
 rcases h3 with e|e|e
 ·obtain⟨c,hc⟩:=u5 (pq far (show(11:Int)≠0 by decide))
  obtain⟨d,hd⟩:=u5 (show 0<=1+far / 11%10 by omega);obtain⟨ask,a1,a2,a3⟩:=q6f c d (by omega) (by omega) (by omega);exact⟨.tup [N' c,N' d],ask,by rw [e,hc,hd];rfl,a1,a2,a3⟩
 ·obtain⟨c,hc⟩:=u5 (pq far (show(1000000000000000:Int)≠0 by decide))
  obtain⟨d,hd⟩:=u5 (show 0<=1+far / 1000000000000000%1000000000000000 by omega);obtain⟨ask,a1,a2,a3⟩:=q6f c d (by omega) (by omega) (by omega);exact⟨.tup [N' c,N' d],ask,by rw [e,hc,hd];rfl,a1,a2,a3⟩
 ·exact⟨.non,_,by rw [e];rfl,bound_none.1,qmt,bound_none.2⟩
def wd(w:Int): D:=if 8<w then .lst [.lst [.str "great",.bl true,.bl false],.int 8] else .lst [.lst [],.non]
theorem qp5(w:Int): q9q (wd w) (wd w)=some (.bl false):=by
 unfold wd
 split <;> rfl
theorem qmw(ns:List Int)(hlen:ns.length<=63): qhs [.lst (ns.map .int)]=some (.bl true):=by
 obtain⟨c0,e0⟩:=q1e ns 0;obtain⟨c1,e1⟩:=q1e ns 1;obtain⟨far,e2⟩:=q1e ns 2;obtain⟨w,hwe⟩:=u5 (pq (c0 / 2) (show(13:Int)≠0 by decide));have hw:w<=12:=by have:=g0b (c0 / 2) (show(0:Int)<13 by decide);omega
 obtain⟨rs,hp,hl,hr⟩:=qet ns hlen w hw 4 (by decide);obtain⟨b,ask,hb,a1,a2,a3⟩:=qp4 far (c0 / 2);have hp15:oPow (.int 10) (.int 15)=some (.int 1000000000000000):=by
  rw [q56 10 15 (by decide) (by decide) (by decide)];rfl
 obtain⟨lw,ew,qw⟩:=qt7
 let least:Int:=1+c1%10
 have hx:=qb3 (w:=(w:Int)) (r:=.tup (rs.map q1z)) (l:=.int least) a3 a1;have htest:(w<6\/8<w)->j5 [jq w rs,.int least,b]=some (wd w):=fun ht=>by
  unfold wd
  by_cases h8:(8:Int)<(w:Int)
  ·rw [gx h8] at hx ⊢
   exact qb4 hx
  ·rw [m8 h8] at hx ⊢
   have hw6:w<=6:=by omega
   obtain⟨ds,es⟩:=qi8 w hw6 rs (qox hw6 hl hr) (qt4 hl fun r h=>⟨(hr r h).2.2.1,(hr r h).2.2.2.1⟩) least a1 a2;exact qmu hx es
 have hwide:j5 [.tup [.int 9,qbn],.int 1,.tup [.int 1,.int 1]]=some (.lst [.lst [.str "great",.bl true,.bl false],.int 8]):=by
  obtain⟨ask',z1,z2,z3⟩:=q6f 1 1 (by decide) (by decide) (by decide);have:=qb3 (w:=9) (r:=qbn) (l:=.int 1) z3 z1;rw [gx (by decide)] at this;exact qb4 this
 refine vm ?_;refine zl (xi (zc (zh (qj (x_v rfl) (qj x_c qo)) rfl e0) x_c (q18 _ _ (by decide) (by decide)))) ?_;refine zl (xi (zc (z:=.int (w:Int)) (x_v rfl) x_c (by rw [jv _ _ (by decide),hwe]))) ?_;refine zl (xi (zh (qj (x_v rfl) (qj (x_v rfl) (qj x_c qo))) rfl hp)) ?_;refine zl (xi (zc x_c (zc (zh (qj (x_v rfl) (qj x_c qo)) rfl e1) x_c (jv _ _ (by decide))) (q1p _ _))) ?_;refine zl (xi (zh (qj (x_v rfl) (qj x_c qo)) rfl e2)) ?_;refine zl (xi (zc (x_l (yf (qj (ve (qj (zc (x_v rfl) x_c (jv _ _ (by decide))) (qj (zc x_c (zc (zc (x_v rfl) x_c (q18 _ _ (by decide) (by decide))) x_c (jv _ _ (by decide))) (q1p _ _)) qo)) (show 2<=1000000 by decide)) (qj (ve (qj (zc (x_v rfl) (zc x_c x_c hp15) (jv _ _ (by decide))) (qj (zc x_c (zc (zc (x_v rfl) (zc x_c x_c hp15) (q69 _ _ (by decide) (by decide))) (zc x_c x_c hp15) (jv _ _ (by decide))) (q1p _ _)) qo)) (show 2<=1000000 by decide)) (qj x_c qo))) (show 3<=1000000 by decide))) (zc (zc (x_v rfl) x_c (q18 _ _ (by decide) (by decide))) x_c (jv _ _ (by decide))) hb)) ?_;refine zl (xi (x_l (yf (qj (x_l (yf qo (by decide))) (qj x_c qo)) (show 2<=1000000 by decide)))) ?_;refine zl (ρ1:=[some (.fz (.lst (ns.map .int))),some (.fz (.int (c0 / 2))),some (.fz (.int (w:Int))),some (.fz (jq w rs)),some (.fz (.int least)),some (.fz (.int far)),some (.fz b),some (.fz (wd w)),none,none,none,none,none]) ?_ ?_
 ·unfold wd
  by_cases h8:(8:Int)<(w:Int)
  ·rw [gx h8]
   exact qds (x8 (x_v rfl) x_c (q2d _ _)) (ma h8) (xi (x_l (yf (qj (x_l (yf (qj x_c (qj x_c (qj x_c qo))) (show 3<=1000000 by decide))) (qj x_c qo)) (show 2<=1000000 by decide))))
  ·rw [m8 h8]
   exact y9 (x8 (x_v rfl) x_c (q2d _ _)) (m6 h8) ya
 refine zl (ρ1:=[some (.fz (.lst (ns.map .int))),some (.fz (.int (c0 / 2))),some (.fz (.int (w:Int))),some (.fz (jq w rs)),some (.fz (.int least)),some (.fz (.int far)),some (.fz b),some (.fz (wd w)),some (.fz yb),none,none,none,none]) rfl ?_;obtain⟨x9,eF⟩:∃x9,sIf (bOr (z6 oLt' (eV 2) (eC (.int 6))) (z6 oGt (eV 2) (eC (.int 8)))) (z0 (zi 9 (ql (qp 3 [] j5) (qc (eV 3) (qc (eV 4) (qc (eV 6) qk))))) (sIf (bOr (z6 q9q (eV 9) (eV 7)) (bT (q1w .bool (eOp oIx (eV 9) (eC (.int 1)))))) (zu (eC (.bl false))) xl)) xl
   [some (.fz (.lst (ns.map .int))),some (.fz (.int (c0 / 2))),some (.fz (.int (w:Int))),some (.fz (jq w rs)),some (.fz (.int least)),some (.fz (.int far)),some (.fz b),some (.fz (wd w)),some (.fz yb),none,none,none,none]=some (.nx,[some (.fz (.lst (ns.map .int))),some (.fz (.int (c0 / 2))),some (.fz (.int (w:Int))),some (.fz (jq w rs)),some (.fz (.int least)),some (.fz (.int far)),some (.fz b),some (.fz (wd w)),some (.fz yb),x9,none,none,none]):=by
  have tt:bOr (z6 oLt' (eV 2) (eC (.int 6))) (z6 oGt (eV 2) (eC (.int 8))) [some (.fz (.lst (ns.map .int))),some (.fz (.int (c0 / 2))),some (.fz (.int (w:Int))),some (.fz (jq w rs)),some (.fz (.int least)),some (.fz (.int far)),some (.fz b),some (.fz (wd w)),some (.fz yb),none,none,none,none]=some (decide (w<6\/8<w)):=by
   have u1:z6 oLt' (eV 2) (eC (.int 6)) [some (.fz (.lst (ns.map .int))),some (.fz (.int (c0 / 2))),some (.fz (.int (w:Int))),some (.fz (jq w rs)),some (.fz (.int least)),some (.fz (.int far)),some (.fz b),some (.fz (wd w)),some (.fz yb),none,none,none,none]=some (decide ((w:Int)<6)):=x8 (x_v rfl) x_c (qfx _ _)
   by_cases h6:(w:Int)<6
   ·rw [ma h6] at u1
    rw [ma (show w<6\/8<w by omega)];exact qa3 u1 rfl
   ·rw [m6 h6] at u1
    rw [wy u1 rfl (x8 (x_v rfl) x_c (q2d _ _))]
    congr 1
    exact decide_eq_decide.mpr (by omega)
  by_cases ht:w<6\/8<w
  ·rw [ma ht] at tt
   refine⟨some (.fz (wd w)),qds tt rfl (qbl (xi (zh (qj (x_v rfl) (qj (x_v rfl) (qj (x_v rfl) qo))) rfl (htest ht))) (y9 (c:=false) ?_ rfl ya))⟩;have hi:∃z,oIx (wd w) (.int 1)=some z/\zk .bool z=false:=by
    unfold wd
    split <;> exact⟨_,rfl,rfl⟩
   obtain⟨z,hz,hzb⟩:=hi;refine wy (x8 (x_v rfl) (x_v rfl) (qp5 w)) rfl (q19 (qbk (zc (x_v rfl) x_c hz)) ?_);rw [hzb];rfl
  ·rw [m6 ht] at tt
   exact⟨none,y9 tt rfl ya⟩
 refine zl eF ?_;obtain⟨d10,d11,eL⟩:=qe8 (some (.fz (.lst (ns.map .int)))) (some (.fz (.int (c0 / 2)))) (some (.fz (.int (w:Int)))) (some (.fz b)) (some (.fz (wd w))) x9 none (jq w rs) least far 4 0 none none;refine zl (qn8 (ds:=zg ((0:Nat):Int) 4) (q6v _ _ 4 (qj x_c qo) (by decide) (by decide)) eL) ?_;refine zl (ρ1:=[some (.fz (.lst (ns.map .int))),some (.fz (.int (c0 / 2))),some (.fz (.int (w:Int))),some (.fz (jq w rs)),some (.fz (.int least)),some (.fz (.int far)),some (.fz b),some (.fz (wd w)),some (.fz yb),x9,d10,d11,some (.fz qnb)]) rfl ?_;refine y_ret (qa2 (zc (x_call (qj (zh (qj (x_v rfl) (qj x_c (qj (ve (qj x_c (qj x_c qo)) (show 2<=1000000 by decide)) qo))) rfl ew) qo) (q6w _)) x_c (q44 _ _)) ?_ (zc (zh (qj (ve (qj x_c (qj (zc (x_v rfl) x_c (z:=qbn) rfl) qo)) (show 2<=1000000 by decide)) (qj x_c (qj (ve (qj x_c (qj x_c qo)) (show 2<=1000000 by decide)) qo))) rfl hwide) (x_l (yf (qj (x_l (yf (qj x_c (qj x_c (qj x_c qo))) (show 3<=1000000 by decide))) (qj x_c qo)) (show 2<=1000000 by decide))) ?_))
 ·rw [qw];decide
 ·rfl
end My
namespace My
open PySem PySem.Spec PyProof.Rows L2 DL
open PySem.W (nsIn fnOf keepIn codeIn mg_of subIn mg_none_of findIn plainGet)
theorem ln1{s:Shared}{fd:FuncData}{ps:List Str}(h:∀a0,BindsTo s fd ⟨[a0],[]⟩ (ps.zip ([a0]++[]))): ∀us:List Value,(us++[]).length=1->BindsTo s fd ⟨us,[]⟩ (ps.zip (us++[]))
 | [a0],_=>h a0
theorem ln2{s:Shared}{fd:FuncData}{ps:List Str}(h:∀a0 a1,BindsTo s fd ⟨[a0,a1],[]⟩ (ps.zip ([a0,a1]++[]))): ∀us:List Value,(us++[]).length=2->BindsTo s fd ⟨us,[]⟩ (ps.zip (us++[]))
 | [a0,a1],_=>h a0 a1
theorem ln3{s:Shared}{fd:FuncData}{ps:List Str}(h:∀a0 a1 a2,BindsTo s fd ⟨[a0,a1,a2],[]⟩ (ps.zip ([a0,a1,a2]++[]))): ∀us:List Value,(us++[]).length=3->BindsTo s fd ⟨us,[]⟩ (ps.zip (us++[]))
 | [a0,a1,a2],_=>h a0 a1 a2
theorem all_mk[Lam]{l:PySem.W.OpenLaw}{w:World}{K:Frag}{h:Heap}{mg:Str->Option Value}{fa:Addr}(X:K.In h)(G:h.Ns mainGlobals mg)(hfa:mg "law" = some (.ref fa))(hm:∀ns:List Int,ns.length<=63->qhs [.lst (ns.map .int)]=some (.bl true))
  {C_Growing:Addr}
  (x_Growing:nsIn K mainGlobals "Growing" = some (some (.ref C_Growing)))
  (mk_Growing:PySem.W.makesIn K C_Growing=true)
  (in_Growing:findIn K (.ref C_Growing) "__init__" = some (some (.builtin "object.__init__")))
  (kp_Growing:keepIn K (.ref C_Growing)=true)
  (pg_Growing:plainGet K C_Growing Str.empty=true)
  (hd_Growing:PySem.W.hasDictIn K C_Growing=true)
  (po_Growing:PySem.W.plainOver K C_Growing=true)
  (sa_Growing:findIn K (.ref C_Growing) "__setattr__" = some (some (.builtin "object.__setattr__")))
  (cg_Growing:plainGet K C_Growing "__class__" = true)
  (cc_Growing:findIn K (.ref C_Growing) "__class__" = some (some (.builtin "object.__class__")))
  (cs_Growing:PySem.W.specialIn K (.builtin "object.__class__") "__get__" = some (some (.builtin "getset_descriptor.__get__")))
  (ct_Growing:PySem.W.takesIn K (.builtin "object.__class__")=some true)
  (cm_Growing:PySem.W.mroIn K C_Growing (.type "object")=some true)
  (ciint_Growing:subIn K (.ref C_Growing) (.type "int")=some false)
  (cibool_Growing:subIn K (.ref C_Growing) (.type "bool")=some false)
  (cituple_Growing:subIn K (.ref C_Growing) (.type "tuple")=some false)
  (cilist_Growing:subIn K (.ref C_Growing) (.type "list")=some false)
  (cistr_Growing:subIn K (.ref C_Growing) (.type "str")=some false)
  (cidict_Growing:subIn K (.ref C_Growing) (.type "dict")=some false)
  {fa_12:Addr} {fd_law_mixed:FuncData} (x_law_mixed:nsIn K mainGlobals "_law_mixed" = some (some (.ref fa_12))) (F_law_mixed:Fun2 K "_law_mixed" "_law_mixed" kc .none fa_12 fd_law_mixed)
  {fa_11:Addr} {fd_law_cell:FuncData} (x_law_cell:nsIn K mainGlobals "_law_cell" = some (some (.ref fa_11))) (F_law_cell:Fun2 K "_law_cell" "_law_cell" wj .none fa_11 fd_law_cell)
  {fa_15:Addr} {fd_law_of_mark:FuncData} (x_law_of_mark:nsIn K mainGlobals "_law_of_mark" = some (some (.ref fa_15))) (F_law_of_mark:Fun2 K "_law_of_mark" "_law_of_mark" yg .none fa_15 fd_law_of_mark)
  {fa_18:Addr} {fd_law_run:FuncData} (x_law_run:nsIn K mainGlobals "_law_run" = some (some (.ref fa_18))) (F_law_run:Fun2 K "_law_run" "_law_run" q0c .none fa_18 fd_law_run)
  {fa_16:Addr} {fd_law_pile:FuncData} (x_law_pile:nsIn K mainGlobals "_law_pile" = some (some (.ref fa_16))) (F_law_pile:Fun2 K "_law_pile" "_law_pile" wm .none fa_16 fd_law_pile)
  {fa_7:Addr} {fd_greatest_divisor:FuncData} (x_greatest_divisor:nsIn K mainGlobals "greatest_divisor" = some (some (.ref fa_7))) (F_greatest_divisor:Fun2 K "greatest_divisor" "greatest_divisor" jx .none fa_7 fd_greatest_divisor)
  {fa_9:Addr} {fd_is_number:FuncData} (x_is_number:nsIn K mainGlobals "is_number" = some (some (.ref fa_9))) (F_is_number:Fun2 K "is_number" "is_number" kf .none fa_9 fd_is_number)
  {fa_29:Addr} {fd_share:FuncData} (x_share:nsIn K mainGlobals "share" = some (some (.ref fa_29))) (F_share:Fun2 K "share" "share" kg .none fa_29 fd_share)
  {fa_4:Addr} {fd_bound_of:FuncData} (x_bound_of:nsIn K mainGlobals "bound_of" = some (some (.ref fa_4))) (F_bound_of:Fun2 K "bound_of" "bound_of" xx .none fa_4 fd_bound_of)
  {fa_3:Addr} {fd_at_least:FuncData} (x_at_least:nsIn K mainGlobals "at_least" = some (some (.ref fa_3))) (F_at_least:Fun2 K "at_least" "at_least" wq .none fa_3 fd_at_least)
  {fa_19:Addr} {fd_mark_of:FuncData} (x_mark_of:nsIn K mainGlobals "mark_of" = some (some (.ref fa_19))) (F_mark_of:Fun2 K "mark_of" "mark_of" q0e .none fa_19 fd_mark_of)
  {fa_20:Addr} {fd_marked:FuncData} (x_marked:nsIn K mainGlobals "marked" = some (some (.ref fa_20))) (F_marked:Fun2 K "marked" "marked" q14 .none fa_20 fd_marked)
  {fa_25:Addr} {fd_one_ware_more:FuncData} (x_one_ware_more:nsIn K mainGlobals "one_ware_more" = some (some (.ref fa_25))) (F_one_ware_more:Fun2 K "one_ware_more" "one_ware_more" v9 .none fa_25 fd_one_ware_more)
  {fa_24:Addr} {fd_one_ware_fewer:FuncData} (x_one_ware_fewer:nsIn K mainGlobals "one_ware_fewer" = some (some (.ref fa_24))) (F_one_ware_fewer:Fun2 K "one_ware_fewer" "one_ware_fewer" xr .none fa_24 fd_one_ware_fewer)
  {fa_8:Addr} {fd_grown:FuncData} (x_grown:nsIn K mainGlobals "grown" = some (some (.ref fa_8))) (F_grown:Fun2 K "grown" "grown" q2c .none fa_8 fd_grown)
  {fa_5:Addr} {fd_count_marked:FuncData} (x_count_marked:nsIn K mainGlobals "count_marked" = some (some (.ref fa_5))) (F_count_marked:Fun2 K "count_marked" "count_marked" vw .none fa_5 fd_count_marked)
  {fa_0:Addr} {od_0 an_0:Option Addr} {sl_0:Array (Option Value)} {oc_0 kV_0 dc_0 pm_0 cd_0 ct_0:Value}
  (x_Growing_counted:findIn K (.ref C_Growing) "counted" = some (some (.ref fa_0))) (i_0:PySem.W.isFn K (.ref fa_0)=true)
  (l_0:K.lookup fa_0=some ⟨oc_0,od_0,.func (fnOf "counted" "Growing.counted" (we j4) (qx j4) (qh j4) .none kV_0 dc_0 pm_0 an_0 cd_0 ct_0),sl_0⟩)
  (q_0:codeIn K cd_0 "Growing.counted" = true) (k_0:keepIn K (.ref fa_0)=true)
  {fa_1:Addr} {od_1 an_1:Option Addr} {sl_1:Array (Option Value)} {oc_1 kV_1 dc_1 pm_1 cd_1 ct_1:Value}
  (x_Growing_often:findIn K (.ref C_Growing) "often" = some (some (.ref fa_1))) (i_1:PySem.W.isFn K (.ref fa_1)=true)
  (l_1:K.lookup fa_1=some ⟨oc_1,od_1,.func (fnOf "often" "Growing.often" (we jf) (qx jf) (qh jf) .none kV_1 dc_1 pm_1 an_1 cd_1 ct_1),sl_1⟩)
  (q_1:codeIn K cd_1 "Growing.often" = true) (k_1:keepIn K (.ref fa_1)=true)
  {fa_31:Addr} {fd_without:FuncData} (x_without:nsIn K mainGlobals "without" = some (some (.ref fa_31))) (F_without:Fun2 K "without" "without" q0f .none fa_31 fd_without)
  {fa_10:Addr} {fd_joined:FuncData} (x_joined:nsIn K mainGlobals "joined" = some (some (.ref fa_10))) (F_joined:Fun2 K "joined" "joined" q16 .none fa_10 fd_joined)
  {fa_23:Addr} {fd_one_step_stronger:FuncData} (x_one_step_stronger:nsIn K mainGlobals "one_step_stronger" = some (some (.ref fa_23))) (F_one_step_stronger:Fun2 K "one_step_stronger" "one_step_stronger" js .none fa_23 fd_one_step_stronger)
  {fa_6:Addr} {fd_follows:FuncData} (x_follows:nsIn K mainGlobals "follows" = some (some (.ref fa_6))) (F_follows:Fun2 K "follows" "follows" q0g .none fa_6 fd_follows)
  {fa_21:Addr} {fd_marked_by_following:FuncData} (x_marked_by_following:nsIn K mainGlobals "marked_by_following" = some (some (.ref fa_21))) (F_marked_by_following:Fun2 K "marked_by_following" "marked_by_following" jg .none fa_21 fd_marked_by_following)
  {fa_27:Addr} {fd_saying_of:FuncData} (x_saying_of:nsIn K mainGlobals "saying_of" = some (some (.ref fa_27))) (F_saying_of:Fun2 K "saying_of" "saying_of" kh .none fa_27 fd_saying_of)
  {fa_22:Addr} {fd_met:FuncData} (x_met:nsIn K mainGlobals "met" = some (some (.ref fa_22))) (F_met:Fun2 K "met" "met" q6s .none fa_22 fd_met)
  {fa_30:Addr} {fd_whats_for:FuncData} (x_whats_for:nsIn K mainGlobals "whats_for" = some (some (.ref fa_30))) (F_whats_for:Fun2 K "whats_for" "whats_for" ki .none fa_30 fd_whats_for)
  {fa_26:Addr} {fd_reaches:FuncData} (x_reaches:nsIn K mainGlobals "reaches" = some (some (.ref fa_26))) (F_reaches:Fun2 K "reaches" "reaches" q0i .none fa_26 fd_reaches)
  {fa_28:Addr} {od_28 an_28:Option Addr} {sl_28:Array (Option Value)} {oc_28 kV_28 dc_28 pm_28 cd_28 ct_28:Value} {T_sayings:Addr}
  (x_sayings:nsIn K mainGlobals "sayings" = some (some (.ref fa_28)))
  (l_28:K.lookup fa_28=some ⟨oc_28,od_28,.func (fnOf "sayings" "sayings" (we x5) (qx x5) (qh x5) (.ref T_sayings) kV_28 dc_28 pm_28 an_28 cd_28 ct_28),sl_28⟩)
  (q_28:codeIn K cd_28 "sayings" = true) (k_28:keepIn K (.ref fa_28)=true)
  {ocd_sayings:Value} {odd_sayings:Option Addr} {nd_sayings:Nat} {sld_sayings:Array (Option Value)} (d_sayings:K.lookup T_sayings=some ⟨ocd_sayings,odd_sayings,.seq #[.none] nd_sayings,sld_sayings⟩)
  {fa_17:Addr} {fd_law_refused:FuncData} (x_law_refused:nsIn K mainGlobals "_law_refused" = some (some (.ref fa_17))) (F_law_refused:Fun2 K "_law_refused" "_law_refused" yi .none fa_17 fd_law_refused)
  {fa_14:Addr} {fd_law_odd:FuncData} (x_law_odd:nsIn K mainGlobals "_law_odd" = some (some (.ref fa_14))) (F_law_odd:Fun2 K "_law_odd" "_law_odd" q0k .none fa_14 fd_law_odd)
  {fa_13:Addr} {fd_law_no_bound:FuncData} (x_law_no_bound:nsIn K mainGlobals "_law_no_bound" = some (some (.ref fa_13))) (F_law_no_bound:Fun2 K "_law_no_bound" "_law_no_bound" vy .none fa_13 fd_law_no_bound)
  {fa_law:Addr} {fd_law:FuncData} (x_law:nsIn K mainGlobals "law" = some (some (.ref fa_law))) (F_law:Fun2 K "law" "law" q6u .none fa_law fd_law)
  {C_NoShare:Addr} (ns_NoShare:nsIn K mainGlobals "NoShare" = some (some (.ref C_NoShare)))
  {C_TooGreat:Addr} (ns_TooGreat:nsIn K mainGlobals "TooGreat" = some (some (.ref C_TooGreat)))
  {C_NoRun:Addr} (ns_NoRun:nsIn K mainGlobals "NoRun" = some (some (.ref C_NoRun)))
  {C_NoStore:Addr} (ns_NoStore:nsIn K mainGlobals "NoStore" = some (some (.ref C_NoStore)))
  {C_NoText:Addr} (ns_NoText:nsIn K mainGlobals "NoText" = some (some (.ref C_NoText)))
  {C_NoTree:Addr} (ns_NoTree:nsIn K mainGlobals "NoTree" = some (some (.ref C_NoTree)))
  {C_NotThere:Addr} (ns_NotThere:nsIn K mainGlobals "NotThere" = some (some (.ref C_NotThere)))
  {C_OftenError:Addr} (ns_OftenError:nsIn K mainGlobals "OftenError" = some (some (.ref C_OftenError)))
  (e_NoShare:PySem.W.excIn K C_NoShare vB "ValueError.__new__" = true)
  (tp_NoShare:PySem.W.typeIn K (.ref C_NoShare)=some (.type "type"))
  (ga_NoShare:findIn K (.ref C_NoShare) "__getattribute__" = some (some (.builtin "BaseException.__getattribute__")))
  (gk_NoShare:findIn K (.ref C_NoShare) "__getattr__" = some none)
  (cc_NoShare:findIn K (.ref C_NoShare) "__class__" = some (some (.builtin "object.__class__")))
  (cs_NoShare:PySem.W.specialIn K (.builtin "object.__class__") "__get__" = some (some (.builtin "getset_descriptor.__get__")))
  (ct_NoShare:PySem.W.takesIn K (.builtin "object.__class__")=some true)
  (cm_NoShare:PySem.W.mroIn K C_NoShare (.type "object")=some true)
  (cb_NoShare:PySem.W.mroIn K C_NoShare (.type "BaseException")=some true)
  (ciint_NoShare:PySem.W.kitOne K (.ref C_NoShare) (.type "int")=some false)
  (cibool_NoShare:PySem.W.kitOne K (.ref C_NoShare) (.type "bool")=some false)
  (cituple_NoShare:PySem.W.kitOne K (.ref C_NoShare) (.type "tuple")=some false)
  (cilist_NoShare:PySem.W.kitOne K (.ref C_NoShare) (.type "list")=some false)
  (cistr_NoShare:PySem.W.kitOne K (.ref C_NoShare) (.type "str")=some false)
  (cidict_NoShare:PySem.W.kitOne K (.ref C_NoShare) (.type "dict")=some false)
  {fa_2:Addr} {od_2 an_2:Option Addr} {sl_2:Array (Option Value)} {oc_2 kV_2 dc_2 pm_2 cd_2 ct_2:Value}
  (x_TooGreat___init__:findIn K (.ref C_TooGreat) "__init__" = some (some (.ref fa_2)))
  (l_2:K.lookup fa_2=some ⟨oc_2,od_2,.func (fnOf "__init__" "TooGreat.__init__" (we j3) (qx j3) (qh j3) .none kV_2 dc_2 pm_2 an_2 cd_2 ct_2),sl_2⟩)
  (q_2:codeIn K cd_2 "TooGreat.__init__" = true) (k_2:keepIn K (.ref fa_2)=true)
  (ei_TooGreat:q01 K C_TooGreat fa_2=true)
  (tI_TooGreat:PySem.W.typeIn K (.ref fa_2)=some (.type "function"))
  (kp_TooGreat:keepIn K (.ref C_TooGreat)=true)
  (tp_TooGreat:PySem.W.typeIn K (.ref C_TooGreat)=some (.type "type"))
  (ga_TooGreat:findIn K (.ref C_TooGreat) "__getattribute__" = some (some (.builtin "BaseException.__getattribute__")))
  (gk_TooGreat:findIn K (.ref C_TooGreat) "__getattr__" = some none)
  (cc_TooGreat:findIn K (.ref C_TooGreat) "__class__" = some (some (.builtin "object.__class__")))
  (cs_TooGreat:PySem.W.specialIn K (.builtin "object.__class__") "__get__" = some (some (.builtin "getset_descriptor.__get__")))
  (ct_TooGreat:PySem.W.takesIn K (.builtin "object.__class__")=some true)
  (cm_TooGreat:PySem.W.mroIn K C_TooGreat (.type "object")=some true)
  (cb_TooGreat:PySem.W.mroIn K C_TooGreat (.type "BaseException")=some true)
  (ciint_TooGreat:PySem.W.kitOne K (.ref C_TooGreat) (.type "int")=some false)
  (cibool_TooGreat:PySem.W.kitOne K (.ref C_TooGreat) (.type "bool")=some false)
  (cituple_TooGreat:PySem.W.kitOne K (.ref C_TooGreat) (.type "tuple")=some false)
  (cilist_TooGreat:PySem.W.kitOne K (.ref C_TooGreat) (.type "list")=some false)
  (cistr_TooGreat:PySem.W.kitOne K (.ref C_TooGreat) (.type "str")=some false)
  (cidict_TooGreat:PySem.W.kitOne K (.ref C_TooGreat) (.type "dict")=some false)
  (sa_TooGreat:findIn K (.ref C_TooGreat) "__setattr__" = some (some (.builtin "object.__setattr__")))
  (ov_TooGreat:qh0 K C_TooGreat=true)
  (na_TooGreat:findIn K (.ref C_TooGreat) "most" = some none)
  (hd_TooGreat:PySem.W.hasDictIn K C_TooGreat=true)
  (sp_OftenError:PySem.W.specialIn K (.ref C_OftenError) "__getattribute__" = some (some (.builtin "type.__getattribute__"))) (rd_OftenError:PySem.W.readsIn K C_OftenError (.type "type")=true) (fc_OftenError:PySem.W.findCls K (.ref C_OftenError) (.type "type") "__init__" = some (.val (.builtin "ValueError.__init__")))
  (mr_TooGreat_TooGreat:PySem.W.mroIn K C_TooGreat (.ref C_TooGreat)=some true)
  (mr_NoShare_TooGreat:PySem.W.mroIn K C_NoShare (.ref C_TooGreat)=some false)
  (mr_TooGreat_NoShare:PySem.W.mroIn K C_TooGreat (.ref C_NoShare)=some false)
  (mr_NoShare_NoShare:PySem.W.mroIn K C_NoShare (.ref C_NoShare)=some true)
  (ka_TooGreat_NoRun_NoShare_NoStore_NoText_NoTree_NotThere:PySem.W.kitAny K (.ref C_TooGreat) ([C_NoRun,C_NoShare,C_NoStore,C_NoText,C_NoTree,C_NotThere].map Value.ref)=some false)
  (kt_TooGreat_OftenError:PySem.W.kitOne K (.ref C_TooGreat) (.ref C_OftenError)=some true)
  (kt_TooGreat_ValueError:PySem.W.kitOne K (.ref C_TooGreat) (.type "ValueError")=some true)
  (ka_NoShare_NoRun_NoStore_NoText_NoTree_NotThere:PySem.W.kitAny K (.ref C_NoShare) ([C_NoRun,C_NoStore,C_NoText,C_NoTree,C_NotThere].map Value.ref)=some false)
  (kt_NoShare_OftenError:PySem.W.kitOne K (.ref C_NoShare) (.ref C_OftenError)=some true)
  (kt_NoShare_ValueError:PySem.W.kitOne K (.ref C_NoShare) (.type "ValueError")=some true)
  (z_len:nsIn K mainGlobals "len" = some none)
  (z_tuple:nsIn K mainGlobals "tuple" = some none)
  (z_range:nsIn K mainGlobals "range" = some none)
  (z_isinstance:nsIn K mainGlobals "isinstance" = some none)
  (z_int:nsIn K mainGlobals "int" = some none)
  (z_bool:nsIn K mainGlobals "bool" = some none)
  (z_sum:nsIn K mainGlobals "sum" = some none)
  (z_dict:nsIn K mainGlobals "dict" = some none)
  (z_all:nsIn K mainGlobals "all" = some none)
  (z_sorted:nsIn K mainGlobals "sorted" = some none)
  (z_set:nsIn K mainGlobals "set" = some none)
  (z_any:nsIn K mainGlobals "any" = some none)
  (z_ValueError:nsIn K mainGlobals "ValueError" = some none)
  {tk_MOST_WARES_SAID:Tok} (y_MOST_WARES_SAID:nsIn K mainGlobals "MOST_WARES_SAID" = some (some (.int 8 tk_MOST_WARES_SAID)))
  : ∃fd:FuncData,(∀(s:Shared) (v:Value),BindsTo s fd ⟨[v],[]⟩ [("_law_script",v)])/\∀base:Heap,K.In base->base.Ns mainGlobals mg->FnOk l.prog w K mg base CX0 7 fa fd ["_law_script"] (qbf K):=by
 have O_Growing:ClsOk K "Growing" C_Growing:=⟨x_Growing,mk_Growing,in_Growing,kp_Growing,⟨pg_Growing,hd_Growing,po_Growing,sa_Growing⟩,cg_Growing,hd_Growing,cc_Growing,cs_Growing,ct_Growing,cm_Growing,qo3 ciint_Growing cibool_Growing cituple_Growing cilist_Growing cistr_Growing cidict_Growing⟩
 have m_Growing:=mg_of X G x_Growing;have k_12:=F_law_mixed.kp;have k_11:=F_law_cell.kp;have k_15:=F_law_of_mark.kp;have k_18:=F_law_run.kp;have k_16:=F_law_pile.kp;have k_7:=F_greatest_divisor.kp;have k_9:=F_is_number.kp;have k_29:=F_share.kp;have k_4:=F_bound_of.kp;have k_3:=F_at_least.kp;have k_19:=F_mark_of.kp;have k_20:=F_marked.kp;have k_25:=F_one_ware_more.kp;have k_24:=F_one_ware_fewer.kp;have k_8:=F_grown.kp;have k_5:=F_count_marked.kp;have F_Growing_counted:=q3x (st:=j4) l_0 q_0 k_0;have F_Growing_often:=q3x (st:=jf) l_1 q_1 k_1;have k_31:=F_without.kp;have k_10:=F_joined.kp;have k_23:=F_one_step_stronger.kp;have k_6:=F_follows.kp;have k_21:=F_marked_by_following.kp;have k_27:=F_saying_of.kp;have k_22:=F_met.kp;have k_30:=F_whats_for.kp;have k_26:=F_reaches.kp;have F_sayings:=q3x (st:=x5) l_28 q_28 k_28;have k_17:=F_law_refused.kp;have k_14:=F_law_odd.kp;have k_13:=F_law_no_bound.kp;have k_law:=F_law.kp;have m_NoShare:=mg_of X G ns_NoShare;have m_TooGreat:=mg_of X G ns_TooGreat;have m_NoRun:=mg_of X G ns_NoRun;have m_NoStore:=mg_of X G ns_NoStore;have m_NoText:=mg_of X G ns_NoText;have m_NoTree:=mg_of X G ns_NoTree;have m_NotThere:=mg_of X G ns_NotThere;have m_OftenError:=mg_of X G ns_OftenError;have cx_NoShare:q4b K C_NoShare:=⟨⟨ga_NoShare,gk_NoShare,cc_NoShare,cs_NoShare,ct_NoShare,cm_NoShare,cb_NoShare⟩,qfr ciint_NoShare cibool_NoShare cituple_NoShare cilist_NoShare cistr_NoShare cidict_NoShare⟩
 have F_TooGreat___init__:=q3x (st:=j3) l_2 q_2 k_2;have cx_TooGreat:q4b K C_TooGreat:=⟨⟨ga_TooGreat,gk_TooGreat,cc_TooGreat,cs_TooGreat,ct_TooGreat,cm_TooGreat,cb_TooGreat⟩,qfr ciint_TooGreat cibool_TooGreat cituple_TooGreat cilist_TooGreat cistr_TooGreat cidict_TooGreat⟩
 have ci_TooGreat:ClsI K C_TooGreat "most" :=⟨sa_TooGreat,ov_TooGreat,na_TooGreat,hd_TooGreat⟩
 have n_len:=mg_none_of X G z_len;have n_tuple:=mg_none_of X G z_tuple;have n_range:=mg_none_of X G z_range;have n_isinstance:=mg_none_of X G z_isinstance;have n_int:=mg_none_of X G z_int;have n_bool:=mg_none_of X G z_bool;have n_sum:=mg_none_of X G z_sum;have n_dict:=mg_none_of X G z_dict;have n_all:=mg_none_of X G z_all;have n_sorted:=mg_none_of X G z_sorted;have n_set:=mg_none_of X G z_set;have n_any:=mg_none_of X G z_any;have n_ValueError:=mg_none_of X G z_ValueError;have g_MOST_WARES_SAID:∃t,mg "MOST_WARES_SAID" = some (.int 8 t):=⟨_,mg_of X G y_MOST_WARES_SAID⟩
 have e:=hfa.symm.trans (mg_of X G x_law);cases e;have b_12:Binds K _ ["_law_script","_law_k"] []:=F_law_mixed.bindsTo (P:=fun fd=>Binds K fd ["_law_script","_law_k"] []) fun _ _ _ _ _ _ s us hk hl=>ln2 (fun _ _=>.of_eq rfl) us hl;have b_11:Binds K _ ["_law_script","_law_k"] []:=F_law_cell.bindsTo (P:=fun fd=>Binds K fd ["_law_script","_law_k"] []) fun _ _ _ _ _ _ s us hk hl=>ln2 (fun _ _=>.of_eq rfl) us hl;have b_15:Binds K _ ["_law_mark"] []:=F_law_of_mark.bindsTo (P:=fun fd=>Binds K fd ["_law_mark"] []) fun _ _ _ _ _ _ s us hk hl=>ln1 (fun _=>.of_eq rfl) us hl;have b_18:Binds K _ ["_law_number","_law_wares","_law_great"] []:=F_law_run.bindsTo (P:=fun fd=>Binds K fd ["_law_number","_law_wares","_law_great"] []) fun _ _ _ _ _ _ s us hk hl=>ln3 (fun _ _ _=>.of_eq rfl) us hl;have b_16:Binds K _ ["_law_script","_law_wares","_law_most_runs"] []:=F_law_pile.bindsTo (P:=fun fd=>Binds K fd ["_law_script","_law_wares","_law_most_runs"] []) fun _ _ _ _ _ _ s us hk hl=>ln3 (fun _ _ _=>.of_eq rfl) us hl;have b_7:Binds K _ ["one","other"] []:=F_greatest_divisor.bindsTo (P:=fun fd=>Binds K fd ["one","other"] []) fun _ _ _ _ _ _ s us hk hl=>ln2 (fun _ _=>.of_eq rfl) us hl;have b_9:Binds K _ ["thing"] []:=F_is_number.bindsTo (P:=fun fd=>Binds K fd ["thing"] []) fun _ _ _ _ _ _ s us hk hl=>ln1 (fun _=>.of_eq rfl) us hl;have b_29:Binds K _ ["top","bottom"] []:=F_share.bindsTo (P:=fun fd=>Binds K fd ["top","bottom"] []) fun _ _ _ _ _ _ s us hk hl=>ln2 (fun _ _=>.of_eq rfl) us hl;have b_4:Binds K _ ["thing"] []:=F_bound_of.bindsTo (P:=fun fd=>Binds K fd ["thing"] []) fun _ _ _ _ _ _ s us hk hl=>ln1 (fun _=>.of_eq rfl) us hl;have b_3:Binds K _ ["pairs","least"] []:=F_at_least.bindsTo (P:=fun fd=>Binds K fd ["pairs","least"] []) fun _ _ _ _ _ _ s us hk hl=>ln2 (fun _ _=>.of_eq rfl) us hl;have b_19:Binds K _ ["some"] []:=F_mark_of.bindsTo (P:=fun fd=>Binds K fd ["some"] []) fun _ _ _ _ _ _ s us hk hl=>ln1 (fun _=>.of_eq rfl) us hl;have b_20:Binds K _ ["pile"] []:=F_marked.bindsTo (P:=fun fd=>Binds K fd ["pile"] []) fun _ _ _ _ _ _ s us hk hl=>ln1 (fun _=>.of_eq rfl) us hl;have b_25:Binds K _ ["some","wares"] []:=F_one_ware_more.bindsTo (P:=fun fd=>Binds K fd ["some","wares"] []) fun _ _ _ _ _ _ s us hk hl=>ln2 (fun _ _=>.of_eq rfl) us hl;have b_24:Binds K _ ["some"] []:=F_one_ware_fewer.bindsTo (P:=fun fd=>Binds K fd ["some"] []) fun _ _ _ _ _ _ s us hk hl=>ln1 (fun _=>.of_eq rfl) us hl;have b_8:Binds K _ ["layer","wares"] []:=F_grown.bindsTo (P:=fun fd=>Binds K fd ["layer","wares"] []) fun _ _ _ _ _ _ s us hk hl=>ln2 (fun _ _=>.of_eq rfl) us hl;have b_5:Binds K _ ["marked_runs","some"] []:=F_count_marked.bindsTo (P:=fun fd=>Binds K fd ["marked_runs","some"] []) fun _ _ _ _ _ _ s us hk hl=>ln2 (fun _ _=>.of_eq rfl) us hl;have b_0:Binds K _ ["self","pile","least"] []:=F_Growing_counted.bindsTo (P:=fun fd=>Binds K fd ["self","pile","least"] []) fun _ _ _ _ _ _ s us hk hl=>ln3 (fun _ _ _=>.of_eq rfl) us hl;have b_1:Binds K _ ["self","pile","least"] []:=F_Growing_often.bindsTo (P:=fun fd=>Binds K fd ["self","pile","least"] []) fun _ _ _ _ _ _ s us hk hl=>ln3 (fun _ _ _=>.of_eq rfl) us hl;have b_31:Binds K _ ["some","ware"] []:=F_without.bindsTo (P:=fun fd=>Binds K fd ["some","ware"] []) fun _ _ _ _ _ _ s us hk hl=>ln2 (fun _ _=>.of_eq rfl) us hl;have b_10:Binds K _ ["one","other"] []:=F_joined.bindsTo (P:=fun fd=>Binds K fd ["one","other"] []) fun _ _ _ _ _ _ s us hk hl=>ln2 (fun _ _=>.of_eq rfl) us hl;have b_23:Binds K _ ["whom","what","wares"] []:=F_one_step_stronger.bindsTo (P:=fun fd=>Binds K fd ["whom","what","wares"] []) fun _ _ _ _ _ _ s us hk hl=>ln3 (fun _ _ _=>.of_eq rfl) us hl;have b_6:Binds K _ ["saying","known","wares"] []:=F_follows.bindsTo (P:=fun fd=>Binds K fd ["saying","known","wares"] []) fun _ _ _ _ _ _ s us hk hl=>ln3 (fun _ _ _=>.of_eq rfl) us hl;have b_21:Binds K _ ["told","wares"] []:=F_marked_by_following.bindsTo (P:=fun fd=>Binds K fd ["told","wares"] []) fun _ _ _ _ _ _ s us hk hl=>ln2 (fun _ _=>.of_eq rfl) us hl;have b_27:Binds K _ ["whom","what","counts"] []:=F_saying_of.bindsTo (P:=fun fd=>Binds K fd ["whom","what","counts"] []) fun _ _ _ _ _ _ s us hk hl=>ln3 (fun _ _ _=>.of_eq rfl) us hl;have b_22:Binds K _ ["one","other"] []:=F_met.bindsTo (P:=fun fd=>Binds K fd ["one","other"] []) fun _ _ _ _ _ _ s us hk hl=>ln2 (fun _ _=>.of_eq rfl) us hl;have b_30:Binds K _ ["whom","counts"] []:=F_whats_for.bindsTo (P:=fun fd=>Binds K fd ["whom","counts"] []) fun _ _ _ _ _ _ s us hk hl=>ln2 (fun _ _=>.of_eq rfl) us hl;have b_26:Binds K _ ["one","other"] []:=F_reaches.bindsTo (P:=fun fd=>Binds K fd ["one","other"] []) fun _ _ _ _ _ _ s us hk hl=>ln2 (fun _ _=>.of_eq rfl) us hl;have b_28:Binds K _ ["pile","least","bound"] []:=F_sayings.bindsTo (P:=fun fd=>Binds K fd ["pile","least","bound"] []) fun _ _ _ _ _ _ s us hk hl=>ln3 (fun _ _ _=>BindsTo.of_defaults rfl (hk _ _ d_sayings) rfl rfl rfl) us hl;have bd_sayings_1:Binds K _ ["pile","least","bound"] [.none]:=F_sayings.bindsTo (P:=fun fd=>Binds K fd ["pile","least","bound"] [.none]) fun _ _ _ _ _ _=>qsp 2 rfl fun s us hk hl=>match us,hl with | [_,_],_=>BindsTo.of_defaults rfl (hk _ _ d_sayings) rfl rfl rfl
 have dv_sayings_1:Vals [V.non] [.none]:=.cons rfl (.nil);have dd_sayings_1:∀ {H:Hp},RepL K H [.non] [V.non]:=fun {H}=>RepL.cons (by simp only [Rep]) (RepL.nil);have b_17:Binds K _ ["_law_pile_here","_law_least","_law_bound"] []:=F_law_refused.bindsTo (P:=fun fd=>Binds K fd ["_law_pile_here","_law_least","_law_bound"] []) fun _ _ _ _ _ _ s us hk hl=>ln3 (fun _ _ _=>.of_eq rfl) us hl;have b_14:Binds K _ ["_law_number"] []:=F_law_odd.bindsTo (P:=fun fd=>Binds K fd ["_law_number"] []) fun _ _ _ _ _ _ s us hk hl=>ln1 (fun _=>.of_eq rfl) us hl;have b_13:Binds K _ ["_law_number"] []:=F_law_no_bound.bindsTo (P:=fun fd=>Binds K fd ["_law_number"] []) fun _ _ _ _ _ _ s us hk hl=>ln1 (fun _=>.of_eq rfl) us hl;refine⟨_,F_law.bindsTo (P:=fun fd=>∀(s:Shared) (v:Value),BindsTo s fd ⟨[v],[]⟩ [("_law_script",v)]) (fun _ _ _ _ _ _ s v=>.of_eq rfl),fun base _ _=>?_⟩;have gI_TooGreat:=q4x (P:=l.prog) (w:=w) (mg:=mg) (base:=base) F_TooGreat___init__ m_OftenError sp_OftenError rd_OftenError fc_OftenError ei_TooGreat ci_TooGreat;have bI_TooGreat:Binds K _ ["self","most"] []:=F_TooGreat___init__.bindsTo (P:=fun fd=>Binds K fd ["self","most"] []) fun _ _ _ _ _ _ s us hk hl=>ln2 (fun _ _=>.of_eq rfl) us hl;have o_12:=qd4 (P:=l.prog) (w:=w) (mg:=mg) (base:=base) F_law_mixed n_len;have c_12:=Cal.mk o_12 (mg_of X G x_law_mixed) k_12;have o_11:=qeh (P:=l.prog) (w:=w) (mg:=mg) (base:=base) F_law_cell n_len;have c_11:=Cal.mk o_11 (mg_of X G x_law_cell) k_11;have o_15:=q9w (P:=l.prog) (w:=w) (mg:=mg) (base:=base) F_law_of_mark n_tuple n_range;have c_15:=Cal.mk o_15 (mg_of X G x_law_of_mark) k_15;have o_18:=qh6 (P:=l.prog) (w:=w) (mg:=mg) (base:=base) F_law_run c_15 b_15;have c_18:=Cal.mk o_18 (mg_of X G x_law_run) k_18;have o_16:=qej (P:=l.prog) (w:=w) (mg:=mg) (base:=base) F_law_pile c_12 b_12 c_11 b_11 c_18 b_18 n_range n_tuple;have c_16:=Cal.mk o_16 (mg_of X G x_law_pile) k_16;have o_7:=q59 (P:=l.prog) (w:=w) (mg:=mg) (base:=base) F_greatest_divisor;have c_7:=Cal.mk o_7 (mg_of X G x_greatest_divisor) k_7;have o_9:=qd7 (P:=l.prog) (w:=w) (mg:=mg) (base:=base) F_is_number n_isinstance n_int n_bool;have c_9:=Cal.mk o_9 (mg_of X G x_is_number) k_9;have o_29:=qm4 (P:=l.prog) (w:=w) (mg:=mg) (base:=base) F_share c_7 b_7 c_9 b_9;have c_29:=Cal.mk o_29 (mg_of X G x_share) k_29;have gr_share:=qju (P:=l.prog) (w:=w) (mg:=mg) (base:=base) F_share c_7 b_7 c_9 b_9 e_NoShare m_NoShare ns_NoShare;have o_4:=qel (P:=l.prog) (w:=w) (mg:=mg) (base:=base) F_bound_of c_29 b_29 n_isinstance n_tuple n_len;have c_4:=Cal.mk o_4 (mg_of X G x_bound_of) k_4;have gr_bound_of:=qdb (P:=l.prog) (w:=w) (mg:=mg) (base:=base) F_bound_of c_29 b_29 n_isinstance n_tuple n_len gr_share e_NoShare m_NoShare ns_NoShare;have o_3:=qep (P:=l.prog) (w:=w) (mg:=mg) (base:=base) F_at_least n_tuple;have c_3:=Cal.mk o_3 (mg_of X G x_at_least) k_3;have o_19:=qh9 (P:=l.prog) (w:=w) (mg:=mg) (base:=base) F_mark_of n_sum;have c_19:=Cal.mk o_19 (mg_of X G x_mark_of) k_19;have o_20:=qjx (P:=l.prog) (w:=w) (mg:=mg) (base:=base) F_marked c_19 b_19;have c_20:=Cal.mk o_20 (mg_of X G x_marked) k_20;have o_25:=q7u (P:=l.prog) (w:=w) (mg:=mg) (base:=base) F_one_ware_more n_range;have c_25:=Cal.mk o_25 (mg_of X G x_one_ware_more) k_25;have o_24:=q71 (P:=l.prog) (w:=w) (mg:=mg) (base:=base) F_one_ware_fewer n_range n_len;have c_24:=Cal.mk o_24 (mg_of X G x_one_ware_fewer) k_24;have o_8:=qm7 (P:=l.prog) (w:=w) (mg:=mg) (base:=base) F_grown c_25 b_25 c_24 b_24 n_dict n_all;have c_8:=Cal.mk o_8 (mg_of X G x_grown) k_8;have o_5:=q8u (P:=l.prog) (w:=w) (mg:=mg) (base:=base) F_count_marked c_19 b_19 n_sum;have c_5:=Cal.mk o_5 (mg_of X G x_count_marked) k_5;have o_0:=q62 (P:=l.prog) (w:=w) (mg:=mg) (base:=base) F_Growing_counted c_20 b_20 c_8 b_8 c_5 b_5 c_3 b_3 n_tuple;have c_0:CalM l.prog w K mg base "Growing" "counted" C_Growing _ _ _ _ _ _:=⟨o_0,⟨x_Growing_counted,i_0,k_0⟩⟩
 have o_1:=q7x (P:=l.prog) (w:=w) (mg:=mg) (base:=base) F_Growing_often O_Growing c_3 b_3 c_0 b_0;have c_1:CalM l.prog w K mg base "Growing" "often" C_Growing _ _ _ _ _ _:=⟨o_1,⟨x_Growing_often,i_1,k_1⟩⟩
 have o_31:=qhe (P:=l.prog) (w:=w) (mg:=mg) (base:=base) F_without n_tuple;have c_31:=Cal.mk o_31 (mg_of X G x_without) k_31;have o_10:=qk0 (P:=l.prog) (w:=w) (mg:=mg) (base:=base) F_joined n_tuple n_sorted n_set;have c_10:=Cal.mk o_10 (mg_of X G x_joined) k_10;have o_23:=q55 (P:=l.prog) (w:=w) (mg:=mg) (base:=base) F_one_step_stronger c_31 b_31 c_10 b_10 n_range;have c_23:=Cal.mk o_23 (mg_of X G x_one_step_stronger) k_23;have o_6:=qhh (P:=l.prog) (w:=w) (mg:=mg) (base:=base) F_follows c_23 b_23 n_any;have c_6:=Cal.mk o_6 (mg_of X G x_follows) k_6;have o_21:=q3m (P:=l.prog) (w:=w) (mg:=mg) (base:=base) F_marked_by_following c_6 b_6 n_dict n_tuple;have c_21:=Cal.mk o_21 (mg_of X G x_marked_by_following) k_21;have o_27:=qdh (P:=l.prog) (w:=w) (mg:=mg) (base:=base) F_saying_of c_29 b_29 c_10 b_10;have c_27:=Cal.mk o_27 (mg_of X G x_saying_of) k_27;have o_22:=qrj (P:=l.prog) (w:=w) (mg:=mg) (base:=base) F_met n_tuple;have c_22:=Cal.mk o_22 (mg_of X G x_met) k_22;have o_30:=qdk (P:=l.prog) (w:=w) (mg:=mg) (base:=base) F_whats_for c_22 b_22;have c_30:=Cal.mk o_30 (mg_of X G x_whats_for) k_30;have o_26:=qhl (P:=l.prog) (w:=w) (mg:=mg) (base:=base) F_reaches;have c_26:=Cal.mk o_26 (mg_of X G x_reaches) k_26;have o_28:=qhm (P:=l.prog) (w:=w) (mg:=mg) (base:=base) F_sayings O_Growing m_Growing c_4 b_4 c_1 b_1 c_21 b_21 c_27 b_27 c_30 b_30 c_26 b_26 n_dict g_MOST_WARES_SAID;have c_28:=Cal.mk o_28 (mg_of X G x_sayings) k_28;have gr_sayings:=qeq (P:=l.prog) (w:=w) (mg:=mg) (base:=base) F_sayings O_Growing m_Growing c_4 b_4 c_1 b_1 c_21 b_21 c_27 b_27 c_30 b_30 c_26 b_26 n_dict g_MOST_WARES_SAID gr_bound_of ei_TooGreat gI_TooGreat bI_TooGreat tI_TooGreat kp_TooGreat m_TooGreat ns_TooGreat;have o_17:=qa0 (P:=l.prog) (w:=w) (mg:=mg) (base:=base) F_law_refused c_28 b_28 bd_sayings_1 dv_sayings_1 dd_sayings_1 ns_NoShare cx_NoShare m_NoShare ns_TooGreat cx_TooGreat m_TooGreat tp_TooGreat mr_TooGreat_TooGreat mr_NoShare_TooGreat tp_NoShare mr_TooGreat_NoShare mr_NoShare_NoShare gr_sayings ci_TooGreat m_NoRun m_NoStore m_NoText m_NoTree m_NotThere ka_TooGreat_NoRun_NoShare_NoStore_NoText_NoTree_NotThere m_OftenError kt_TooGreat_OftenError kt_TooGreat_ValueError ka_NoShare_NoRun_NoStore_NoText_NoTree_NotThere kt_NoShare_OftenError kt_NoShare_ValueError n_isinstance n_ValueError;have c_17:=Cal.mk o_17 (mg_of X G x_law_refused) k_17;have o_14:=qhq (P:=l.prog) (w:=w) (mg:=mg) (base:=base) F_law_odd;have c_14:=Cal.mk o_14 (mg_of X G x_law_odd) k_14;have o_13:=q92 (P:=l.prog) (w:=w) (mg:=mg) (base:=base) F_law_no_bound c_14 b_14;have c_13:=Cal.mk o_13 (mg_of X G x_law_no_bound) k_13;exact qqo (qrl (P:=l.prog) (w:=w) (mg:=mg) (base:=base) F_law c_16 b_16 c_11 b_11 c_17 b_17 c_13 b_13 c_28 b_28 bd_sayings_1 dv_sayings_1 dd_sayings_1 n_range n_isinstance n_bool n_len) hm
end My
namespace PySem.W.Fast
theorem tw15903387515517464711 : True := trivial
theorem tw10739348032296931761 : True := trivial
theorem tw11219431853579436492 : True := trivial
theorem tw8177170601725982365 : True := trivial
theorem tw3232852052142421612 : True := trivial
theorem tw13502291101700182246 : True := trivial
theorem tw11971587980391364506 : True := trivial
theorem tw15757889269175801448 : True := trivial
theorem tw855688226201619039 : True := trivial
theorem tw17917331406962513601 : True := trivial
theorem tw18440371277475051068 : True := trivial
theorem tw11505807202395105064 : True := trivial
theorem tw13212157153650550028 : True := trivial
theorem tw11762858471340757102 : True := trivial
theorem tw14095166221251624442 : True := trivial
theorem tw4166224556442285294 : True := trivial
theorem tw7061586560372232984 : True := trivial
theorem tw11890446338927353207 : True := trivial
theorem tw4304603174020424165 : True := trivial
theorem tw7902907069656277986 : True := trivial
theorem tw11375470895199940057 : True := trivial
theorem tw10601054130392530210 : True := trivial
theorem tw17965793992178396424 : True := trivial
theorem tw3504370400553276934 : True := trivial
theorem tw4336765210190561992 : True := trivial
theorem tw8942083319464466841 : True := trivial
theorem tw9075996831575216906 : True := trivial
theorem tw15641475095083774468 : True := trivial
theorem tw8890850051461297185 : True := trivial
theorem tw8857552395419719131 : True := trivial
theorem tw16453918865450155056 : True := trivial
theorem tw10270937287116747003 : True := trivial
theorem tw5195257966080925247 : True := trivial
end PySem.W.Fast
open PySem PySem.W PyProof.Rows
local macro_rules | `(tactic| walk_at "F")=> `(tactic| (letI:DL.Lam:=⟨[]⟩;exact DL.q3x (by k_is) (by k_is) (by k_is)))
set_option maxHeartbeats 0 in
theorem PySem.Challenge.cw_oftentogether_k34_sayings_refused_holds : PySem.Challenge.rw_oftentogether_k34_sayings_refused.Holds := by
 w_on;o_law;k_head;(case hw=>w_witness2)
 k_fill
 letI:DL.Lam:=⟨[]⟩
 refine DL.qqp rfl (l:=PySem.Challenge.rw_oftentogether_k34_sayings_refused) (k:=7) (x:="_law_script") rfl rfl ⟨rfl,by decide,by decide⟩ (fun w h Y=>PySem.W.kIn_of Y) ?F
 case F=>
  intro w mg fa h KX G hmg;refine' My.all_mk KX G hmg My.qmw ?x_Growing ?mk_Growing ?in_Growing ?kp_Growing ?pg_Growing ?hd_Growing ?po_Growing ?sa_Growing ?cg_Growing ?cc_Growing ?cs_Growing ?ct_Growing ?cm_Growing ?ciint_Growing ?cibool_Growing ?cituple_Growing ?cilist_Growing ?cistr_Growing ?cidict_Growing ?x_law_mixed ?F_law_mixed ?x_law_cell ?F_law_cell ?x_law_of_mark ?F_law_of_mark ?x_law_run ?F_law_run ?x_law_pile ?F_law_pile ?x_greatest_divisor ?F_greatest_divisor ?x_is_number ?F_is_number ?x_share ?F_share ?x_bound_of ?F_bound_of ?x_at_least ?F_at_least ?x_mark_of ?F_mark_of ?x_marked ?F_marked ?x_one_ware_more ?F_one_ware_more ?x_one_ware_fewer ?F_one_ware_fewer ?x_grown ?F_grown ?x_count_marked ?F_count_marked ?x_Growing_counted ?i_0 ?l_0 ?q_0 ?k_0 ?x_Growing_often ?i_1 ?l_1 ?q_1 ?k_1 ?x_without ?F_without ?x_joined ?F_joined ?x_one_step_stronger ?F_one_step_stronger ?x_follows ?F_follows ?x_marked_by_following ?F_marked_by_following ?x_saying_of ?F_saying_of ?x_met ?F_met ?x_whats_for ?F_whats_for ?x_reaches ?F_reaches ?x_sayings ?l_28 ?q_28 ?k_28 ?d_sayings ?x_law_refused ?F_law_refused ?x_law_odd ?F_law_odd ?x_law_no_bound ?F_law_no_bound ?x_law ?F_law ?ns_NoShare ?ns_TooGreat ?ns_NoRun ?ns_NoStore ?ns_NoText ?ns_NoTree ?ns_NotThere ?ns_OftenError ?e_NoShare ?tp_NoShare ?ga_NoShare ?gk_NoShare ?cc_NoShare ?cs_NoShare ?ct_NoShare ?cm_NoShare ?cb_NoShare ?ciint_NoShare ?cibool_NoShare ?cituple_NoShare ?cilist_NoShare ?cistr_NoShare ?cidict_NoShare ?x_TooGreat___init__ ?l_2 ?q_2 ?k_2 ?ei_TooGreat ?tI_TooGreat ?kp_TooGreat ?tp_TooGreat ?ga_TooGreat ?gk_TooGreat ?cc_TooGreat ?cs_TooGreat ?ct_TooGreat ?cm_TooGreat ?cb_TooGreat ?ciint_TooGreat ?cibool_TooGreat ?cituple_TooGreat ?cilist_TooGreat ?cistr_TooGreat ?cidict_TooGreat ?sa_TooGreat ?ov_TooGreat ?na_TooGreat ?hd_TooGreat ?sp_OftenError ?rd_OftenError ?fc_OftenError ?mr_TooGreat_TooGreat ?mr_NoShare_TooGreat ?mr_TooGreat_NoShare ?mr_NoShare_NoShare ?ka_TooGreat_NoRun_NoShare_NoStore_NoText_NoTree_NotThere ?kt_TooGreat_OftenError ?kt_TooGreat_ValueError ?ka_NoShare_NoRun_NoStore_NoText_NoTree_NotThere ?kt_NoShare_OftenError ?kt_NoShare_ValueError ?z_len ?z_tuple ?z_range ?z_isinstance ?z_int ?z_bool ?z_sum ?z_dict ?z_all ?z_sorted ?z_set ?z_any ?z_ValueError ?y_MOST_WARES_SAID
  (case x_Growing=>k_is)
  (case mk_Growing=>k_is)
  (case in_Growing=>k_is)
  (case kp_Growing=>k_is)
  (case pg_Growing=>k_is)
  (case hd_Growing=>k_is)
  (case po_Growing=>k_is)
  (case sa_Growing=>k_is)
  (case cg_Growing=>k_is)
  (case cc_Growing=>k_is)
  (case cs_Growing=>k_is)
  (case ct_Growing=>k_is)
  (case cm_Growing=>k_is)
  (case ciint_Growing=>k_is)
  (case cibool_Growing=>k_is)
  (case cituple_Growing=>k_is)
  (case cilist_Growing=>k_is)
  (case cistr_Growing=>k_is)
  (case cidict_Growing=>k_is)
  (case x_law_mixed=>k_is)
  (case F_law_mixed=>walk_at "F")
  (case x_law_cell=>k_is)
  (case F_law_cell=>walk_at "F")
  (case x_law_of_mark=>k_is)
  (case F_law_of_mark=>walk_at "F")
  (case x_law_run=>k_is)
  (case F_law_run=>walk_at "F")
  (case x_law_pile=>k_is)
  (case F_law_pile=>walk_at "F")
  (case x_greatest_divisor=>k_is)
  (case F_greatest_divisor=>walk_at "F")
  (case x_is_number=>k_is)
  (case F_is_number=>walk_at "F")
  (case x_share=>k_is)
  (case F_share=>walk_at "F")
  (case x_bound_of=>k_is)
  (case F_bound_of=>walk_at "F")
  (case x_at_least=>k_is)
  (case F_at_least=>walk_at "F")
  (case x_mark_of=>k_is)
  (case F_mark_of=>walk_at "F")
  (case x_marked=>k_is)
  (case F_marked=>walk_at "F")
  (case x_one_ware_more=>k_is)
  (case F_one_ware_more=>walk_at "F")
  (case x_one_ware_fewer=>k_is)
  (case F_one_ware_fewer=>walk_at "F")
  (case x_grown=>k_is)
  (case F_grown=>walk_at "F")
  (case x_count_marked=>k_is)
  (case F_count_marked=>walk_at "F")
  (case x_Growing_counted=>k_is)
  (case i_0=>k_is)
  (case l_0=>k_is)
  (case q_0=>k_is)
  (case k_0=>k_is)
  (case x_Growing_often=>k_is)
  (case i_1=>k_is)
  (case l_1=>k_is)
  (case q_1=>k_is)
  (case k_1=>k_is)
  (case x_without=>k_is)
  (case F_without=>walk_at "F")
  (case x_joined=>k_is)
  (case F_joined=>walk_at "F")
  (case x_one_step_stronger=>k_is)
  (case F_one_step_stronger=>walk_at "F")
  (case x_follows=>k_is)
  (case F_follows=>walk_at "F")
  (case x_marked_by_following=>k_is)
  (case F_marked_by_following=>walk_at "F")
  (case x_saying_of=>k_is)
  (case F_saying_of=>walk_at "F")
  (case x_met=>k_is)
  (case F_met=>walk_at "F")
  (case x_whats_for=>k_is)
  (case F_whats_for=>walk_at "F")
  (case x_reaches=>k_is)
  (case F_reaches=>walk_at "F")
  (case x_sayings=>k_is)
  (case l_28=>k_is)
  (case q_28=>k_is)
  (case k_28=>k_is)
  (case d_sayings=>k_is)
  (case x_law_refused=>k_is)
  (case F_law_refused=>walk_at "F")
  (case x_law_odd=>k_is)
  (case F_law_odd=>walk_at "F")
  (case x_law_no_bound=>k_is)
  (case F_law_no_bound=>walk_at "F")
  (case x_law=>k_is)
  (case F_law=>walk_at "F")
  (case ns_NoShare=>k_is)
  (case ns_TooGreat=>k_is)
  (case ns_NoRun=>k_is)
  (case ns_NoStore=>k_is)
  (case ns_NoText=>k_is)
  (case ns_NoTree=>k_is)
  (case ns_NotThere=>k_is)
  (case ns_OftenError=>k_is)
  (case e_NoShare=>first|kernel_rfl|rfl)
  (case tp_NoShare=>first|k_is|kernel_rfl|rfl)
  (case ga_NoShare=>k_is)
  (case gk_NoShare=>k_is)
  (case cc_NoShare=>k_is)
  (case cs_NoShare=>k_is)
  (case ct_NoShare=>k_is)
  (case cm_NoShare=>k_is)
  (case cb_NoShare=>k_is)
  (case ciint_NoShare=>first|kernel_rfl|rfl)
  (case cibool_NoShare=>first|kernel_rfl|rfl)
  (case cituple_NoShare=>first|kernel_rfl|rfl)
  (case cilist_NoShare=>first|kernel_rfl|rfl)
  (case cistr_NoShare=>first|kernel_rfl|rfl)
  (case cidict_NoShare=>first|kernel_rfl|rfl)
  (case x_TooGreat___init__=>k_is)
  (case l_2=>k_is)
  (case q_2=>k_is)
  (case k_2=>k_is)
  (case ei_TooGreat=>first|kernel_rfl|rfl)
  (case tI_TooGreat=>k_is)
  (case kp_TooGreat=>k_is)
  (case tp_TooGreat=>first|k_is|kernel_rfl|rfl)
  (case ga_TooGreat=>k_is)
  (case gk_TooGreat=>k_is)
  (case cc_TooGreat=>k_is)
  (case cs_TooGreat=>k_is)
  (case ct_TooGreat=>k_is)
  (case cm_TooGreat=>k_is)
  (case cb_TooGreat=>k_is)
  (case ciint_TooGreat=>first|kernel_rfl|rfl)
  (case cibool_TooGreat=>first|kernel_rfl|rfl)
  (case cituple_TooGreat=>first|kernel_rfl|rfl)
  (case cilist_TooGreat=>first|kernel_rfl|rfl)
  (case cistr_TooGreat=>first|kernel_rfl|rfl)
  (case cidict_TooGreat=>first|kernel_rfl|rfl)
  (case sa_TooGreat=>k_is)
  (case ov_TooGreat=>first|kernel_rfl|rfl)
  (case na_TooGreat=>k_is)
  (case hd_TooGreat=>k_is)
  (case sp_OftenError=>k_is)
  (case rd_OftenError=>k_is)
  (case fc_OftenError=>k_is)
  (case mr_TooGreat_TooGreat=>first|k_is|kernel_rfl|rfl)
  (case mr_NoShare_TooGreat=>first|k_is|kernel_rfl|rfl)
  (case mr_TooGreat_NoShare=>first|k_is|kernel_rfl|rfl)
  (case mr_NoShare_NoShare=>first|k_is|kernel_rfl|rfl)
  (case ka_TooGreat_NoRun_NoShare_NoStore_NoText_NoTree_NotThere=>first|kernel_rfl|rfl)
  (case kt_TooGreat_OftenError=>first|kernel_rfl|rfl)
  (case kt_TooGreat_ValueError=>first|kernel_rfl|rfl)
  (case ka_NoShare_NoRun_NoStore_NoText_NoTree_NotThere=>first|kernel_rfl|rfl)
  (case kt_NoShare_OftenError=>first|kernel_rfl|rfl)
  (case kt_NoShare_ValueError=>first|kernel_rfl|rfl)
  (case z_len=>k_is)
  (case z_tuple=>k_is)
  (case z_range=>k_is)
  (case z_isinstance=>k_is)
  (case z_int=>k_is)
  (case z_bool=>k_is)
  (case z_sum=>k_is)
  (case z_dict=>k_is)
  (case z_all=>k_is)
  (case z_sorted=>k_is)
  (case z_set=>k_is)
  (case z_any=>k_is)
  (case z_ValueError=>k_is)
  (case y_MOST_WARES_SAID=>k_is)
