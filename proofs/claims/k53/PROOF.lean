import PyProof.Rows.All
import Wide.All
import OpenK.AllK
import Wide.FinOn
import Lean
import PyProof.EqAt
import PyProof.EqKinds
import PyProof.TupleCall
import PyProof.NeKinds
import PyProof.Rows.SortRuns
import PyProof.Rows.SortShell
import KE.KSortTup
import KE.KLam
import KE.KNestM
import PySem.SetOps
import PyProof.SetKind
import PyProof.DictKinds
import PyProof.DictStraight
import PyProof.FactsAll.set_0
import PyProof.FactsAll.set_1
import PyProof.FactsAll.set_2
import PyProof.FactsAll.set_3
import PyProof.Slots
import PyProof.Rows.SetFrom
import PyProof.TupleIter
import PyProof.Walks
import PyProof.CollectWalk
import PyProof.CollectIter
import PyProof.IsiH_list
import PyProof.AttrMiss
import KE.KDictOf
import PyProof.DictRoadsH
import PyProof.AutoSeq1
import PySem.Challenge.RW_oftentogether_k53_whole_kinds
set_option maxRecDepth 100000
set_option maxHeartbeats 4000000
set_option Elab.async false
set_option linter.all false
abbrev g9:=@PySem.wpAny_bind
abbrev gc:=@PySem.wpAny_pure
abbrev gf:=@PySem.Heap.get?_push_of_some
abbrev gh:=@Option.bind_eq_some_iff
abbrev gj:=@List.size_toArray
abbrev gm:=@Bool.false_eq_true
abbrev gq:=@List.mem_cons_self
abbrev gr:=@List.mem_cons_of_mem
abbrev gu:=@List.map_cons
abbrev gv:=@Nat.le_refl
abbrev gw:=@PyProof.Rows.wpS_bind
abbrev gz:=@PySem.Heap.lt_size
abbrev m4:=@PySem.Heap.get?_push_size
abbrev m6:=@List.mem_cons
abbrev m8:=@Nat.lt_of_lt_of_le
abbrev m9:=@Bool.false_ne_true
abbrev ma:=@List.getElem?_set_ne
abbrev md:=@Nat.ne_of_lt
abbrev mh:=@Option.some.inj
abbrev mi:=@Bool.and_eq_true
abbrev mj:=@if_neg
abbrev ml:=@Option.map_eq_some_iff
abbrev mm:=@Option.bind_some
abbrev mn:=@PyProof.Rows.wpS_pure
abbrev mq:=@if_pos
abbrev mr:=@List.append_assoc
abbrev mv:=@List.length_map
abbrev mw:=@List.mem_append_right
abbrev mx:=@Nat.le_trans
abbrev my:=@List.all_eq_true
abbrev n8:=@List.mem_singleton
abbrev n9:=@List.getElem?_map
abbrev ng:=@List.getElem?_eq_getElem
abbrev nh:=@Ne.symm
abbrev ni:=@List.getElem?_eq_some_iff
abbrev nj:=@List.length_append
abbrev nk:=@decide_eq_true
abbrev nt:=@List.filter_cons
abbrev nu:=@List.mem_append
abbrev nv:=@List.mem_map
abbrev ny:=@if_true
abbrev nz:=@List.pairwise_append
abbrev p0:=@List.take_append_drop
abbrev p5:=@List.length_cons
abbrev p6:=@List.getElem?_append_right
abbrev p7:=@Array.length_toList
abbrev p8:=@if_false
abbrev p9:=@List.getElem?_append_left
abbrev pb:=@Option.map_some
abbrev pd:=@PySem.Heap.size_push
abbrev pf:=@Array.toList_append
abbrev ph:=@List.take_succ_eq_append_getElem
abbrev pj:=@Bool.eq_iff_iff
abbrev pk:=@List.drop_eq_getElem_cons
abbrev pq:=@decide_eq_false
abbrev pz:=@PySem.wpAny_call_entry
abbrev t5:=@List.lookup_cons
abbrev t6:=@Nat.not_lt_zero
abbrev t7:=@List.not_mem_nil
abbrev t8:=@List.map_map
abbrev t9:=@PySem.wpAny_ite_split
abbrev td:=@PySem.wpAny_field
abbrev tf:=@PySem.wpAny_mono
abbrev tq:=@PySem.wpAny_callSpecial?_slot
abbrev tu:=@Nat.ne_of_gt
abbrev tw:=@Nat.lt_succ_self
abbrev tx:=@List.length_take
abbrev u0:=@decide_eq_true_eq
abbrev u9:=@List.mem_iff_getElem
abbrev uc:=@PyProof.Rows.wpS_mono
abbrev ud:=@List.perm_append_comm
abbrev uf:=@PySem.PassesOwn.never
abbrev ug:=@PySem.wpAny_holding
abbrev uh:=@PySem.wpAny_askSetting
abbrev ui:=@List.getElem?_replicate
abbrev uj:=@PySem.wpAny_newObj_type
abbrev uk:=@of_decide_eq_true
abbrev um:=@PySem.wpAny_setField_rec
abbrev uo:=@Int.emod_nonneg
abbrev uq:=@PyProof.Rows.wpS_forRange
abbrev ur:=@PySem.Heap.SameBut.update
abbrev uw:=@List.Perm.append_left
abbrev ux:=@ite_congr
abbrev uy:=@List.length_filter_le
abbrev uz:=@PyProof.Rows.slot_tuple_getitem
abbrev g00:=@List.mem_filter
abbrev g01:=@PySem.wpAny_rule
abbrev g02:=@List.map_append
abbrev g03:=@Nat.zero_le
abbrev g04:=@Option.join_some
abbrev g05:=@List.mem_range
abbrev g06:=@congrArg
abbrev g07:=@PySem.AutoSeq1.wpAny_loadPart'
abbrev g08:=@List.nil_append
abbrev g09:=@Int.emod_lt_of_pos
abbrev g0a:=@decide_eq_false_iff_not
abbrev g0b:=@List.mem_of_getElem?
abbrev g0c:=@List.length_drop
abbrev g0d:=@PySem.Heap.size_update
abbrev g0e:=@Nat.lt_irrefl
abbrev g0f:=@PySem.Heap.get?_update_ne
abbrev g0g:=@List.length_nil
abbrev g0h:=@Array.getElem?_toList
abbrev g0i:=@List.map_nil
abbrev g0j:=@decide_eq_true_iff
abbrev g0k:=@Bool.not_true
abbrev g0l:=@Array.toList_extract
abbrev g0m:=@PySem.Around.under_plainId
abbrev g0n:=@Int.toNat_natCast
abbrev g0o:=@PySem.Heap.get?_push_ne
abbrev g0p:=@PyProof.Rows.callWith_type1
abbrev g0q:=@PySem.codeAny_builtin
abbrev g0r:=@Bool.or_eq_true
abbrev g0s:=@List.take_of_length_le
abbrev g0t:=@PySem.wpAny_attempt
abbrev g0u:=@PySem.wpAny_seqItems
abbrev g0v:=@Option.isSome_iff_exists
abbrev g0w:=@List.length_set
abbrev g0x:=@or_false
abbrev g0y:=@PyProof.Rows.size_push'
abbrev g0z:=@PySem.wpAny_truthy_bool
abbrev g10:=@List.flatMap_cons
abbrev g11:=@List.filterMap_cons
abbrev g12:=@List.replicate_succ
abbrev g13:=@PySem.Heap.get?_update_other
abbrev g14:=@List.pairwise_cons
abbrev g15:=@PyProof.Rows.F.plain_set_update_loop
abbrev g16:=@PySem.wpAny_passesOwn
abbrev g17:=@List.nodup_cons
abbrev g18:=@PySem.Heap.get?_update_self
abbrev g19:=@PySem.F.slot_tuple_iterator_next
abbrev g1a:=@Array.perm_iff_toList_perm
abbrev g1b:=@Nat.le_of_succ_le
abbrev g1c:=@Nat.lt_succ_of_lt
abbrev g1d:=@List.pairwise_map
abbrev g1e:=@List.filter_congr
abbrev g1f:=@List.mem_of_mem_take
abbrev g1g:=@Classical.byContradiction
abbrev g1h:=@List.Pairwise.filter
abbrev g1i:=@PySem.wpAny_isInstance
abbrev g1j:=@PySem.AutoSeq1.sub_tuple_tuple
abbrev g1k:=@PySem.F.called_set
abbrev g1l:=@PySem.mem_of_lookup
abbrev g1m:=@List.all_cons
abbrev g1n:=@PySem.wpAny_Call_Name_kw
abbrev g1o:=@List.forIn_cons
abbrev g1p:=@PyProof.Rows.get?_update_seq
abbrev g1q:=@List.range_succ_eq_map
abbrev g1r:=@List.getElem_cons_succ
abbrev g1s:=@PyProof.Rows.kinds_of
abbrev g1t:=@Option.some.injEq
abbrev g1u:=@PySem.Heap.SameBut.refl
abbrev g1v:=@List.flatten_cons
abbrev g1w:=@PySem.wpAny_storeSet_of
abbrev g1x:=@PySem.wpAny_typeOf
abbrev g1y:=@List.cons.sizeOf_spec
abbrev g1z:=@PySem.F.slot_enumerate_next
abbrev g20:=@Bool.not_false
abbrev g21:=@PySem.isSubtype_type
abbrev g22:=@PySem.builtinLookup_eq_fast
abbrev g23:=@List.mem_append_left
abbrev g24:=@beq_iff_eq
abbrev g25:=@PySem.codeAny_call_builtin
abbrev g26:=@PySem.F.slot_tuple_mul
abbrev g27:=@PySem.plainId_quiet
abbrev g28:=@PySem.sizeLine_eq
abbrev g29:=@Nat.le_succ
abbrev g2a:=@List.mem_map_of_mem
abbrev g2b:=@List.append_nil
abbrev g2c:=@List.of_mem_zip
abbrev g2d:=@PySem.wpAny_loadPart'
abbrev g2e:=@List.length_zip
abbrev g2f:=@PySem.codeAny_mono
abbrev g2g:=@PySem.F.args_tuple_add_2
abbrev g2h:=@List.filterMap_map
abbrev g2i:=@PySem.wpAny_comprehension_free
abbrev g2j:=@PySem.Obj.data_mapFields
abbrev g2k:=@getElem?_pos
abbrev g2l:=@List.Pairwise.drop
abbrev g2m:=@List.Pairwise.take
abbrev g2n:=@List.Pairwise.imp_of_mem
abbrev g2o:=@PyProof.Rows.F.entry_set_update_loop
abbrev g2p:=@PySem.F.slot_list_getattribute
abbrev g2q:=@Bool.false_and
abbrev g2r:=@List.forIn_nil
abbrev g2s:=@PySem.wpAny_setField
abbrev g2t:=@PyProof.Rows.wpS_get
abbrev g2u:=@PySem.F.entry_tuple_add
abbrev g2v:=@List.pairwise_singleton
abbrev g2w:=@List.eraseIdx_cons_succ
abbrev g2x:=@List.getElem?_cons_succ
abbrev g2y:=@List.getElem?_cons_zero
abbrev g2z:=@PySem.wpAny_pyIter_list
abbrev g30:=@Bool.not_eq_true'
abbrev g31:=@PySem.wpAny_setState_of
abbrev g32:=@PySem.W.cellsFrom_some
abbrev g33:=@PySem.F.slot_tuple_add
abbrev g34:=@List.filter_eq_nil_iff
abbrev g35:=@Bool.false_or
abbrev g36:=@List.cons_append
abbrev g37:=@Nat.le_add_right
abbrev g38:=@List.any_eq_true
abbrev g39:=@List.length_replicate
abbrev g3a:=@List.length_singleton
abbrev g3b:=@PySem.wpAny_execs_nil
abbrev g3c:=@PySem.wpAny_call
abbrev g3d:=@PySem.call_meets
abbrev g3e:=@Nat.min_self
abbrev g3f:=@PySem.wpAny_updateSeq_pair
abbrev g3g:=@PySem.F.slot_zip_next
abbrev g3h:=@PySem.wpAny_ite_false
abbrev g3i:=@PyProof.Rows.wpS_modify
abbrev g3j:=@List.mem_of_mem_drop
abbrev g3k:=@Array.getElem_toList
abbrev g3l:=@Array.toList_reverse
abbrev g3m:=@PySem.intKind_is
abbrev g3n:=@PySem.typeLookup_type
abbrev g3o:=@Nat.pow_le_pow_right
abbrev g3p:=@List.eq_nil_of_length_eq_zero
abbrev g3q:=@List.length_zipWith
abbrev g3r:=@List.map_congr_left
abbrev g3s:=@List.drop_zero
abbrev g3t:=@PySem.F.args_tuple_iterator_next_1
abbrev g3u:=@List.Perm.refl
abbrev g3v:=@List.drop_drop
abbrev g3w:=@PySem.wpAny_letGo
abbrev g3x:=@List.mem_filterMap
abbrev g3y:=@List.lookup_append
abbrev g3z:=@PySem.F.attrBase_ValueError
abbrev g40:=@PySem.wpAny_pyIter_tuple
abbrev g41:=@PySem.F.entry_tuple_iterator_next
abbrev g42:=@not_or
abbrev g43:=@PySem.F.args_tuple_mul_2
abbrev g44:=@Bool.not_eq_false'
abbrev g45:=@List.filter_filter
abbrev g46:=@PySem.Paired.length
abbrev g47:=@Int.fdiv_eq_ediv_of_nonneg
abbrev g48:=@PySem.mem_of_lookup
abbrev g49:=@PySem.wpAny_onRaise
abbrev g4a:=@Array.toList_setIfInBounds
abbrev g4b:=@Bool.true_and
abbrev g4c:=@List.perm_ext_iff_of_nodup
abbrev g4d:=@List.sum_cons
abbrev g4e:=@List.getElem?_set
abbrev g4f:=@PySem.F.entry_tuple_mul
abbrev g4g:=@Function.comp_def
abbrev g4h:=@List.pairwise_iff_getElem
abbrev g4i:=@List.getElem_append_right
abbrev g4j:=@Array.getElem?_eq_getElem
abbrev g4k:=@List.findIdx?_eq_none_iff
abbrev g4l:=@Nat.le_of_lt
abbrev g4m:=@List.getElem_inj
abbrev g4n:=@List.getElem?_take_of_lt
abbrev g4o:=@PySem.concat_meets
abbrev g4p:=@PySem.noFill_tuple_add
abbrev g4q:=@beq_self_eq_true
abbrev g4r:=@List.drop_length
abbrev g4s:=@List.take_length
abbrev g4t:=@List.all_map
abbrev g4u:=@List.zipIdx_cons
abbrev g4v:=@PySem.AutoSeq1.idx_int
abbrev g4w:=@List.getElem_append_left
abbrev g4x:=@List.getElem_mem
abbrev g4y:=@List.nodup_range
abbrev g4z:=@decide_eq_decide
abbrev g50:=@decide_false
abbrev g51:=@List.isEmpty_iff
abbrev g52:=@PySem.F.plainAttrs_list
abbrev g53:=@List.length_eq_zero_iff
abbrev g54:=@PySem.SeqAt.EqAt.same
abbrev g55:=@PySem.pushCells_keeps
abbrev g56:=@PySem.W.kia_one
abbrev g57:=@List.foldl_cons
abbrev g58:=@PySem.wpAny_updateSeq
abbrev g59:=@List.getElem?_set_self
abbrev g5a:=@List.sum_replicate_nat
abbrev g5b:=@List.drop_of_length_le
abbrev g5c:=@List.getElem_cons_zero
abbrev g5d:=@List.pairwise_lt_range
abbrev g5e:=@decide_true
abbrev g5f:=@List.mem_iff_getElem?
abbrev g5g:=@List.singleton_append
abbrev g5h:=@List.getElem?_zipWith
abbrev g5i:=@List.take_succ
abbrev g5j:=@List.getElem?_eq_none
abbrev g5k:=@Option.some_or
abbrev g5l:=@Nat.not_lt
abbrev g5m:=@Bool.or_false
abbrev g5n:=@List.any_cons
abbrev g5o:=@Nat.le_of_eq
abbrev g5p:=@Nat.lt_or_ge
namespace L2
open PySem PySem.Spec PyProof.Rows
abbrev Key:=Sum Int Str
def qne:Key->Value->Bool
 | .inl k,v=>Value.isInt k v
 | .inr x,v=>Value.isStrOf x v
def qu3(w:World): Key->Int
 | .inl k=>hashInt k
 | .inr x=>hashStr w x
theorem jy:∀ {k:Key} {v:Value},qne k v=true->(∃i t,k=Sum.inl i/\v=Value.int i t)\/(∃x t,k=Sum.inr x/\v=Value.str x t)
 | .inl i,v,h=>by
  obtain⟨t,e⟩:=Value.isInt_shape (k:=i) (v:=v) h;exact .inl ⟨i,t,rfl,e⟩
 | .inr x,v,h=>by
  obtain⟨t,e⟩:=Value.isStrOf_shape (x:=x) (v:=v) h;exact .inr ⟨x,t,rfl,e⟩
theorem qq9(a b:Int): decide ((Sum.inl a:Key)=Sum.inl b)=(a==b):=by
 by_cases e:a=b
 ·subst e;simp
 ·have h:¬(Sum.inl a:Key)=Sum.inl b:=fun q=>e (Sum.inl.inj q)
  rw [pq h];exact(beq_eq_false_iff_ne.mpr e).symm
theorem qqa(a b:Str): decide ((Sum.inr a:Key)=Sum.inr b)=decide (a=b):=by
 by_cases e:a=b
 ·subst e;simp
 ·have h:¬(Sum.inr a:Key)=Sum.inr b:=fun q=>e (Sum.inr.inj q)
  rw [pq h,pq e]
theorem qqb(a:Int)(b:Str): decide ((Sum.inl a:Key)=Sum.inr b)=false:=pq (fun q=>nomatch q)
theorem qqc(a:Str)(b:Int): decide ((Sum.inr a:Key)=Sum.inl b)=false:=pq (fun q=>nomatch q)
def mixKind(prog:Program)(w:World): PySem.KeyKind prog w Key where
 is:=qne
 hash:=qu3 w
 inj:=fun v a b ha hb=>by
  rcases jy ha with⟨i,t,rfl,rfl⟩|⟨x,t,rfl,rfl⟩
  ·rcases jy hb with⟨j,u,rfl,e⟩|⟨y,u,rfl,e⟩
   ·injection e with e1 _;rw [e1]
   ·exact nomatch e
  ·rcases jy hb with⟨j,u,rfl,e⟩|⟨y,u,rfl,e⟩
   ·exact nomatch e
   ·injection e with e1 _;rw [e1]
 byValue:=fun k v h=>by
  rcases jy h with⟨i,t,rfl,rfl⟩|⟨x,t,rfl,rfl⟩ <;> rfl
 pyHash:=fun hv h=>by
  rcases jy hv with⟨i,t,rfl,rfl⟩|⟨x,t,rfl,rfl⟩
  ·exact wpAny_pyHash_int h
  ·exact wpAny_pyHash_str h
 eqBool:=fun hu hv h=>by
  rcases jy hu with⟨i,t,rfl,rfl⟩|⟨x,t,rfl,rfl⟩
  ·rcases jy hv with⟨j,u,rfl,rfl⟩|⟨y,u,rfl,rfl⟩
   ·rw [qq9] at h;exact wpAny_eqBool_int h
   ·rw [qqb] at h;exact SeqAt.EqAt.int_str i t y u _ _ _ _ h
  ·rcases jy hv with⟨j,u,rfl,rfl⟩|⟨y,u,rfl,rfl⟩
   ·rw [qqc] at h;exact SeqAt.EqAt.str_int x t j u _ _ _ _ h
   ·rw [qqa] at h;exact wpAny_eqBool_str h
 «strs» :=fun k x t v h=>by
  rcases jy h with⟨i,u,rfl,e⟩|⟨y,u,rfl,e⟩
  ·exact nomatch e
  ·injection e with e1 _
   subst e1;cases v <;> rfl
inductive V where
 | non|bl (b:Bool)|int (i:Int)|str (x:Str)|byt (b:Array UInt8)|flt (b:UInt64)|ref (a:Addr)|ty (n:String)
 deriving DecidableEq
def RelV:V->Value->Prop
 | .non,u=>u=Value.none
 | .bl b,u=>u=Value.bool b
 | .int i,u=>∃t,u=Value.int i t
 | .str x,u=>∃t,u=Value.str x t
 | .byt b,u=>∃t,u=Value.bytes b t
 | .flt b,u=>∃t,u=Value.float b t
 | .ref a,u=>u=Value.ref a
 | .ty n,u=>u=Value.type n
abbrev Vals:List V->List Value->Prop:=Paired RelV
theorem Vals.length{xs:List V}{us:List Value}(r:Vals xs us): xs.length=us.length:=g46 r
theorem Vals.get:∀ {xs:List V} {us:List Value} {i:Nat} {x:V},Vals xs us->xs[i]? = some x->∃u,us[i]? = some u/\RelV x u
 | _,_,_,_,.nil,e=>by simp at e
 | _,_,0,_,.cons r _,e=>by simp at e;subst e;exact⟨_,rfl,r⟩
 | _,_,i+1,x,.cons _ t,e=>by
  obtain⟨u,h1,h2⟩:=Vals.get (i:=i) (x:=x) t (by simpa using e);exact⟨u,by simpa using h1,h2⟩
theorem Vals.append:∀ {xs ys:List V} {us ws:List Value},Vals xs us->Vals ys ws->Vals (xs++ys) (us++ws)
 | _,_,_,_,.nil,s=>s
 | _,_,_,_,.cons r t,s=>.cons r (Vals.append t s)
theorem Vals.take:∀ {xs:List V} {us:List Value} (n:Nat),Vals xs us->Vals (xs.take n) (us.take n)
 | _,_,0,_=>.nil
 | _,_,_+1,.nil=>.nil
 | _,_,n+1,.cons r t=>.cons r (Vals.take n t)
theorem Vals.drop:∀ {xs:List V} {us:List Value} (n:Nat),Vals xs us->Vals (xs.drop n) (us.drop n)
 | _,_,0,r=>r
 | _,_,_+1,.nil=>.nil
 | _,_,n+1,.cons _ t=>Vals.drop n t
def RelO:Option V->Option Value->Prop
 | some v,some u=>RelV v u
 | none,none=>True
 | _,_=>False
def KV{κ : Type}: List (κ × V)->List (κ × Value)->Prop:=Paired fun(p : κ × V) (q : κ × Value)=>p.1=q.1/\RelV p.2 q.2
def kV:Key->V
 | .inl i=>.int i
 | .inr x=>.str x
inductive HO where
 /-- a list -/
 | lst (xs:List V)
 /-- a tuple (never changes) -/
 | tup (xs:List V)
 /-- a dict whose keys are ints and texts; one whose keys are tuples of ints and texts (the empty one is both) -/
 | dK (kvs:List (Key×V))|dT (kvs:List (List Key×V))
 /-- a set of ints: its members, its size -/
 | set (S:Int->Bool) (n:Nat)
 /-- an instance of the class at C, its dict at dx, its attributes -/
 | ins (C dx:Addr) (fs:List (Str×V))
 /-- the dict of the instance at x -/
 | own (x:Addr)
 /-- the dict of an exception -/
 | xd (fs:List (Str×V))
 /-- a bound method, f of x -/
 | met (f x:Addr)
 /-- a range object lo, lo + 1, .. below hi -/
 | rng (lo hi:Int)
 /-- a thing that is known to the object (the script; a dict while a loop walks it): read, never written while it is so -/
 | frz (o:Obj) (u:HO)
 /-- a code object's table -/
 | tbl (ps:Array Value)
 /-- any other thing, by what is true of its one object (a def of one's own: SetO a S n := HO.ext fun h => ..) -/
 | ext (φ : Heap->Prop)
abbrev Hp:=Addr->Option HO
def upd(H:Hp)(a:Addr)(o:HO): Hp:=fun b=>if b=a then some o else H b
theorem qt{H:Hp}{a:Addr}{o:HO}: upd H a o a=some o:=by unfold upd;rw [mq rfl]
theorem qk{H:Hp}{a b:Addr}{o:HO}(h:b≠a): upd H a o b=H b:=by unfold upd;rw [mj h]
theorem jc{H:Hp}{a b:Addr}{o:HO}(h:H a=some o)(h':H b=none): a≠b:=by
 intro e;subst e;rw [h] at h';cases h'
section
variable(P:Program)(w:World)
def ObjOk(H:Hp)(h:Heap)(a:Addr): HO->Prop
 | .lst xs=>xs.length<=sizeLine/\∃(its:List Value) (n:Nat),Vals xs its/\h.get? a=some {cls:=.type "list",data:=.seq its.toArray n}
 | .tup xs=>xs.length<=sizeLine/\∃its:List Value,Vals xs its/\IsTup h a its.toArray
 | .dK kvs=>kvs.length<=sizeLine/\(a==sysModules)=false/\∃vs,KV kvs vs/\h.DictOf (mixKind P w) a vs
 | .dT kvs=>kvs.length<=sizeLine/\(a==sysModules)=false/\∃xs:List (List Key×Addr×Value),
   Paired (fun(p:List Key×V) (q:List Key×Addr×Value)=>p.1=q.1/\H q.2.1=some (.tup (p.1.map kV))/\RelV p.2 q.2.2) kvs xs /\
   ∃o es ep,h.get? a=some o/\o.ExactDict/\o.data=.dict es ep/\es.toList=xs.map (entryOfKey (tupleKind (mixKind P w)))/\(xs.map (·.1)).Nodup
 | .set S n=>h.SetOf (intKind P w) a S n
 | .ins C dx fs=>H dx=some (.own a)/\fs.length<=1000/\dx≠a/\h.get? a=some (PySem.W.instObj C dx) /\
   ∃mA,h.Ns1 dx mA/\(∀f,RelO (fs.lookup f) (mA f))/\PySem.Within mA (fs.map (·.1))
 | .own _=>∃o,h.get? a=some o
 | .xd fs=>∃mA,h.Ns1 a mA/\∀f,RelO (fs.lookup f) (mA f)
 | .rng lo hi=>∃t u v,h.get? a=some {cls:=.type "range",data:=.fields #[.int lo t,.int hi u,.int 1 v]}
 | .frz o u=>h.get? a=some o/\ObjOk H h a u
 | .tbl ps=>h.get? a=some {cls:=.none,data:=.fields ps}
 | .met f x=>h.get? a=some (PySem.W.methodObj (.ref f) (.ref x))
 | .ext φ => φ h/\(∃o,h.get? a=some o)/\∀h1 h2:Heap, φ h1->(∀o,h1.get? a=some o->h2.get? a=some o) -> φ h2
def HOk(H:Hp)(h:Heap): Prop:=∀a o,H a=some o->ObjOk P w H h a o
end
section
variable{P:Program}{w:World}{H H':Hp}{h h':Heap}{a:Addr}{o:HO}
theorem ObjOk.lt(x:ObjOk P w H h a o): a<h.objs.size:=by
 cases o with
 | lst xs=>obtain⟨_,_,_,_,e⟩:=x;exact gz e
 | tup xs=>obtain⟨_,_,_,p⟩:=x;exact p.lt
 | dK kvs=>obtain⟨_,_,_,_,o,_,_,e,_⟩:=x;exact gz e
 | dT kvs=>obtain⟨_,_,_,_,o,_,_,e,_⟩:=x;exact gz e
 | set S n=>obtain⟨o,_,_,_,e,_⟩:=x;exact gz e
 | ins C dx fs=>obtain⟨_,_,_,e,_⟩:=x;exact gz e
 | own y=>obtain⟨_,e⟩:=x;exact gz e
 | xd fs=>obtain⟨_,⟨_,_,_,e,_⟩,_⟩:=x;exact gz e
 | rng lo hi=>obtain⟨_,_,_,e⟩:=x;exact gz e
 | frz ob u=>obtain⟨e,_⟩:=x;exact gz e
 | tbl ps=>exact gz (show h.get? a=some _ from x)
 | met f y=>exact gz (show h.get? a=some _ from x)
 | ext φ =>obtain⟨_,⟨_,e⟩,_⟩:=x;exact gz e
theorem Paired.mapP{α β : Type}{F G : α -> β -> Prop}: ∀ {l₁:List α} {l₂:List β},Paired F l₁ l₂->(∀a b,F a b->G a b)->Paired G l₁ l₂
 | _,_,.nil,_=>.nil
 | _,_,.cons r t,f=>.cons (f _ _ r) (Paired.mapP t f)
theorem ObjOk.stay(x:ObjOk P w H h a o)(k:∀b u,(b=a\/H b=some (.own a))->h.get? b=some u->h'.get? b=some u)
  (ho:∀b,H b=some (.own a)->H' b=some (.own a)) (ht:∀b xs,H b=some (.tup xs)->H' b=some (.tup xs)):ObjOk P w H' h' a o:=by
 induction o with
 | lst xs=>obtain⟨z,its,n,r,e⟩:=x;exact⟨z,its,n,r,k _ _ (.inl rfl) e⟩
 | tup xs=>obtain⟨z,its,r,ob,e,c⟩:=x;exact⟨z,its,r,ob,k _ _ (.inl rfl) e,c⟩
 | dK kvs=>obtain⟨z,y,vs,r,ob,es,ep,e,c⟩:=x;exact⟨z,y,vs,r,ob,es,ep,k _ _ (.inl rfl) e,c⟩
 | dT kvs=>
  obtain⟨z,y,xs,r,ob,es,ep,e,c⟩:=x;exact⟨z,y,xs,Paired.mapP r fun p q z=>⟨z.1,ht _ _ z.2.1,z.2.2⟩,ob,es,ep,k _ _ (.inl rfl) e,c⟩
 | set S n=>obtain⟨ob,es,ep,t,e,c⟩:=x;exact⟨ob,es,ep,t,k _ _ (.inl rfl) e,c⟩
 | ins C dx fs=>
  obtain⟨d,z,ne,e,mA,⟨od,es,ep,e2,c⟩,r⟩:=x;exact⟨ho _ d,z,ne,k _ _ (.inl rfl) e,mA,⟨od,es,ep,k _ _ (.inr d) e2,c⟩,r⟩
 | own y=>obtain⟨ob,e⟩:=x;exact⟨ob,k _ _ (.inl rfl) e⟩
 | xd fs=>obtain⟨mA,⟨od,es,ep,e,c⟩,r⟩:=x;exact⟨mA,⟨od,es,ep,k _ _ (.inl rfl) e,c⟩,r⟩
 | rng lo hi=>obtain⟨t,u,v,e⟩:=x;exact⟨t,u,v,k _ _ (.inl rfl) e⟩
 | frz ob u ih=>obtain⟨e,q⟩:=x;exact⟨k _ _ (.inl rfl) e,ih q⟩
 | tbl ps=>
  have e:h.get? a=some {cls:=.none,data:=.fields ps}:=x;show h'.get? a=some {cls:=.none,data:=.fields ps};exact k a _ (.inl rfl) e
 | met f y=>
  have e:h.get? a=some (PySem.W.methodObj (.ref f) (.ref y)):=x;show h'.get? a=some (PySem.W.methodObj (.ref f) (.ref y));exact k a _ (.inl rfl) e
 | ext φ =>obtain⟨p,⟨o,e⟩,st⟩:=x;exact⟨st _ _ p fun o q=>k _ _ (.inl rfl) q,⟨o,k _ _ (.inl rfl) e⟩,st⟩
theorem HOk.lt(x:HOk P w H h)(e:H a=some o): a<h.objs.size:=(x a o e).lt
theorem HOk.fresh(x:HOk P w H h)(e:h.objs.size<=a): H a=none:=by
 cases q:H a with
 | none=>rfl
 | some u=>exact absurd (m8 (x.lt q) e) (g0e _)
theorem HOk.kept(x:HOk P w H h)(k:∀b u,h.get? b=some u->h'.get? b=some u): HOk P w H h':=fun a o e=>
 (x a o e).stay (fun b u _ q=>k b u q) (fun _ q=>q) fun _ _ q=>q
theorem HOk.laid(x:HOk P w H h)(k:∀b u,h.get? b=some u->h'.get? b=some u)(hp:h.objs.size<=a)(new:ObjOk P w (upd H a o) h' a o): HOk P w (upd H a o) h':=fun b u e=>by
 have hn:=x.fresh hp
 by_cases hb:b=a
 ·subst hb;rw [qt] at e;cases e;exact new
 ·rw [qk hb] at e
  exact(x b u e).stay (fun c v _ q=>k c v q) (fun c q=>by rw [qk (jc q hn)];exact q) fun c xs q=>by rw [qk (jc q hn)];exact q
end
def Rd(H:Hp)(a:Addr)(u:HO): Prop:=H a=some u\/∃o,H a=some (.frz o u)
theorem Rd.ok{P:Program}{w:World}{H:Hp}{h:Heap}{a:Addr}{u:HO}(r:Rd H a u)(x:HOk P w H h): ObjOk P w H h a u:=by
 rcases r with r|⟨o,r⟩
 ·exact x a u r
 ·obtain⟨_,q⟩:=x a _ r
  exact q
def Mut:Option HO->Prop
 | some (.lst _)=>True
 | some (.dK _)=>True
 | some (.dT _)=>True
 | some (.set _ _)=>True
 | some (.ins _ _ _)=>True
 | some (.ext _)=>True
 | _=>False
section
variable{P:Program}{w:World}{H:Hp}{h h':Heap}{x e:Addr}{o':HO}
theorem HOk.write(ok:HOk P w H h)(mu:Mut (H x))(he:e=x\/H e=some (.own x))(k:∀b u,b≠e->h.get? b=some u->h'.get? b=some u)(heo:∃u,h'.get? e=some u)
  (new:ObjOk P w (upd H x o') h' x o'):HOk P w (upd H x o') h':=fun b u q=>by
 have nown:∀c y,H c=some (.own y)->c≠x:=fun c y r z=>by subst z;rw [r] at mu;exact mu
 have ntup:∀c xs,H c=some (.tup xs)->c≠x:=fun c xs r z=>by subst z;rw [r] at mu;exact mu
 by_cases hb:b=x
 ·subst hb;rw [qt] at q;cases q;exact new
 ·rw [qk hb] at q
  by_cases hbe:b=e
  ·have q':H b=some (.own x):=by
    rcases he with z|z
    ·exact absurd (hbe.trans z) hb
    ·rw [hbe];exact z
   rw [q] at q';cases q';obtain⟨v,hv⟩:=heo;exact⟨v,by rw [hbe];exact hv⟩
  ·refine(ok b u q).stay (fun c v hc r=>k c v ?_ r) (fun c r=>by rw [qk (nown c b r)];exact r) fun c xs r=>by rw [qk (ntup c xs r)];exact r
   rcases hc with rfl|hc
   ·exact hbe
   ·rintro rfl
    rcases he with z|z
    ·exact nown c b hc z
    ·rw [hc] at z;cases z;exact hb rfl
end
structure Un(fs ex:List Addr)(H H':Hp)(h h':Heap): Prop where
 keep:∀b o,h.get? b=some o->H b=none->b∉fs->b∉ex->h'.get? b=some o
 slot:∀b o,h.get? b=some o->H b=none->b∈fs->b∉ex->∃sl,h'.get? b=some {o with slots:=sl}
 free:∀b o,h.get? b=some o->H b=none->b∉ex->H' b=none
 there:∀b o,h.get? b=some o->b∉ex->∃o',h'.get? b=some o'
 tups:∀b xs,H b=some (.tup xs)->H' b=some (.tup xs)
 frzs:∀b o u,H b=some (.frz o u)->H' b=some (.frz o u)
 tbls:∀b ps,H b=some (.tbl ps)->∃more,H' b=some (.tbl (ps++more))
section
variable{fs fs' ex ex':List Addr}{H H1 H2:Hp}{h h1 h2 h':Heap}{a x e:Addr}{o:HO}
theorem Un.any(u:Un fs ex H H1 h h1){b:Addr}{ob:Obj}(q:h.get? b=some ob)(n:H b=none)(hx:b∉ex): ∃sl,h1.get? b=some {ob with slots:=sl}:=by
 by_cases hb:b∈fs
 ·exact u.slot b ob q n hb hx
 ·exact⟨ob.slots,u.keep b ob q n hb hx⟩
theorem Un.trans(a:Un fs ex H H1 h h1)(b:Un fs ex H1 H2 h1 h2): Un fs ex H H2 h h2 where
 keep:=fun c ob q n hc hx=>b.keep c ob (a.keep c ob q n hc hx) (a.free c ob q n hx) hc hx
 slot:=fun c ob q n hc hx=>by
  obtain⟨sl,e1⟩:=a.slot c ob q n hc hx;obtain⟨sl',e2⟩:=b.slot c _ e1 (a.free c ob q n hx) hc hx;exact⟨sl',e2⟩
 free:=fun c ob q n hx=>by
  obtain⟨o',e1⟩:=a.there c ob q hx;exact b.free c o' e1 (a.free c ob q n hx) hx
 there:=fun c ob q hx=>by
  obtain⟨o',e1⟩:=a.there c ob q hx;exact b.there c o' e1 hx
 tups:=fun c xs q=>b.tups c xs (a.tups c xs q)
 frzs:=fun c ob xs q=>b.frzs c ob xs (a.frzs c ob xs q)
 tbls:=fun c ps q=>by
  obtain⟨m1,e1⟩:=a.tbls c ps q;obtain⟨m2,e2⟩:=b.tbls c _ e1;exact⟨m1++m2,by rw [e2,Array.append_assoc]⟩
theorem Un.kept(k:∀b u,h.get? b=some u->h'.get? b=some u): Un fs ex H H h h':=
 ⟨fun b ob q _ _ _=>k b ob q,fun b ob q _ _ _=>⟨ob.slots,k b ob q⟩,fun _ _ _ n _=>n,fun b ob q _=>⟨ob,k b ob q⟩,fun _ _ q=>q,fun _ _ _ q=>q,fun _ ps q=>⟨#[],by rw [q];simp⟩⟩
theorem Un.refl:Un fs ex H H h h:=Un.kept fun _ _ q=>q
theorem Un.laid(k:∀b u,h.get? b=some u->h'.get? b=some u)(hp:h.objs.size<=a)(hn:H a=none): Un fs ex H (upd H a o) h h' where
 keep:=fun b u q _ _ _=>k b u q
 slot:=fun b u q _ _ _=>⟨u.slots,k b u q⟩
 free:=fun b u q n _=>by rw [qk (md (m8 (gz q) hp))];exact n
 there:=fun b u q _=>⟨u,k b u q⟩
 tups:=fun b xs q=>by rw [qk (jc q hn)];exact q
 frzs:=fun b u xs q=>by rw [qk (jc q hn)];exact q
 tbls:=fun b ps q=>⟨#[],by rw [qk (jc q hn),q];simp⟩
theorem Un.write(mu:Mut (H x))(he:e=x\/H e=some (.own x))(k:∀b u,b≠e->h.get? b=some u->h'.get? b=some u)(heo:∃u,h'.get? e=some u): Un fs ex H (upd H x o) h h':=by
 have hx:∀b,H b=none->b≠x:=fun b n z=>by subst z;rw [n] at mu;exact mu
 have hb:∀b,H b=none->b≠e:=fun b n z=>by
  subst z;rcases he with r|r
  ·exact hx b n r
  ·rw [n] at r;cases r
 have hm:∀b u,H b=some u->¬Mut (some u)->b≠x:=fun b u q nm z=>by subst z;rw [q] at mu;exact nm mu
 refine⟨fun b u q n _ _=>k b u (hb b n) q,fun b u q n _ _=>⟨u.slots,k b u (hb b n) q⟩,fun b u q n _=>by rw [qk (hx b n)];exact n,fun b u q _=>?_,
  fun b xs q=>by rw [qk (hm b _ q fun z=>z)];exact q,fun b u xs q=>by rw [qk (hm b _ q fun z=>z)];exact q,fun b ps q=>⟨#[],by rw [qk (hm b _ q fun z=>z),q];simp⟩⟩
 by_cases hbe:b=e
 ·subst hbe;exact heo
 ·exact⟨u,k b u hbe q⟩
end
def trk(h:Heap)(H:Hp): List Addr:=(List.range h.objs.size).filter fun a=>(H a).isSome
def q3g(h:Heap)(H:Hp): Heap:=PySem.W.hideAll h (trk h H)
theorem qht(h:Heap)(H:Hp): (q3g h H).objs.size=h.objs.size:=PySem.W.hideAll_size _ _
theorem qkg{h:Heap}{H:Hp}{b:Addr}{o:Obj}(e:h.get? b=some o)(n:H b=none): (q3g h H).get? b=some o:=
 PySem.W.hideAll_get _ e fun hm=>by
  have q:(H b).isSome=true:=(g00.mp hm).2;rw [n] at q;simp at q
theorem qnu{h:Heap}{H:Hp}{b:Addr}{o:Obj}(e:(q3g h H).get? b=some o): h.get? b=some o/\H b=none:=by
 have e':h.get? b=some o:=PySem.W.of_hideAll (trk h H) e;refine⟨e',?_⟩;cases q:H b with
 | none=>rfl
 | some x=>
  have hm:b∈trk h H:=g00.mpr ⟨g05.mpr (gz e'),by simp [q]⟩;have z:(q3g h H).get? b=none:=PySem.W.hideAll_none (trk h H) hm;rw [z] at e;cases e
def qnv(g h:Heap)(L:Addr): List (Addr×Obj):=(List.range h.objs.size).filterMap fun a=>if a=L\/(g.get? a).isSome=true then none else(h.get? a).map fun o=>(a,o)
def rest(g h:Heap)(L d:Addr): List (Addr×Obj):=(qnv g h L).filter fun p=>decide (p.1≠d)
structure Mod(K:PySem.W.Frag)(mg:Str->Option Value)(base:Heap): Prop where
 kin:K.In base
 glob:base.Ns mainGlobals mg
 blt:∃mb,base.Ns builtinsNs mb/\∀x:Str,x≠"__name__" -> mb x=bootBuiltins x
 nolimit:base.NoLimit
structure Cx where
 prog:Program
 w:World
 K:PySem.W.Frag
 mg:Str->Option Value
 base:Heap
 A:Around
 N:List Str
 s₀:Shared
 H₀:Hp
 env:Env
 outer:List Env
 stack:List Env
 ex:List Addr
 fn:Str->Bool
 calm:Bool
 pn:List (Addr×Obj)
 xe:Value->Shared->Prop
def frs(l:List Env): List Addr:=l.filterMap (·.frame)
abbrev Cx.fs(X:Cx): List Addr:=frs X.outer
def Vis(sc:Scope)(x:Str): Prop:=sc.names.lookup x=some .local\/sc.names.lookup x=some .cell\/sc.names.lookup x=some .free
def Loc(sc:Scope)(x:Str): Prop:=sc.names.lookup x=some .local\/sc.names.lookup x=some .cell
def Look(env:Env)(h:Heap)(m:Str->Option Value)(x:Str)(u:Value): Prop:=
 (env.kindOf x=some .local/\m x=some u)\/((env.kindOf x=some .cell\/env.kindOf x=some .free)/\∃c,env.cells.lookup x=some c/\h.IsCell c (some u))
structure Cx.Ok(X:Cx): Prop where
 mod:Mod X.K X.mg X.base
 kind:X.env.scope.kind=.function
 glob:X.env.globals=mainGlobals
 blt:X.env.builtins=builtinsNs
 above:X.s₀.heap.objs.size<=X.env.locals
 inj:∀x y c,X.env.cells.lookup x=some c->X.env.cells.lookup y=some c->x=y
 has:∀x,(X.env.kindOf x=some .cell\/X.env.kindOf x=some .free)->∃c,X.env.cells.lookup x=some c
 cab:∀x c,X.fn x=true->X.env.cells.lookup x=some c->X.s₀.heap.objs.size<=c
 hd:X.calm=true->X.A.handled=none
 frames:X.A.frames=some X.stack
 stk:X.stack=X.outer\/(X.stack=X.env :: X.outer/\X.env.frame=some X.env.locals)
 exf:∀b∈X.ex,b≠X.env.locals/\∀x c,X.env.cells.lookup x=some c->c≠b
 bs:∀b o,X.base.get? b=some o->X.s₀.heap.get? b=some o/\X.H₀ b=none
 bsz:X.base.objs.size<=X.s₀.heap.objs.size
 noex:∀b o,X.base.get? b=some o->b∉X.ex
 exfs:∀b∈X.ex,b∉X.fs
 funs:X.s₀.heap.FunFrames X.base X.outer
 frf:∀b∈X.fs,X.H₀ b=none
structure Inv(X:Cx)(pins:List (Addr×Obj))(σ : List (Option V))(H:Hp)(s:Shared): Prop where
 ok:X.Ok
 os:s.os=X.s₀.os
 bare:AllBare s.gens
 base:Un X.fs X.ex X.H₀ H X.s₀.heap s.heap
 loc:∃m,s.heap.Ns X.env.locals m/\∀(i:Nat) (x:Str) (v:V),X.N[i]? = some x -> σ[i]? = some (some v)->Vis X.env.scope x->∃u,RelV v u/\Look X.env s.heap m x u
 cell:∀x c,X.env.cells.lookup x=some c->∃v,s.heap.IsCell c v
 free:H X.env.locals=none
 freeC:∀x c,X.env.cells.lookup x=some c->H c=none
 pin:∀p∈X.pn++pins,s.heap.get? p.1=some p.2/\H p.1=none/\p.1≠X.env.locals/\p.1∉X.fs/\∀v,p.2.data ≠ .cell v
 hok:HOk X.prog X.w H s.heap
 len : σ.length=X.N.length
section
variable{X:Cx}{pins:List (Addr×Obj)}{σ : List (Option V)}{H H':Hp}{s:Shared}{h':Heap}
theorem Cx.Ok.nofr(ok:X.Ok){b:Addr}{o:Obj}(e:X.base.get? b=some o): b∉X.fs:=fun hb=>by
 have:=(ok.funs.mem hb).1;rw [e] at this;cases this
theorem Inv.bs(I:Inv X pins σ H s): ∀b o,X.base.get? b=some o->s.heap.get? b=some o/\H b=none:=fun b o e=>
 ⟨I.base.keep b o (I.ok.bs b o e).1 (I.ok.bs b o e).2 (I.ok.nofr e) (I.ok.noex b o e),I.base.free b o (I.ok.bs b o e).1 (I.ok.bs b o e).2 (I.ok.noex b o e)⟩
theorem Inv.bk(I:Inv X pins σ H s): ∀b o,X.base.get? b=some o->s.heap.get? b=some o:=fun b o e=>(I.bs b o e).1
theorem Inv.mod(I:Inv X pins σ H s): Mod X.K X.mg X.base:=I.ok.mod
theorem Inv.kIn(I:Inv X pins σ H s): X.K.In s.heap:=I.ok.mod.kin.keeps I.bk
theorem Inv.lt(I:Inv X pins σ H s): X.env.locals<s.heap.objs.size:=let⟨_,hn,_⟩:=I.loc;hn.lt
theorem Inv.sz(I:Inv X pins σ H s): X.s₀.heap.objs.size<=s.heap.objs.size:=mx I.ok.above (g4l I.lt)
theorem Inv.nofs(I:Inv X pins σ H s){a:Addr}(h:s.heap.objs.size<=a): a∉X.fs:=fun hb=>by
 obtain⟨_,o,ho,_⟩:=I.ok.funs.mem hb;exact absurd (m8 (gz ho) (mx I.sz h)) (g0e _)
theorem Inv.cne(I:Inv X pins σ H s): ∀x c,X.env.cells.lookup x=some c->c≠X.env.locals:=fun x c e z=>by
 obtain⟨v,o,ho,hd⟩:=I.cell x c e;obtain⟨m,⟨o',es,ep,ho',hd',_⟩,_⟩:=I.loc;rw [z,ho'] at ho;cases ho;rw [hd'] at hd;cases hd
theorem Inv.funs(I:Inv X pins σ H s): s.heap.FunFrames X.base X.outer:=by
 have all:∀(l:List Env),(∀b∈frs l,b∈X.fs)->X.s₀.heap.FunFrames X.base l->s.heap.FunFrames X.base l:=by
  intro l
  induction l with
  | nil=>intro _ _;trivial
  | cons env r ih=>
   intro hs hl;obtain⟨hk,⟨L,o,hf,hn,ho,hd⟩,hr⟩:=hl;have hL:L∈X.fs:=hs L (by unfold frs;rw [g11,hf];exact gq);obtain⟨sl,e⟩:=I.base.slot L o ho (I.ok.frf L hL) hL fun z=>I.ok.exfs L z hL;exact⟨hk,⟨L,_,hf,hn,e,hd⟩,ih (fun b hb=>hs b (by unfold frs;rw [g11,hf];exact gr _ hb)) hr⟩
 exact all X.outer (fun _ hb=>hb) I.ok.funs
theorem Inv.stack(I:Inv X pins σ H s): s.heap.FunFrames X.base X.stack:=by
 rcases I.ok.stk with e|⟨e,hf⟩
 ·rw [e];exact I.funs
 ·rw [e]
  obtain⟨m,hn,_⟩:=I.loc;refine .cons (by rw [I.ok.kind];decide) hf hn ?_ I.funs;exact Heap.get?_none_of_le (mx I.ok.bsz I.ok.above)
theorem Inv.stkSub(I:Inv X pins σ H s): ∀b∈frs X.stack,b∈X.env.locals :: X.fs:=fun b hb=>by
 rcases I.ok.stk with e|⟨e,hf⟩
 ·rw [e] at hb;exact gr _ hb
 ·rw [e] at hb
  unfold frs at hb;rw [g11,hf] at hb;exact hb
theorem Inv.stkFree(I:Inv X pins σ H s): ∀b∈frs X.stack,H b=none:=fun b hb=>by
 rcases m6.mp (I.stkSub b hb) with e|hb
 ·rw [e];exact I.free
 ·obtain⟨_,o,ho,_⟩:=I.ok.funs.mem hb
  exact I.base.free b o ho (I.ok.frf b hb) fun z=>I.ok.exfs b z hb
theorem Inv.step{g':Array GenState}{t':Nat}{d':Drawn}{ch:List Addr}(I:Inv X pins σ H s)
  (hch:∀b∈ch,(b∈X.ex\/X.s₀.heap.objs.size<=b)/\b≠X.env.locals/\(∀x c,X.env.cells.lookup x=some c->c≠b)/\∀p∈X.pn++pins,p.1≠b)
  (keep:∀b o,b≠X.env.locals->b∉X.fs->b∉ch->s.heap.get? b=some o->H b=none->h'.get? b=some o)
  (slot:∀b o,b≠X.env.locals->b∈X.fs->b∉ch->s.heap.get? b=some o->H b=none->∃sl,h'.get? b=some {o with slots:=sl}) (free:∀b o,b∉ch->s.heap.get? b=some o->H b=none->H' b=none)
  (there:∀b o,b∉ch->s.heap.get? b=some o->∃o',h'.get? b=some o')
  (tups:∀b xs,H b=some (.tup xs)->H' b=some (.tup xs)) (frzs:∀b o u,H b=some (.frz o u)->H' b=some (.frz o u)) (tbls:∀b ps,H b=some (.tbl ps)->∃more,H' b=some (.tbl (ps++more)))
  (ns:∀m,s.heap.Ns X.env.locals m->h'.Ns X.env.locals m) (hok:HOk X.prog X.w H' h') (hg:AllBare g') :
  Inv X pins σ H' {s with heap:=h',gens:=g',drawn:=d',toks:=t'}:=by
 have neL:∀b o,X.s₀.heap.get? b=some o->b≠X.env.locals:=fun b o e=>md (m8 (gz e) I.ok.above);have neC:∀b o,X.s₀.heap.get? b=some o->b∉X.ex->b∉ch:=fun b o e hx hb=>by
  rcases(hch b hb).1 with z|z
  ·exact hx z
  ·exact absurd (m8 (gz e) z) (g0e _)
 have cellK:∀x c,X.env.cells.lookup x=some c->∀v,s.heap.IsCell c v->h'.IsCell c v:=fun x c e v ⟨o,ho,hd⟩=>by
  have nch:c∉ch:=fun z=>(hch c z).2.2.1 x c e rfl
  by_cases hc:c∈X.fs
  ·obtain⟨sl,q⟩:=slot c o (I.cne x c e) hc nch ho (I.freeC x c e)
   exact⟨_,q,hd⟩
  ·exact⟨o,keep c o (I.cne x c e) hc nch ho (I.freeC x c e),hd⟩
 refine⟨I.ok,I.os,hg,⟨fun b o e n hb hx=>?_,fun b o e n hb hx=>?_,fun b o e n hx=>?_,fun b o e hx=>?_,fun b xs e=>tups b xs (I.base.tups b xs e),fun b o xs e=>frzs b o xs (I.base.frzs b o xs e),fun b ps e=>?_⟩,?_,fun x c e=>?_,?_,fun x c e=>?_,fun p hp=>?_,hok,I.len⟩
 ·exact keep b o (neL b o e) hb (neC b o e hx) (I.base.keep b o e n hb hx) (I.base.free b o e n hx)
 ·obtain⟨sl,e1⟩:=I.base.slot b o e n hb hx
  obtain⟨sl',e2⟩:=slot b _ (neL b o e) hb (neC b o e hx) e1 (I.base.free b o e n hx);exact⟨sl',e2⟩
 ·obtain⟨o',e1⟩:=I.base.there b o e hx
  exact free b o' (neC b o e hx) e1 (I.base.free b o e n hx)
 ·obtain⟨o',e1⟩:=I.base.there b o e hx
  exact there b o' (neC b o e hx) e1
 ·obtain⟨m1,e1⟩:=I.base.tbls b ps e
  obtain⟨m2,e2⟩:=tbls b _ e1;exact⟨m1++m2,by rw [e2,Array.append_assoc]⟩
 ·obtain⟨m,hn,hl⟩:=I.loc
  refine⟨m,ns m hn,fun i x v e1 e2 e3=>?_⟩;obtain⟨u,r,l⟩:=hl i x v e1 e2 e3;refine⟨u,r,?_⟩;rcases l with l|⟨k,c,e,z⟩
  ·exact .inl l
  ·exact .inr ⟨k,c,e,cellK x c e _ z⟩
 ·obtain⟨v,z⟩:=I.cell x c e
  exact⟨v,cellK x c e v z⟩
 ·obtain⟨m,⟨o,_,_,ho,_⟩,_⟩:=I.loc
  exact free _ o (fun z=>(hch _ z).2.1 rfl) ho I.free
 ·obtain⟨v,o,ho,hd⟩:=I.cell x c e
  exact free c o (fun z=>(hch c z).2.2.1 x c e rfl) ho (I.freeC x c e)
 ·obtain⟨e,n,ne,nf,d⟩:=I.pin p hp
  have nch:p.1∉ch:=fun z=>(hch p.1 z).2.2.2 p hp rfl;exact⟨keep p.1 p.2 ne nf nch e n,free p.1 p.2 nch e n,ne,nf,d⟩
theorem Inv.un{t':Nat}(I:Inv X pins σ H s)(u:Un X.fs [] H H' s.heap h')(hok:HOk X.prog X.w H' h'): Inv X pins σ H' {s with heap:=h',toks:=t'}:=by
 obtain⟨m,⟨o,es,ep,ho,r⟩,_⟩:=id I.loc;obtain⟨sl,hL⟩:=u.any ho I.free (by simp);exact I.step (g':=s.gens) (d':=s.drawn) (ch:=[]) (fun _ z=>nomatch z) (fun b o _ hb _ e n=>u.keep b o e n hb (by simp)) (fun b o _ hb _ e n=>u.slot b o e n hb (by simp)) (fun b o _ e n=>u.free b o e n (by simp)) (fun b o _ e=>u.there b o e (by simp)) u.tups u.frzs u.tbls (fun m' hm=>by
  obtain⟨o',es',ep',ho',r'⟩:=hm;rw [ho] at ho';cases ho';exact⟨_,es',ep',hL,r'⟩) hok I.bare
theorem Inv.call{g':Array GenState}{t':Nat}{d':Drawn}{ch:List Addr}(I:Inv X pins σ H s)(u:Un (frs X.stack) ch H H' s.heap h')(hok:HOk X.prog X.w H' h')(hg:AllBare g')
  (hch:∀b∈ch,(b∈X.ex\/X.s₀.heap.objs.size<=b)/\b≠X.env.locals/\(∀x c,X.env.cells.lookup x=some c->c≠b)/\∀p∈X.pn++pins,p.1≠b) :
  Inv X pins σ H' {s with heap:=h',gens:=g',drawn:=d',toks:=t'}:=by
 obtain⟨m,⟨o,es,ep,ho,r⟩,_⟩:=id I.loc;obtain⟨sl,hL⟩:=u.any ho I.free fun z=>(hch _ z).2.1 rfl;exact I.step (ch:=ch) hch (fun b o hL hb hc e n=>u.keep b o e n (fun z=>(m6.mp (I.stkSub b z)).elim hL hb) hc) (fun b o _ _ hc e n=>u.any e n hc) (fun b o hc e n=>u.free b o e n hc) (fun b o hc e=>u.there b o e hc) u.tups u.frzs u.tbls (fun m' hm=>by
  obtain⟨o',es',ep',ho',r'⟩:=hm;rw [ho] at ho';cases ho';exact⟨_,es',ep',hL,r'⟩) hok hg
theorem Inv.turned{t':Nat}{it:Addr}(I:Inv X pins σ H s)(k:∀b o,b≠it->s.heap.get? b=some o->h'.get? b=some o)(hn:H it=none)(hL:it≠X.env.locals)
  (h1:it∈X.ex\/X.s₀.heap.objs.size<=it) (h2:∀x c,X.env.cells.lookup x=some c->c≠it) (h3:∀p∈X.pn++pins,p.1≠it):Inv X pins σ H {s with heap:=h',toks:=t'}:=by
 have nit:∀b u,H b=some u->b≠it:=fun b u e z=>by rw [z,hn] at e;cases e
 refine I.step (g':=s.gens) (d':=s.drawn) (ch:=[it]) (fun b hb=>?_) (fun b o _ _ hc e _=>k b o (fun z=>hc (by simp [z])) e) (fun b o _ _ hc e _=>⟨o.slots,k b o (fun z=>hc (by simp [z])) e⟩) (fun _ _ _ _ n=>n)
  (fun b o hc e=>⟨o,k b o (fun z=>hc (by simp [z])) e⟩) (fun _ _ e=>e) (fun _ _ _ e=>e) (fun b ps e=>⟨#[],by rw [e];simp⟩) (fun m hm=>?_) (fun b u e=>?_) I.bare
 ·have e:b=it:=by simpa using hb
  subst e;exact⟨h1,hL,h2,h3⟩
 ·obtain⟨o,es,ep,ho,r⟩:=hm
  exact⟨o,es,ep,k _ o (nh hL) ho,r⟩
 ·refine(I.hok b u e).stay (fun c v hc q=>k c v ?_ q) (fun _ q=>q) fun _ _ q=>q
  rcases hc with z|z
  ·rw [z];exact nit b u e
  ·exact nit c _ z
theorem Inv.tok(I:Inv X pins σ H s)(t:Nat): Inv X pins σ H {s with toks:=t}:=I.un (h':=s.heap) (t':=t) Un.refl I.hok
theorem Inv.kept{t':Nat}(I:Inv X pins σ H s)(k:∀b u,s.heap.get? b=some u->h'.get? b=some u): Inv X pins σ H {s with heap:=h',toks:=t'}:=I.un (Un.kept k) (I.hok.kept k)
theorem Inv.laid{a:Addr}{o:HO}{t':Nat}(I:Inv X pins σ H s)(k:∀b u,s.heap.get? b=some u->h'.get? b=some u)(hp:s.heap.objs.size<=a)(new:ObjOk X.prog X.w (upd H a o) h' a o):
  Inv X pins σ (upd H a o) {s with heap:=h',toks:=t'}:=I.un (Un.laid k hp (I.hok.fresh hp)) (I.hok.laid k hp new)
theorem Inv.write{x e:Addr}{o:HO}{t':Nat}(I:Inv X pins σ H s)(mu:Mut (H x))(he:e=x\/H e=some (.own x))(k:∀b u,b≠e->s.heap.get? b=some u->h'.get? b=some u)(heo:∃u,h'.get? e=some u)
  (new:ObjOk X.prog X.w (upd H x o) h' x o):Inv X pins σ (upd H x o) {s with heap:=h',toks:=t'}:=I.un (Un.write mu he k heo) (I.hok.write mu he k heo new)
theorem Inv.pins_of{pins':List (Addr×Obj)}(I:Inv X pins σ H s)(h:∀p∈pins',s.heap.get? p.1=some p.2/\H p.1=none/\p.1≠X.env.locals/\p.1∉X.fs/\∀v,p.2.data ≠ .cell v): Inv X pins' σ H s:=
 ⟨I.ok,I.os,I.bare,I.base,I.loc,I.cell,I.free,I.freeC,fun p hp=>(nu.mp hp).elim (fun z=>I.pin p (g23 _ z)) (h p),I.hok,I.len⟩
theorem qbt{N:List Str}(hN:N.Nodup){i j:Nat}{x:Str}(a:N[i]? = some x)(b:N[j]? = some x): i=j:=by
 obtain⟨h1,e1⟩:=ni.mp a;obtain⟨h2,e2⟩:=ni.mp b;exact(g4m hN).mp (e1.trans e2.symm)
theorem qhu{M:Model}{A:Around}{E:Value->Shared->Prop}{i:Nat}{x:Str}{v:V}{u:Value}{Q:Unit->Shared->Prop}(I:Inv X pins σ H s)(hN:X.N.Nodup)(hi:X.N[i]? = some x)(hx:Loc X.env.scope x)(r:RelV v u)
  (h:∀s',Inv X pins (σ.set i (some v)) H s'->(∃a,Heap.SameBut a s.heap s'.heap/\(a=X.env.locals\/X.env.cells.lookup x=some a))->Q () s') (hf:X.fn x=true\/X.env.scope.names.lookup x=some .local:=by first|exact .inl rfl|exact .inr rfl|assumption):wpAny M A (storeName X.env x u) Q E s:=by
 obtain⟨m,hn,hl⟩:=id I.loc;have hcls:(X.env.scope.kind == .class || (X.env.scope.kind == .module&&X.env.locals != X.env.globals))=false:=by rw [I.ok.kind];rfl
 have hiσ : i < σ.length:=by rw [I.len];exact(ni.mp hi).1
 have cne:=I.cne;have tracked:∀ {a:Addr} {h':Heap},(∃o,s.heap.get? a=some o/\H a=none)->Heap.SameBut a s.heap h'->HOk X.prog X.w H h':=fun {a h'} ha hs b ob e=>by
  obtain⟨_,_,hfree⟩:=ha;refine(I.hok b ob e).stay (fun c w' hc q=>(hs.2 c ?_).trans q) (fun _ q=>q) fun _ _ q=>q
  rintro rfl
  rcases hc with rfl|hc
  ·rw [hfree] at e;cases e
  ·rw [hfree] at hc;cases hc
 rcases hx with hk|hk
 ·refine wpAny_storeName_local hk hn (fun h' hn' hs=>?_) hcls
  obtain⟨oL,_,_,hoL,_⟩:=id hn;refine h _ ⟨I.ok,I.os,I.bare,⟨fun b o e n hb hx=>?_,fun b o e n hb hx=>?_,I.base.free,fun b o e hx=>?_,I.base.tups,I.base.frzs,I.base.tbls⟩,⟨_,hn',fun j y v' e1 e2 e3=>?_⟩,fun y c e=>?_,I.free,I.freeC,fun p hp=>?_,tracked ⟨oL,hoL,I.free⟩ hs,by simpa using I.len⟩ ⟨_,hs,.inl rfl⟩
  ·exact(hs.2 b (md (m8 (gz e) I.ok.above))).trans (I.base.keep b o e n hb hx)
  ·obtain⟨sl,e1⟩:=I.base.slot b o e n hb hx
   exact⟨sl,(hs.2 b (md (m8 (gz e) I.ok.above))).trans e1⟩
  ·obtain⟨o',e1⟩:=I.base.there b o e hx
   exact⟨o',(hs.2 b (md (m8 (gz e) I.ok.above))).trans e1⟩
  ·by_cases hj:j=i
   ·subst hj
    rw [hi] at e1;cases e1;rw [g59 hiσ] at e2;cases e2;exact⟨u,r,.inl ⟨hk,by simp⟩⟩
   ·rw [ma (nh hj)] at e2
    obtain⟨u',r',q⟩:=hl j y v' e1 e2 e3;refine⟨u',r',?_⟩;rcases q with⟨k,e⟩|⟨k,c,e,z⟩
    ·refine .inl ⟨k,?_⟩
     have:y≠x:=fun e=>hj (qbt hN e1 (e ▸ hi));simp [this,e]
    ·exact .inr ⟨k,c,e,z.sameBut hs (cne y c e)⟩
  ·obtain⟨w',z⟩:=I.cell y c e
   exact⟨w',z.sameBut hs (cne y c e)⟩
  ·obtain⟨e,n,ne,nf,d⟩:=I.pin p hp
   exact⟨(hs.2 p.1 ne).trans e,n,ne,nf,d⟩
 ·have hfn:X.fn x=true:=by
   rcases hf with z|z
   ·exact z
   ·rw [z] at hk;cases hk
  obtain⟨c,hc⟩:=I.ok.has x (.inl hk);obtain⟨w',z⟩:=I.cell x c hc;refine wpAny_storeName_cell I.ok.kind hk hc z (fun h' hc' hs=>?_);obtain⟨oc,hoc,hocd⟩:=id z;refine h {s with heap:=h'} ⟨I.ok,I.os,I.bare,⟨fun b o e n hb hx=>?_,fun b o e n hb hx=>?_,I.base.free,fun b o e hx=>?_,I.base.tups,I.base.frzs,I.base.tbls⟩,⟨m,hn.sameBut hs (nh (cne x c hc)),fun j y v' e1 e2 e3=>?_⟩,fun y c' e=>?_,I.free,I.freeC,fun p hp=>?_,tracked ⟨oc,hoc,I.freeC x c hc⟩ hs,by simpa using I.len⟩ ⟨c,hs,.inr hc⟩
  ·exact(hs.2 b (md (m8 (gz e) (I.ok.cab x c hfn hc)))).trans (I.base.keep b o e n hb hx)
  ·obtain⟨sl,e1⟩:=I.base.slot b o e n hb hx
   exact⟨sl,(hs.2 b (md (m8 (gz e) (I.ok.cab x c hfn hc)))).trans e1⟩
  ·obtain⟨o',e1⟩:=I.base.there b o e hx
   exact⟨o',(hs.2 b (md (m8 (gz e) (I.ok.cab x c hfn hc)))).trans e1⟩
  ·by_cases hj:j=i
   ·subst hj
    rw [hi] at e1;cases e1;rw [g59 hiσ] at e2;cases e2;exact⟨u,r,.inr ⟨.inl hk,c,hc,hc'⟩⟩
   ·rw [ma (nh hj)] at e2
    obtain⟨u',r',q⟩:=hl j y v' e1 e2 e3;refine⟨u',r',?_⟩;rcases q with q|⟨k,c',e,z'⟩
    ·exact .inl q
    ·refine .inr ⟨k,c',e,z'.sameBut hs ?_⟩
     rintro rfl
     exact hj (qbt hN e1 (I.ok.inj _ _ _ e hc ▸ hi))
  ·by_cases hcc:c'=c
   ·subst hcc;exact⟨_,hc'⟩
   ·obtain⟨w2,z2⟩:=I.cell y c' e
    exact⟨w2,z2.sameBut hs hcc⟩
  ·obtain⟨e,n,ne,nf,d⟩:=I.pin p hp
   refine⟨(hs.2 p.1 ?_).trans e,n,ne,nf,d⟩;intro q;rw [q,hoc] at e;have q':oc=p.2:=mh e;exact d w' (by rw [<- q'];exact hocd)
theorem q7c{M:Model}{A:Around}{E:Value->Shared->Prop}{i:Nat}{x:Str}{v:V}{u:Value}{Q:Unit->Shared->Prop}(I:Inv X pins σ H s)(hN:X.N.Nodup)(hi:X.N[i]? = some x)(hx:Loc X.env.scope x)(r:RelV v u)
  (h:∀s',Inv X pins (σ.set i (some v)) H s'->Q () s') (hf:X.fn x=true\/X.env.scope.names.lookup x=some .local:=by first|exact .inl rfl|exact .inr rfl|assumption):wpAny M A (storeName X.env x u) Q E s:=
 qhu I hN hi hx r (fun s' I' _=>h s' I') hf
theorem Inv.call'{s':Shared}{ch:List Addr}(I:Inv X pins σ H s)(ho:s'.os=s.os)(u:Un (frs X.stack) ch H H' s.heap s'.heap)(hok:HOk X.prog X.w H' s'.heap)(hg:AllBare s'.gens)
  (hch:∀b∈ch,(b∈X.ex\/X.s₀.heap.objs.size<=b)/\b≠X.env.locals/\(∀x c,X.env.cells.lookup x=some c->c≠b)/\∀p∈X.pn++pins,p.1≠b):Inv X pins σ H' s':=by
 obtain⟨h',g',d',t',o'⟩:=s';have e:o'=s.os:=ho;subst e;exact I.call (g':=g') (t':=t') (d':=d') u hok hg hch
end
abbrev XK:=Value->Option Addr->Hp->Prop
abbrev St:=List (Option V)
abbrev VK:=V->Hp->Prop
abbrev TE:=St->Hp->VK->Prop
abbrev TT:=St->Hp->(Bool->Hp->Prop)->Prop
abbrev TA:=St->Hp->(List V->Hp->Prop)->Prop
structure Ends where
 nx:St->Hp->Prop
 rt:VK
 bk:St->Hp->Prop:=fun _ _=>False
 ct:St->Hp->Prop:=fun _ _=>False
abbrev TS:=Ends->St->Hp->Prop
def EP(X:Cx)(pins:List (Addr×Obj))(σ : St)(Q:VK)(u:Value)(s':Shared): Prop:=∃v H',Inv X pins σ H' s'/\RelV v u/\Q v H'
def TP(X:Cx)(pins:List (Addr×Obj))(σ : St)(Q:Bool->Hp->Prop)(b:Bool)(s':Shared): Prop:=∃H',Inv X pins σ H' s'/\Q b H'
def AP(X:Cx)(pins:List (Addr×Obj))(σ : St)(Q:List V->Hp->Prop)(us:List Value)(s':Shared): Prop:=∃vs H',Inv X pins σ H' s'/\Vals vs us/\Q vs H'
def SP(X:Cx)(pins:List (Addr×Obj))(D:Ends)(f:Flow)(s':Shared): Prop:=
 match f with
 | .next=>∃ σ' H',Inv X pins σ' H' s'/\D.nx σ' H'
 | .brk=>∃ σ' H',Inv X pins σ' H' s'/\D.bk σ' H'
 | .cont=>∃ σ' H',Inv X pins σ' H' s'/\D.ct σ' H'
 | .ret u=>∃v σ' H',Inv X pins σ' H' s'/\RelV v u/\D.rt v H'
def PE(X:Cx)(e:Expr)(t:TE): Prop:=
 ∀(pins:List (Addr×Obj)) (s:Shared) (σ : St) (H:Hp) (Q:VK),Inv X pins σ H s->t σ H Q->wpAny (model X.prog X.w) X.A (eval e X.env) (EP X pins σ Q) X.xe s
def PT(X:Cx)(e:Expr)(t:TT): Prop:=
 ∀(pins:List (Addr×Obj)) (s:Shared) (σ : St) (H:Hp) (Q:Bool->Hp->Prop),Inv X pins σ H s->t σ H Q->wpAny (model X.prog X.w) X.A (isTrue e X.env (eval e X.env)) (TP X pins σ Q) X.xe s
def PW(X:Cx)(e:Expr)(t:TT): Prop:=
 ∀(whole:Sem Value) (pins:List (Addr×Obj)) (s:Shared) (σ : St) (H:Hp) (Q:Bool->Hp->Prop),Inv X pins σ H s->t σ H Q->wpAny (model X.prog X.w) X.A (isTrue e X.env whole) (TP X pins σ Q) X.xe s
theorem PW.pt{X:Cx}{e:Expr}{t:TT}(h:PW X e t): PT X e t:=h _
def PA(X:Cx)(es:List Expr)(t:TA): Prop:=
 ∀(pos:Pos) (pins:List (Addr×Obj)) (s:Shared) (σ : St) (H:Hp) (Q:List V->Hp->Prop),Inv X pins σ H s->t σ H Q->wpAny (model X.prog X.w) X.A (spliced (backTo pos (starEach es X.env))) (AP X pins σ Q) X.xe s
def PS(X:Cx)(st:Stmt)(t:TS): Prop:=
 ∀(pins:List (Addr×Obj)) (s:Shared) (σ : St) (H:Hp) (D:Ends),Inv X pins σ H s->t D σ H->wpAny (model X.prog X.w) X.A (exec st X.env) (SP X pins D) X.xe s
def PSs(X:Cx)(st:List Stmt)(t:TS): Prop:=
 ∀(pins:List (Addr×Obj)) (s:Shared) (σ : St) (H:Hp) (D:Ends),Inv X pins σ H s->t D σ H->wpAny (model X.prog X.w) X.A (execs st X.env) (SP X pins D) X.xe s
theorem thn{α : Type}{t:Sem α}{Q Q' : α -> Shared->Prop}{M:Model}{A:Around}{E:Value->Shared->Prop}{s:Shared}(h:wpAny M A t Q E s)(hQ:∀a s,Q a s->Q' a s): wpAny M A t Q' E s:=tf h hQ fun _ _ x=>x
section
variable{X:Cx}
theorem bin{a b:Expr}{ta tb:TE}(ha:PE X a ta)(hb:PE X b tb){pins:List (Addr×Obj)}{s:Shared}{σ : St}{H:Hp}{R:V->V->Hp->Prop}(I:Inv X pins σ H s)(h:ta σ H fun x H1=>tb σ H1 fun y H2=>R x y H2)
  {α : Type} {Q : α -> Shared->Prop} {f:Value->Value->Sem α}
  (hf:∀v u s2 x y H2,Inv X pins σ H2 s2->RelV x v->RelV y u->R x y H2->wpAny (model X.prog X.w) X.A (f v u) Q X.xe s2) :
  wpAny (model X.prog X.w) X.A (eval a X.env) (fun v s₁=>wpAny (model X.prog X.w) X.A (eval b X.env) (fun u s₂=>wpAny (model X.prog X.w) X.A (f v u) Q X.xe s₂) X.xe s₁) X.xe s:=by
 refine thn (ha pins s σ H _ I h) fun v s1 ⟨x,H1,I1,r1,q1⟩=>?_;refine thn (hb pins s1 σ H1 _ I1 q1) fun u s2 ⟨y,H2,I2,r2,q2⟩=>?_;exact hf v u s2 x y H2 I2 r1 r2 q2
def qbu(i:Nat): TE:=fun σ H Q=>∃v, σ[i]? = some (some v)/\Q v H
def tC(v:V): TE:=fun _ H Q=>Q v H
theorem qqd{i:Nat}{x:Str}{pos:Pos}(hN:X.N[i]? = some x)(hv:Vis X.env.scope x)(hd:(x==("__debug__" : Str))=false:=by decide)(hcd:(x==("__classdict__" : Str))=false:=by decide): PE X (.Name x pos) (qbu i):=by
 intro pins s σ H Q I h;obtain⟨v,e,h⟩:=h;obtain⟨m,hn,hl⟩:=I.loc;obtain⟨u,r,l⟩:=hl i x v hN e hv;have fin:EP X pins σ Q u s:=⟨v,H,I,r,h⟩
 rcases l with⟨hk,hm⟩|⟨hk,c,hc,hcell⟩
 ·exact wpAny_Name (wpAny_loadName_local I.ok.kind hk hn hm fin) hd
 ·rcases hk with hk|hk
  ·exact wpAny_Name (wpAny_loadName_cell I.ok.kind hk hc hcell fin) hd
  ·exact wpAny_Name (wpAny_loadName_free I.ok.kind hk hc hcell fin hcd) hd
theorem qqe{i j pos}: PE X (.Constant (.int i) j pos) (tC (.int i)):=fun _ _ _ H _ I h=>wpAny_Constant_int ⟨.int i,H,I.tok _,⟨_,rfl⟩,h⟩
theorem qsq{b j pos}: PE X (.Constant (.bool b) j pos) (tC (.bl b)):=fun _ _ _ H _ I h=>Constant_bool ⟨.bl b,H,I,rfl,h⟩
theorem qqf{j pos}: PE X (.Constant .none j pos) (tC .non):=fun _ _ _ H _ I h=>Constant_none ⟨.non,H,I,rfl,h⟩
def Gl(X:Cx)(x:Str): Prop:=X.env.kindOf x=some .globalImplicit
theorem qf3{E:Value->Shared->Prop}{pins:List (Addr×Obj)}{s:Shared}{σ : St}{H:Hp}{x:Str}{u:Value}{pos:Pos}{Q:Value->Shared->Prop}(I:Inv X pins σ H s)(hg:Gl X x)(hm:X.mg x=some u)(h:Q u s)
  (hd:(x==("__debug__" : Str))=false:=by decide):wpAny (model X.prog X.w) X.A (eval (.Name x pos) X.env) Q E s:=
 Calls.Name_function_global I.ok.kind hg (Calls.loadGlobal_global (by rw [I.ok.glob];exact I.mod.glob.keeps I.bk) hm h) hd
theorem q1i{E:Value->Shared->Prop}{pins:List (Addr×Obj)}{s:Shared}{σ : St}{H:Hp}{x:Str}{u:Value}{pos:Pos}{Q:Value->Shared->Prop}(I:Inv X pins σ H s)(hg:Gl X x)(hm:X.mg x=none)(hv:bootBuiltins x=some u)(h:Q u s)
  (hn:x≠"__name__" :=by decide) (hd:(x==("__debug__" : Str))=false:=by decide):wpAny (model X.prog X.w) X.A (eval (.Name x pos) X.env) Q E s:=by
 obtain⟨mb,h1,h2⟩:=I.mod.blt;exact Calls.Name_function_global I.ok.kind hg (Calls.loadGlobal_builtin (by rw [I.ok.glob];exact I.mod.glob.keeps I.bk) hm (by rw [I.ok.blt];exact h1.keeps I.bk) ((h2 x hn).trans hv) h) hd
theorem qnw{x:Str}{v:V}{u:Value}{pos:Pos}(hg:Gl X x)(hm:X.mg x=none)(hv:bootBuiltins x=some u)(r:RelV v u)(hn:x≠"__name__" :=by decide)(hd:(x==("__debug__" : Str))=false:=by decide): PE X (.Name x pos) (tC v):=
 fun _ _ _ H _ I h=>q1i I hg hm hv ⟨v,H,I,r,h⟩ hn hd
variable{a b:Expr}{ta tb:TE}{pos:Pos}
theorem qbv(b:Expr){op:CmpOp}(h:op ≠ .In)(h2:op ≠ .NotIn): behindInMarks op b=false:=by
 have e1:(op==CmpOp.In)=false:=by cases op <;> first|rfl|exact absurd rfl h
 have e2:(op==CmpOp.NotIn)=false:=by cases op <;> first|rfl|exact absurd rfl h2
 cases b <;> simp [behindInMarks,e1,e2]
variable{tA tB':TT}{rest:List Expr}
def tOr(t u:TT): TT:=fun σ H Q=>t σ H fun c H1=>if c=true then Q true H1 else u σ H1 Q
def qu4(t:TT): TT:=fun σ H Q=>t σ H fun c H1=>Q (!c) H1
theorem qqg(ha:PT X a tA): PW X (.BoolOp .Or [a] pos) tA:=by
 intro wh pins s σ H Q I h;refine isTrue_or (thn (ha pins s σ H Q I h) fun c s1 e=>?_);cases c with
 | false=>exact isTrue_or_nil e
 | true=>exact e
theorem qsr(ha:PT X a tA)(hb:PW X (.BoolOp .Or (b :: rest) pos) tB'): PW X (.BoolOp .Or (a :: b :: rest) pos) (tOr tA tB'):=by
 intro wh pins s σ H Q I h;refine isTrue_or (thn (ha pins s σ H _ I h) fun c s1 ⟨H1,I1,q1⟩=>?_);cases c with
 | true=>exact⟨H1,I1,q1⟩
 | false=>exact hb wh pins s1 σ H1 Q I1 q1
theorem qqh(ha:PT X a tA): PT X (.UnaryOp .Not a pos) (qu4 tA):=by
 intro pins s σ H Q I h;exact isTrue_not (ha pins s σ H (fun c H1=>Q (!c) H1) I h)
def qss(ta tb:TE): TE:=fun σ H Q=>ta σ H fun x H1=>∃c,x=.bl c/\if c=true then tb σ H1 Q else Q (.bl false) H1
def qu5(ta tb:TE): TE:=fun σ H Q=>ta σ H fun x H1=>∃c,x=.bl c/\if c=true then Q (.bl true) H1 else tb σ H1 Q
def qst(ta:TE): TE:=fun σ H Q=>ta σ H fun x H1=>∃c,x=.bl c/\Q (.bl (!c)) H1
theorem qqi{op}{t:TE}(h:PE X a t): PE X (.BoolOp op [a] pos) t:=fun pins s σ H Q I hw=>BoolOp_one (h pins s σ H Q I hw)
theorem qqj(ha:PE X a ta)(hb:PE X (.BoolOp .And (b :: rest) pos) tb): PE X (.BoolOp .And (a :: b :: rest) pos) (qss ta tb):=by
 intro pins s σ H Q I h;refine BoolOp_and (thn (ha pins s σ H _ I h) fun v s1 ⟨x,H1,I1,r1,q1⟩=>?_);obtain⟨c,rfl,q1⟩:=q1;cases r1;refine g0z ?_;cases c with
 | true=>exact hb pins s1 σ H1 Q I1 q1
 | false=>exact⟨.bl false,H1,I1,rfl,q1⟩
theorem qsu(ha:PE X a ta)(hb:PE X (.BoolOp .Or (b :: rest) pos) tb): PE X (.BoolOp .Or (a :: b :: rest) pos) (qu5 ta tb):=by
 intro pins s σ H Q I h;refine BoolOp_or (thn (ha pins s σ H _ I h) fun v s1 ⟨x,H1,I1,r1,q1⟩=>?_);obtain⟨c,rfl,q1⟩:=q1;cases r1;refine g0z ?_;cases c with
 | false=>exact hb pins s1 σ H1 Q I1 q1
 | true=>exact⟨.bl true,H1,I1,rfl,q1⟩
theorem qqk(ha:PE X a ta): PE X (.UnaryOp .Not a pos) (qst ta):=by
 intro pins s σ H Q I h;refine UnaryOp_ (thn (ha pins s σ H _ I h) fun v s1 ⟨x,H1,I1,r1,q1⟩=>?_);obtain⟨c,rfl,q1⟩:=q1;cases r1;exact not_of (g0z ⟨.bl (!c),H1,I1,rfl,q1⟩)
def tIf(t:TT)(ta tb:TE): TE:=fun σ H Q=>t σ H fun c H1=>if c=true then ta σ H1 Q else tb σ H1 Q
theorem qkh{c:Expr}(hc:PT X c tA)(ha:PE X a ta)(hb:PE X b tb): PE X (.IfExp c a b pos) (tIf tA ta tb):=by
 intro pins s σ H Q I h;refine wpAny_IfExp (thn (hc pins s σ H _ I h) fun d s1 ⟨H1,I1,q1⟩=>?_);cases d with
 | true=>exact ha pins s1 σ H1 Q I1 q1
 | false=>exact hb pins s1 σ H1 Q I1 q1
end
def SqL(K:PySem.W.Frag)(H:Hp)(a:Addr)(xs:List V): Prop:=
 Rd H a (.lst xs) \/
  ∃(o:Obj) (its:Array Value) (n:Nat),K.lookup a=some o/\o.cls=.type "list" /\ o.dict=none/\o.data=.seq its n/\its.size<=sizeLine/\Vals xs its.toList
def SqT(K:PySem.W.Frag)(H:Hp)(a:Addr)(xs:List V): Prop:=
 Rd H a (.tup xs) \/
  ∃(o:Obj) (its:Array Value) (n:Nat),K.lookup a=some o/\o.cls=.type "tuple" /\ o.data=.seq its n/\its.size<=sizeLine/\Vals xs its.toList
def qu6:Value->Option V
 | .none=>some .non
 | .bool b=>some (.bl b)
 | .int i _=>some (.int i)
 | .str x _=>some (.str x)
 | .bytes b _=>some (.byt b)
 | .float b _=>some (.flt b)
 | .ref a=>some (.ref a)
 | .type n=>some (.ty n)
 | _=>none
theorem RelV.abs{x:V}{u:Value}(r:RelV x u): qu6 u=some x:=by
 cases x with
 | non=>cases r;rfl
 | bl _=>cases r;rfl
 | int _=>obtain⟨t,rfl⟩:=r;rfl
 | str _=>obtain⟨t,rfl⟩:=r;rfl
 | byt _=>obtain⟨t,rfl⟩:=r;rfl
 | flt _=>obtain⟨t,rfl⟩:=r;rfl
 | ref _=>cases r;rfl
 | ty _=>cases r;rfl
theorem RelV.inj{x y:V}{u:Value}(r:RelV x u)(q:RelV y u): x=y:=mh (r.abs.symm.trans q.abs)
theorem Vals.inj:∀ {xs ys:List V} {us:List Value},Vals xs us->Vals ys us->xs=ys
 | _,_,_,.nil,.nil=>rfl
 | _,_,_,.cons r t,.cons r' t'=>by rw [r.inj r',Vals.inj t t']
section
variable{X:Cx}{pins:List (Addr×Obj)}{σ : St}{H:Hp}{s:Shared}{a:Addr}{xs ys:List V}
theorem SqL.of{K:PySem.W.Frag}(h:H a=some (.lst xs)): SqL K H a xs:=.inl (.inl h)
theorem SqT.of{K:PySem.W.Frag}(h:H a=some (.tup xs)): SqT K H a xs:=.inl (.inl h)
theorem Inv.list(I:Inv X pins σ H s)(h:SqL X.K H a xs): ∃its:List Value,Vals xs its/\PlainL s.heap a its.toArray/\xs.length<=sizeLine:=by
 rcases h with h|⟨o,its,n,hk,hc,hd,hs,hz,r⟩
 ·obtain⟨z,its,n,r,e⟩:=h.ok I.hok
  exact⟨its,r,⟨_,n,e,rfl,rfl,rfl⟩,z⟩
 ·refine⟨its.toList,r,⟨o,n,I.kIn a o hk,hc,hd,by simpa using hs⟩,?_⟩
  have e:=r.length;simp only [p7] at e;omega
theorem Inv.tuple(I:Inv X pins σ H s)(h:SqT X.K H a xs): ∃its:List Value,Vals xs its/\IsTup s.heap a its.toArray/\xs.length<=sizeLine:=by
 rcases h with h|⟨o,its,n,hk,hc,hs,hz,r⟩
 ·obtain⟨z,its,r,p⟩:=h.ok I.hok
  exact⟨its,r,p,z⟩
 ·refine⟨its.toList,r,⟨o,I.kIn a o hk,hc,n,by simpa using hs⟩,?_⟩
  have e:=r.length;simp only [p7] at e;omega
theorem Inv.list_inj(I:Inv X pins σ H s)(h:SqL X.K H a xs)(h':SqL X.K H a ys): xs=ys:=by
 obtain⟨its,r,⟨o,n,e,_,_,d⟩,_⟩:=I.list h;obtain⟨its',r',⟨o',n',e',_,_,d'⟩,_⟩:=I.list h';rw [e] at e';cases e';rw [d] at d';injection d' with d1 _
 have:its=its':=by simpa using g06 Array.toList d1
 subst this;exact r.inj r'
theorem Inv.tuple_inj(I:Inv X pins σ H s)(h:SqT X.K H a xs)(h':SqT X.K H a ys): xs=ys:=by
 obtain⟨its,r,⟨o,e,_,n,d⟩,_⟩:=I.tuple h;obtain⟨its',r',⟨o',e',_,n',d'⟩,_⟩:=I.tuple h';rw [e] at e';cases e';rw [d] at d';injection d' with d1 _
 have:its=its':=by simpa using g06 Array.toList d1
 subst this;exact r.inj r'
end
abbrev Cx.wish(X:Cx)(E:Value->Shared->Prop): Cx:={X with xe:=E}
abbrev Cx.nox(X:Cx): Cx:=X.wish fun _ _=>False
theorem Cx.Ok.wish{X:Cx}(ok:X.Ok)(E:Value->Shared->Prop): (X.wish E).Ok:=
 ⟨ok.mod,ok.kind,ok.glob,ok.blt,ok.above,ok.inj,ok.has,ok.cab,ok.hd,ok.frames,ok.stk,ok.exf,ok.bs,ok.bsz,ok.noex,ok.exfs,ok.funs,ok.frf⟩
theorem Cx.Ok.unwish{X:Cx}{E:Value->Shared->Prop}(ok:(X.wish E).Ok): X.Ok:=
 ⟨ok.mod,ok.kind,ok.glob,ok.blt,ok.above,ok.inj,ok.has,ok.cab,ok.hd,ok.frames,ok.stk,ok.exf,ok.bs,ok.bsz,ok.noex,ok.exfs,ok.funs,ok.frf⟩
section
variable{X:Cx}{pins:List (Addr×Obj)}{σ : St}{H:Hp}{s:Shared}{E:Value->Shared->Prop}
theorem Inv.wish(I:Inv X pins σ H s)(E:Value->Shared->Prop): Inv (X.wish E) pins σ H s:=⟨I.ok.wish E,I.os,I.bare,I.base,I.loc,I.cell,I.free,I.freeC,I.pin,I.hok,I.len⟩
theorem Inv.unwish(I:Inv (X.wish E) pins σ H s): Inv X pins σ H s:=⟨I.ok.unwish,I.os,I.bare,I.base,I.loc,I.cell,I.free,I.freeC,I.pin,I.hok,I.len⟩
theorem SP.unwish{D:Ends}{f:Flow}{s':Shared}(h:SP (X.wish E) pins D f s'): SP X pins D f s':=by
 cases f with
 | next=>obtain⟨σ',H',I,q⟩:=h;exact⟨σ',H',I.unwish,q⟩
 | brk=>obtain⟨σ',H',I,q⟩:=h;exact⟨σ',H',I.unwish,q⟩
 | cont=>obtain⟨σ',H',I,q⟩:=h;exact⟨σ',H',I.unwish,q⟩
 | ret u=>obtain⟨v, σ',H',I,r,q⟩:=h;exact⟨v, σ',H',I.unwish,r,q⟩
theorem PE.nox{e:Expr}{t:TE}(h:PE X.nox e t): PE X e t:=fun pins s σ H Q I hw=>
 tf (h pins s σ H Q (I.wish _) hw) (fun _ _ ⟨v,H',I',r,q⟩=>⟨v,H',I'.unwish,r,q⟩) fun _ _ z=>False.elim z
theorem PSs.nox{st:List Stmt}{t:TS}(h:PSs X.nox st t): PSs X st t:=fun pins s σ H D I hw=>
 tf (h pins s σ H D (I.wish _) hw) (fun _ _ q=>q.unwish) fun _ _ z=>False.elim z
end
section
variable{X:Cx}{st:Stmt}{rest:List Stmt}{t u:TS}{e:Expr}{te:TE}{pos:Pos}
def tNext:TS:=fun D σ H=>D.nx σ H
def qu7(t u:TS): TS:=fun D σ H=>t {D with nx:=u D} σ H
theorem qnx:PSs X [] tNext:=fun _ _ σ H _ I h=>g3b ⟨σ,H,I,h⟩
theorem qki(h1:PS X st t)(h2:PSs X rest u): PSs X (st :: rest) (qu7 t u):=by
 intro pins s σ H D I h;refine wpAny_execs_cons (thn (h1 pins s σ H {D with nx:=u D} I h) fun f s1 q=>?_);cases f with
 | next=>
  obtain⟨σ',H',I',q⟩:=q;exact h2 pins s1 σ' H' D I' q
 | ret v=>exact q
 | brk=>exact q
 | cont=>exact q
theorem qny(h1:PS X st t): PSs X [st] t:=by
 intro pins s σ H D I h;refine wpAny_execs_cons (thn (h1 pins s σ H D I h) fun f s1 q=>?_);cases f with
 | next=>exact g3b q
 | ret v=>exact q
 | brk=>exact q
 | cont=>exact q
theorem Inv.quiet{pins:List (Addr×Obj)}{σ : St}{H:Hp}{s:Shared}(I:Inv X pins σ H s): interactive X.env=false:=by simp [interactive,I.ok.kind]
def qsv(te:TE): TS:=fun D σ H=>te σ H fun _ H1=>D.nx σ H1
theorem qf4(he:PE X e te)(hs:swapsWith e none pos.line X.env=pure false:=by rfl): PS X (.Expr e pos) (qsv te):=by
 intro pins s σ H D I h;exact wpAny_Expr_any (thn (he pins s σ H _ I h) fun v s1 ⟨x,H1,I1,r1,q1⟩=>⟨σ,H1,I1,q1⟩) I.quiet hs
def qu8(te:TE): TS:=fun D σ H=>te σ H D.rt
theorem qql(he:PE X e te): PS X (.Return (some e) pos) (qu8 te):=by
 intro pins s σ H D I h;exact wpAny_Return_some (thn (he pins s σ H _ I h) fun v s1 ⟨x,H1,I1,r1,q1⟩=>⟨x, σ,H1,I1,r1,q1⟩)
def qu9(c:TT)(t u:TS): TS:=fun D σ H=>c σ H fun b H1=>if b=true then t D σ H1 else u D σ H1
theorem qsw{c:Expr}{a b:List Stmt}{tc:TT}(hc:PT X c tc)(ha:PSs X a t)(hb:PSs X b u): PS X (.If c a b pos) (qu9 tc t u):=by
 intro pins s σ H D I h;refine wpAny_If (thn (hc pins s σ H _ I h) fun d s1 ⟨H1,I1,q1⟩=>?_);cases d with
 | true=>exact ha pins s1 σ H1 D I1 q1
 | false=>exact hb pins s1 σ H1 D I1 q1
end
abbrev TG:=V->St->Hp->(St->Hp->Prop)->Prop
abbrev TGs:=List V->St->Hp->(St->Hp->Prop)->Prop
def PG(X:Cx)(target:Expr)(t:TG): Prop:=
 ∀(pins:List (Addr×Obj)) (s:Shared) (σ : St) (H:Hp) (v:V) (u:Value) (Q:St->Hp->Prop),Inv X pins σ H s->RelV v u->t v σ H Q ->
  wpAny (model X.prog X.w) X.A (assign target X.env u) (fun _ s'=>∃ σ' H',Inv X pins σ' H' s'/\Q σ' H') X.xe s
def PGs(X:Cx)(ts:List Expr)(t:TGs): Prop:=
 ∀(pins:List (Addr×Obj)) (s:Shared) (σ : St) (H:Hp) (vs:List V) (us:List Value) (Q:St->Hp->Prop),Inv X pins σ H s->Vals vs us->t vs σ H Q ->
  wpAny (model X.prog X.w) X.A (assignInOrder ((assignEach ts X.env).map (·.2)) us) (fun _ s'=>∃ σ' H',Inv X pins σ' H' s'/\Q σ' H') X.xe s
section
variable{X:Cx}{pos:Pos}
def q6g(i:Nat): TG:=fun v σ H Q=>Q (σ.set i (some v)) H
theorem qnz{i:Nat}{x:Str}(hN:X.N.Nodup)(hi:X.N[i]? = some x)(hx:Loc X.env.scope x)(hf:X.fn x=true\/X.env.scope.names.lookup x=some .local:=by first|exact .inl rfl|exact .inr rfl|assumption): PG X (.Name x pos) (q6g i):=by
 intro pins s σ H v u Q I r h;exact wpAny_assign_Name (q7c I hN hi hx r (fun s' I'=>⟨_,H,I',h⟩) hf)
def gNil:TGs:=fun vs σ H Q=>vs=[]/\Q σ H
def qsx(t:TG)(u:TGs): TGs:=fun vs σ H Q=>∃v r,vs=v :: r/\t v σ H fun σ' H'=>u r σ' H' Q
theorem qo0:PGs X [] gNil:=by
 intro pins s σ H vs us Q I r h;obtain⟨e,h⟩:=h;subst e;cases r;exact assignInOrder_nil ⟨σ,H,I,h⟩
theorem qkj{e:Expr}{es:List Expr}{t:TG}{u:TGs}(h1:PG X e t)(h2:PGs X es u)
  (hs:(assignEach (e :: es) X.env).map (·.2)=assign e X.env :: (assignEach es X.env).map (·.2):=by rfl):PGs X (e :: es) (qsx t u):=by
 intro pins s σ H vs us Q I r h;obtain⟨v,vr,e1,h⟩:=h;subst e1;cases r with
 | cons r rr=>
  rw [hs];refine assignInOrder_cons (thn (h1 pins s σ H _ _ _ I r h) fun _ s1 ⟨σ1,H1,I1,q1⟩=>?_);exact h2 pins s1 σ1 H1 _ _ Q I1 rr q1
def qua(K:PySem.W.Frag)(n:Nat)(t:TGs): TG:=fun v σ H Q=>∃a xs,v=.ref a/\SqT K H a xs/\xs.length=n/\t xs σ H Q
theorem qqm{es:List Expr}{k:Nat}{t:TGs}{n:Nat}(hc:X.calm=true)(h:PGs X es t)
  (hn:(assignEach es X.env).length=n:=by rfl) (hst:(assignEach es X.env).findIdx? (·.1)=none:=by rfl):PG X (.Tuple es k pos) (qua X.K n t):=by
 intro pins s σ H v u Q I r hw;obtain⟨a,xs,e1,hq,hl,hw⟩:=hw;subst e1;cases r;obtain⟨its,rv,ht,hz⟩:=I.tuple hq;refine assign_Tuple_tuple (I.ok.hd hc) ht (by simp [hn, <- hl,rv.length]) hst fun h' hx=>?_;have I1:Inv X pins σ H {s with heap:=h'}:=I.kept (t':=s.toks) fun b o e=>hx b o (md (gz e)) e;exact h pins _ σ H xs _ Q I1 (by simpa using rv) hw
def qqn(te:TE)(g:TG): TS:=fun D σ H=>te σ H fun x H1=>g x σ H1 D.nx
theorem qhv{i:Nat}{x:Str}{e:Expr}{te:TE}{pos':Pos}(hN:X.N.Nodup)(hi:X.N[i]? = some x)(hx:Loc X.env.scope x)(he:PE X e te)(hs:swapsWith e (some (.Name x pos')) pos.line X.env=pure false:=by rfl)(hf:X.fn x=true\/X.env.scope.names.lookup x=some .local:=by first|exact .inl rfl|exact .inr rfl|assumption):
  PS X (.Assign [.Name x pos'] e pos) (qqn te (q6g i)):=by
 intro pins s σ H D I h;refine wpAny_Assign_Name (thn (he pins s σ H _ I h) fun v s1 ⟨y,H1,I1,r1,q1⟩=>?_) hs;exact q7c I1 hN hi hx r1 (fun s2 I2=>⟨_,H1,I2,q1⟩) hf
end
section
variable{X:Cx}{pos:Pos}
def qqo(c:TT)(tb:TS): TS:=fun D σ H=>∃W:Nat->St->Hp->Prop,(∃m,W m σ H)/\∀m σ H,W m σ H ->
 c σ H fun b H1=>if b=true then ∃N:St->Hp->Prop,(∀ σ' H',N σ' H'->∃m',m'<m/\W m' σ' H')/\tb {D with nx:=N,ct:=N,bk:=D.nx} σ H1 else D.nx σ H1
theorem qkk{c:Expr}{body:List Stmt}{tc:TT}{tb:TS}(hp:PassesOwn (model X.prog X.w) X.A X.env X.xe)(hc:PT X c tc)(hb:PSs X body tb): PS X (.While c body [] pos) (qqo tc tb):=by
 intro pins s σ H D I h;obtain⟨W,⟨m0,w0⟩,turn⟩:=h;refine wpAny_While (codeAny_whileLoop (fun n s'=>∃ σ' H',Inv X pins σ' H' s'/\W n σ' H') ?_ m0 ⟨σ,H,I,w0⟩)
 rintro n s1 ⟨σ1,H1,I1,w1⟩
 refine g16 hp (thn (hc pins s1 σ1 H1 _ I1 (turn n σ1 H1 w1)) fun b s2 ⟨H2,I2,q2⟩=>?_);cases b with
 | true=>
  obtain⟨N,hN,q2⟩:=q2;rw [mq rfl];refine g16 hp (thn (hb pins s2 σ1 H2 _ I2 q2) fun f s3 q3=>?_);cases f with
  | next=>
   obtain⟨σ3,H3,I3,n3⟩:=q3;obtain⟨m',hm,w3⟩:=hN σ3 H3 n3;exact⟨m',hm, σ3,H3,I3,w3⟩
  | cont=>
   obtain⟨σ3,H3,I3,n3⟩:=q3;obtain⟨m',hm,w3⟩:=hN σ3 H3 n3;exact⟨m',hm, σ3,H3,I3,w3⟩
  | brk=>exact q3
  | ret v=>exact q3
 | false=>
  rw [mj m9];exact g3b ⟨σ1,H2,I2,q2⟩
end
structure It where
 go:Nat->Hp->Prop
 yld:Nat->Hp->V->Hp->Prop
 stop:Nat->Hp->Prop
def yf(X:Cx)(pins:List (Addr×Obj))(H:Hp)(b:Addr): Prop:=
 H b=none/\b≠X.env.locals/\b∉X.fs/\(b∈X.ex\/X.s₀.heap.objs.size<=b)/\(∀x c,X.env.cells.lookup x=some c->c≠b)/\∀p∈X.pn++pins,p.1≠b
theorem Inv.fpOk{X:Cx}{pins:List (Addr×Obj)}{σ : St}{H H':Hp}{s:Shared}{b:Addr}(I:Inv X pins σ H s)(hb:s.heap.objs.size<=b)(hn:H' b=none): yf X pins H' b:=by
 refine⟨hn,tu (m8 I.lt hb),I.nofs hb,.inr (mx I.sz hb),fun x c e z=>?_,fun p hp z=>?_⟩
 ·obtain⟨v,q⟩:=I.cell x c e
  exact absurd (m8 q.lt (by rw [z];exact hb)) (g0e _)
 ·exact absurd (m8 (gz (I.pin p hp).1) (by rw [z];exact hb)) (g0e _)
structure Turn(P:Program)(w:World)(K:PySem.W.Frag)(tg:Expr)(J:It)(fp:List Addr)(it:Addr)(tn:Nat->Heap->Prop): Prop where
 mem:it∈fp
 obj:∀i h,tn i h->∀b∈fp,∃o,h.get? b=some o/\∀v,o.data ≠ .cell v
 keep:∀i h h',tn i h->(∀b∈fp,∀o,h.get? b=some o->h'.get? b=some o)->tn i h'
 item:∀(X:Cx),X.prog=P->X.w=w->X.K=K->X.calm=true->∀(i:Nat) (pins:List (Addr×Obj)) (s:Shared) (σ : St) (H:Hp) (E:Value->Shared->Prop),Inv X pins σ H s->(∀b∈fp,yf X pins H b)->tn i s.heap->J.go i H ->
  wpAny (model P w) X.A (pyNext (.ref it)) (fun r s1=>∃u,r=some u /\
   wpAny (model P w) X.A (letOwnedTupleGo tg (.ref it) u) (fun _ s2=>∃x H',Inv X pins σ H' s2/\RelV x u/\J.yld i H x H'/\tn (i+1) s2.heap/\∀b∈fp,H' b=none) E s1) E s
 done:∀(X:Cx),X.prog=P->X.w=w->X.K=K->X.calm=true->∀(i:Nat) (pins:List (Addr×Obj)) (s:Shared) (σ : St) (H:Hp) (E:Value->Shared->Prop),Inv X pins σ H s->(∀b∈fp,yf X pins H b)->tn i s.heap->J.stop i H ->
  wpAny (model P w) X.A (pyNext (.ref it)) (fun r s1=>r=none/\Inv X pins σ H s1) E s
 self:∀(A:Around) (i:Nat) (s:Shared) (Q:Value->Shared->Prop) (E:Value->Shared->Prop),tn i s.heap->Q (.ref it) s->wpAny (model P w) A (pyIter (.ref it)) Q E s
abbrev TI:=St->Hp->(It->Hp->Prop)->Prop
def PIE(X:Cx)(pins:List (Addr×Obj))(σ : St)(tg:Expr)(R:It->Hp->Prop)(itv:Value)(s2:Shared): Prop:=
 ∃(it:Addr) (fp:List Addr) (tn:Nat->Heap->Prop) (J:It) (H':Hp),itv=.ref it/\Inv X pins σ H' s2/\Turn X.prog X.w X.K tg J fp it tn/\tn 0 s2.heap/\(∀b∈fp,yf X pins H' b)/\R J H'
def PI(X:Cx)(tg iter:Expr)(wi:TI): Prop:=
 ∀(pins:List (Addr×Obj)) (s:Shared) (σ : St) (H:Hp) (R:It->Hp->Prop),Inv X pins σ H s->wi σ H R ->
  wpAny (model X.prog X.w) X.A (eval iter X.env) (fun v s1=>wpAny (model X.prog X.w) X.A (pyIter v) (PIE X pins σ tg R) X.xe s1) X.xe s
theorem qg7{M:Model}{A:Around}{E:Value->Shared->Prop}{s:Shared}{tg:Expr}{it:Addr}{u:Value}{o:Obj}{n:String}{vs:Array Value}{Q:Unit->Shared->Prop}(ho:s.heap.get? it=some o)(hc:o.cls=.type n)(hd:o.data=.fields vs)
  (hn:["enumerate","zip","dict_itemiterator","dict_reverseitemiterator","odict_iterator","itertools.zip_longest","itertools.pairwise"].contains n=false) (hQ:Q () s):wpAny M A (letOwnedTupleGo tg (.ref it) u) Q E s:=by
 unfold letOwnedTupleGo;cases tg <;> first
  | exact gc hQ
  | (cases u <;> first
    | exact gc hQ
    | (refine g9 (wpAny_load ho ?_);rw [hc,hd];show wpAny M A (if(["enumerate","zip","dict_itemiterator","dict_reverseitemiterator","odict_iterator","itertools.zip_longest","itertools.pairwise"].contains n&&vs[0]? == some (rawInt _))=true then _ else _) Q E s;rw [mj (by intro h;rw [hn,g2q] at h;cases h)];exact gc hQ))
def Itl(K:PySem.W.Frag)(a:Addr): It:=
 ⟨fun i H=>∃xs x,SqL K H a xs/\xs[i]? = some x,fun i H x H'=>H'=H/\∀xs,SqL K H a xs->xs[i]? = some x,fun i H=>∃xs,SqL K H a xs/\xs.length<=i⟩
def Itt(K:PySem.W.Frag)(a:Addr): It:=
 ⟨fun i H=>∃xs x,SqT K H a xs/\xs[i]? = some x,fun i H x H'=>H'=H/\∀xs,SqT K H a xs->xs[i]? = some x,fun i H=>∃xs,SqT K H a xs/\xs.length<=i⟩
def Itr(lo:Int)(n:Nat): It:=⟨fun i _=>i<n,fun i H x H'=>H'=H/\x=.int (lo+i),fun i _=>n<=i⟩
theorem qhw{P:Program}{w:World}{K:PySem.W.Frag}{tg:Expr}(a it:Addr): Turn P w K tg (Itl K a) [it] it (fun i h=>h.IsListIter it a i) where
 mem:=by simp
 obj:=fun i h st b hb=>by
  have e:b=it:=by simpa using hb
  subst e;obtain⟨o,e,c,d⟩:=st;exact⟨o,e,fun v z=>by rw [d] at z;cases z⟩
 keep:=fun i h h' st k=>st.at fun o e=>k it (by simp) o e
 item:=by
  intro X hP hw hK hc i pins s σ H E I hf st hg;subst hP hw hK;obtain⟨xs,x,hq,hx⟩:=hg;obtain⟨its,rv,p,hz⟩:=I.list hq;obtain⟨u,hu,ru⟩:=rv.get hx;obtain⟨f0,f1,f2,f3,f4,f5⟩:=hf it (by simp);refine wpAny_pyNext_list_item st p.isList (x:=u) (by simpa using hu) fun h' st' sb=>?_;have I1:Inv X pins σ H {s with heap:=h'}:=I.turned (t':=s.toks) (fun b o hb e=>(sb.2 b hb).trans e) f0 f1 f3 f4 f5;obtain⟨o,e,c,d⟩:=id st';exact⟨u,rfl,qg7 (s:={s with heap:=h'}) e c d (by decide) ⟨x,H,I1,ru,⟨rfl,fun ys hy=>by rw [I.list_inj hy hq];exact hx⟩,st',fun b hb=>(hf b hb).1⟩⟩
 done:=by
  intro X hP hw hK hc i pins s σ H E I hf st hg;subst hP hw hK;obtain⟨xs,hq,hx⟩:=hg;obtain⟨its,rv,p,hz⟩:=I.list hq;obtain⟨f0,f1,f2,f3,f4,f5⟩:=hf it (by simp);have hl:=rv.length;exact wpAny_pyNext_list_end (I.ok.hd hc) st p.isList (by simp;omega) fun h' eb=>⟨rfl,I.turned (t':=s.toks) (fun b o hb e=>eb b o hb e) f0 f1 f3 f4 f5⟩
 self:=fun _ _ _ _ _ st h=>wpAny_pyIter_listiter st h
theorem qg8{P:Program}{w:World}{K:PySem.W.Frag}{tg:Expr}(a it:Addr): Turn P w K tg (Itt K a) [it] it (fun i h=>h.IsTupleIter it a i) where
 mem:=by simp
 obj:=fun i h st b hb=>by
  have e:b=it:=by simpa using hb
  subst e;obtain⟨o,e,c,d⟩:=st;exact⟨o,e,fun v z=>by rw [d] at z;cases z⟩
 keep:=fun i h h' st k=>st.at fun o e=>k it (by simp) o e
 item:=by
  intro X hP hw hK hc i pins s σ H E I hf st hg;subst hP hw hK;obtain⟨xs,x,hq,hx⟩:=hg;obtain⟨its,rv,p,hz⟩:=I.tuple hq;obtain⟨u,hu,ru⟩:=rv.get hx;obtain⟨f0,f1,f2,f3,f4,f5⟩:=hf it (by simp);refine wpAny_pyNext_tuple_item st (show s.heap.IsTuple a its.toArray from p) (x:=u) (by simpa using hu) fun h' st' sb=>?_;have I1:Inv X pins σ H {s with heap:=h'}:=I.turned (t':=s.toks) (fun b o hb e=>(sb.2 b hb).trans e) f0 f1 f3 f4 f5;obtain⟨o,e,c,d⟩:=id st';exact⟨u,rfl,qg7 (s:={s with heap:=h'}) e c d (by decide) ⟨x,H,I1,ru,⟨rfl,fun ys hy=>by rw [I.tuple_inj hy hq];exact hx⟩,st',fun b hb=>(hf b hb).1⟩⟩
 done:=by
  intro X hP hw hK hc i pins s σ H E I hf st hg;subst hP hw hK;obtain⟨xs,hq,hx⟩:=hg;obtain⟨its,rv,p,hz⟩:=I.tuple hq;obtain⟨f0,f1,f2,f3,f4,f5⟩:=hf it (by simp);have hl:=rv.length;exact wpAny_pyNext_tuple_end (I.ok.hd hc) st (show s.heap.IsTuple a its.toArray from p) (by simp;omega) fun h' eb=>⟨rfl,I.turned (t':=s.toks) (fun b o hb e=>eb b o hb e) f0 f1 f3 f4 f5⟩
 self:=fun _ _ _ _ _ st h=>wpAny_pyIter_tupleiter st h
theorem qg9{P:Program}{w:World}{K:PySem.W.Frag}{tg:Expr}(it:Addr)(lo:Int)(n:Nat): Turn P w K tg (Itr lo n) [it] it (fun i h=>IsRangeIter h it (lo+(i:Nat)*1) ((n:Int)-(i:Nat)) 1) where
 mem:=by simp
 obj:=fun i h st b hb=>by
  have e:b=it:=by simpa using hb
  subst e;exact⟨_,st,fun v z=>by
   have z':Data.fields _=Data.cell v:=z;cases z'⟩
 keep:=fun i h h' st k=>k it (by simp) _ st
 item:=by
  intro X hP hw hK hc i pins s σ H E I hf st hg;subst hP hw hK;obtain⟨f0,f1,f2,f3,f4,f5⟩:=hf it (by simp);have W:=Walks.range (prog:=X.prog) (w:=X.w) (I.ok.hd hc) it lo 1 n;refine W.item i s _ _ hg st fun v h' tk hv st' kk=>?_;obtain⟨t,rfl⟩:=hv;have I1:Inv X pins σ H {s with heap:=h',toks:=tk}:=I.turned (fun b o hb e=>kk b o (by simpa using hb) e) f0 f1 f3 f4 f5;refine⟨_,rfl,qg7 (s:={s with heap:=h',toks:=tk}) (n:="range_iterator") st' rfl rfl (by decide) ⟨.int (lo+i),H,I1,⟨t,?_⟩,⟨rfl,rfl⟩,st',fun b hb=>(hf b hb).1⟩⟩;rw [Int.mul_one]
 done:=by
  intro X hP hw hK hc i pins s σ H E I hf st hg;subst hP hw hK;obtain⟨f0,f1,f2,f3,f4,f5⟩:=hf it (by simp);exact wpAny_pyNext_range_end (I.ok.hd hc) st (by have:n<=i:=hg;omega) fun h' eb=>⟨rfl,I.turned (t':=s.toks) (fun b o hb e=>eb b o hb e) f0 f1 f3 f4 f5⟩
 self:=fun _ _ _ _ _ st h=>wpAny_pyIter_rangeiter st h
section
variable{X:Cx}{tg:Expr}
theorem qbw{pins:List (Addr×Obj)}{σ : St}{H:Hp}{s:Shared}{R:It->Hp->Prop}{E:Value->Shared->Prop}{lo hi:Int}{t u v:Tok}{tk:Nat}(I:Inv X pins σ H s)(h1 : -(2 ^ 62)<=lo)(h2:lo<2 ^ 62)(h3 : -(2 ^ 62)<=hi)(h4:hi<2 ^ 62)
  (q:R (Itr lo (hi-lo).toNat) H):wpAny (model X.prog X.w) X.A (pyIter (.ref s.heap.objs.size)) (PIE X pins σ tg R) E {s with heap:=s.heap.push {cls:=.type "range",data:=.fields #[.int lo t,.int hi u,.int 1 v]},toks:=tk}:=by
 refine wpAny_pyIter_range (IsRange.new ..) (small_one h1 h2 h3 h4) ?_;have I1:Inv X pins σ H {s with heap:=s.heap.push {cls:=.type "range",data:=.fields #[.int lo t,.int hi u,.int 1 v]},toks:=tk}:=I.kept fun b o e=>gf _ e;refine⟨(s.heap.push {cls:=.type "range",data:=.fields #[.int lo t,.int hi u,.int 1 v]}).objs.size,[(s.heap.push {cls:=.type "range",data:=.fields #[.int lo t,.int hi u,.int 1 v]}).objs.size],_,_,H,rfl,
  I1.kept (t':=tk) fun b o e=>gf _ e,qg9 _ lo (hi-lo).toNat,?_,fun b hb=>?_,q⟩
 ·have e1:lo+((0:Nat):Int)*1=lo:=by simp
  have e2:(((hi-lo).toNat:Nat):Int)-((0:Nat):Int)=Builtin.Range.rangeSize lo hi 1:=by rw [rangeSize_one];split <;> omega
  show IsRangeIter _ _ (lo+((0:Nat):Int)*1) ((((hi-lo).toNat:Nat):Int)-((0:Nat):Int)) 1;rw [e1,e2];exact m4 _ rfl
 ·have e:b=(s.heap.push {cls:=.type "range",data:=.fields #[.int lo t,.int hi u,.int 1 v]}).objs.size:=by simpa using hb
  subst e;exact I1.fpOk (gv _) (I1.hok.fresh (gv _))
def qsy(ta:TA): TI:=fun σ H R=>ta σ H fun vs H1=>∃j:Int,vs=[.int j] /\ -(2 ^ 62)<=j/\j<2 ^ 62/\R (Itr 0 j.toNat) H1
def qsz(ta:TA): TI:=fun σ H R=>ta σ H fun vs H1=>∃i j:Int,vs=[.int i,.int j]/\(-(2 ^ 62)<=i/\i<2 ^ 62 /\ -(2 ^ 62)<=j/\j<2 ^ 62)/\R (Itr i (j-i).toNat) H1
theorem qhx{a:Expr}{ta:TA}{p pos:Pos}(hg:Gl X "range")(hm:X.mg "range" = none)(ha:PA X [a] ta)(hs:starEach [a] X.env=[(false,eval a X.env)]:=by rfl): PI X tg (.Call (.Name "range" p) [a] [] pos) (qsy ta):=by
 intro pins s σ H R I h;refine Call_ (q1i I hg hm boot_range (g0p (thn (ha pos pins s σ H _ I h) fun us s1 ⟨vs,H1,I1,r1,q1⟩=>?_) hs rfl));obtain⟨j,e,q1,q2,q⟩:=q1;subst e;cases r1 with
 | cons r rr=>
  cases rr;obtain⟨t,rfl⟩:=r;exact call_range_1 (qbw I1 (by omega) (by omega) q1 q2 (by simpa using q))
theorem qhy{a b:Expr}{ta:TA}{p pos:Pos}(hg:Gl X "range")(hm:X.mg "range" = none)(ha:PA X [a,b] ta)(hs:starEach [a,b] X.env=[(false,eval a X.env),(false,eval b X.env)]:=by rfl)(hs2:starEach [b] X.env=[(false,eval b X.env)]:=by rfl):
  PI X tg (.Call (.Name "range" p) [a,b] [] pos) (qsz ta):=by
 intro pins s σ H R I h;refine Call_ (q1i I hg hm boot_range (g0p (thn (ha pos pins s σ H _ I h) fun us s1 ⟨vs,H1,I1,r1,q1⟩=>?_) (by rw [hs,hs2]) (by rw [hs2];rfl)));obtain⟨i,j,e,⟨q1,q2,q3,q4⟩,q⟩:=q1;subst e;cases r1 with
 | cons r rr=>
  cases rr with
  | cons r' rr=>
   cases rr;obtain⟨t,rfl⟩:=r;obtain⟨t',rfl⟩:=r';exact call_range_2 (qbw I1 q1 q2 q3 q4 q)
def qub(wi:TI)(g:TG)(tb:TS): TS:=fun D σ H=>wi σ H fun J H1=>∃W:Nat->Nat->St->Hp->Prop,(∃m,W 0 m σ H1)/\∀i m σ H,W i m σ H ->
 (J.stop i H/\D.nx σ H)\/(J.go i H/\∃N:St->Hp->Prop,(∀ σ' H',N σ' H'->∃m',m'<m/\W (i+1) m' σ' H')/\∀x H',J.yld i H x H'->g x σ H' fun σ2 H2=>tb {D with nx:=N,ct:=N,bk:=D.nx} σ2 H2)
def q1j(fp:List Addr)(h:Heap): List (Addr×Obj):=fp.filterMap fun b=>(h.get? b).map fun o=>(b,o)
theorem wd{fp:List Addr}{h:Heap}{b:Addr}{o:Obj}(hb:b∈fp)(e:h.get? b=some o): (b,o)∈q1j fp h:=g3x.mpr ⟨b,hb,by rw [e];rfl⟩
theorem qhz{fp:List Addr}{h:Heap}{p:Addr×Obj}(hp:p∈q1j fp h): p.1∈fp/\h.get? p.1=some p.2:=by
 obtain⟨b,hb,e⟩:=g3x.mp hp;cases q:h.get? b with
 | none=>rw [q] at e;cases e
 | some o=>
  rw [q] at e;have e':(b,o)=p:=mh e;subst e';exact⟨hb,q⟩
theorem Inv.pinned{pins:List (Addr×Obj)}{σ : St}{H:Hp}{s:Shared}{fp:List Addr}(I:Inv X pins σ H s)(hf:∀b∈fp,yf X pins H b)(ho:∀b∈fp,∃o,s.heap.get? b=some o/\∀v,o.data ≠ .cell v): Inv X (pins++q1j fp s.heap) σ H s:=
 I.pins_of fun p hp=>(nu.mp hp).elim (fun z=>I.pin p (mw _ z)) fun z=>by
  obtain⟨hb,e⟩:=qhz z;obtain⟨f0,f1,f2,_⟩:=hf p.1 hb;obtain⟨o,e',d⟩:=ho p.1 hb;rw [e] at e';cases e';exact⟨e,f0,f1,f2,d⟩
theorem Inv.unpinned{pins pl:List (Addr×Obj)}{σ : St}{H:Hp}{s:Shared}(I:Inv X (pins++pl) σ H s): Inv X pins σ H s:=I.pins_of fun p hp=>I.pin p (mw _ (g23 _ hp))
theorem qqp{iter:Expr}{body:List Stmt}{wi:TI}{g:TG}{tb:TS}{pos:Pos}(hp:PassesOwn (model X.prog X.w) X.A X.env X.xe)(hc:X.calm=true)(hi:PI X tg iter wi)(hg:PG X tg g)(hb:PSs X body tb)
  (hs:∀x,foldedSetIterable iter X.env x=pure x:=by intro _;rfl):PS X (.For tg iter body [] pos) (qub wi g tb):=by
 intro pins s σ H D I h;refine wpAny_For (thn (hi pins s σ H _ I h) fun v s1 h1=>thn h1 fun itv s2 h2=>?_) hs;obtain⟨it,fp,tn,J,H2,e,I2,T,st2,f2,W,⟨m0,w0⟩,turn⟩:=h2;subst e
 -- what stays true of the iterator's objects through the loop
 have stat:∀ {H':Hp},(∀b∈fp,H' b=none)->∀b∈fp,yf X pins H' b:=fun hn b hb=>⟨hn b hb,(f2 b hb).2⟩
 refine codeAny_forLoop_any (fun n s'=>∃i σ' H',Inv X pins σ' H' s'/\tn i s'.heap/\(∀b∈fp,H' b=none)/\W i n σ' H') ?_ m0 ⟨0, σ,H2,I2,st2,fun b hb=>(f2 b hb).1,w0⟩
 rintro n s3 ⟨i, σ3,H3,I3,st3,fr3,w3⟩
 rcases turn i n σ3 H3 w3 with⟨stop,qn⟩|⟨go,N,hN,step⟩
 ·refine g16 hp (thn (T.done X rfl rfl rfl hc i pins s3 σ3 H3 X.xe I3 (stat fr3) st3 stop) fun r s4 ⟨hr,I4⟩=>?_)
  subst hr;exact g3b ⟨σ3,H3,I4,qn⟩
 ·refine g16 hp (thn (T.item X rfl rfl rfl hc i pins s3 σ3 H3 X.xe I3 (stat fr3) st3 go) fun r s4 ⟨u,hr,h4⟩=>?_)
  subst hr;refine g16 hp (thn h4 fun _ s5 ⟨x,H5,I5,r5,y5,st5,fr5⟩=>?_);have I5':=I5.pinned (stat fr5) (T.obj _ _ st5);refine g16 hp (thn (hg _ s5 σ3 H5 x u _ I5' r5 (step x H5 y5)) fun _ s6 ⟨σ6,H6,I6,q6⟩=>?_);refine g16 hp (thn (hb _ s6 σ6 H6 _ I6 q6) fun f s7 q7=>?_);have again:∀ {σ7:St} {H7:Hp},Inv X (pins++q1j fp s5.heap) σ7 H7 s7->N σ7 H7->∃m,m<n/\∃i σ' H',Inv X pins σ' H' s7/\tn i s7.heap/\(∀b∈fp,H' b=none)/\W i m σ' H':=fun {σ7 H7} I7 n7=>by
   obtain⟨m',hm,w7⟩:=hN σ7 H7 n7;refine⟨m',hm,i+1, σ7,H7,I7.unpinned,T.keep _ _ _ st5 fun b hb o e=>(I7.pin (b,o) (mw _ (mw _ (wd hb e)))).1,fun b hb=>?_,w7⟩;obtain⟨o,e,d⟩:=T.obj _ _ st5 b hb;exact(I7.pin (b,o) (mw _ (mw _ (wd hb e)))).2.1
  cases f with
  | next=>obtain⟨σ7,H7,I7,n7⟩:=q7;exact again I7 n7
  | cont=>obtain⟨σ7,H7,I7,n7⟩:=q7;exact again I7 n7
  | brk=>obtain⟨σ7,H7,I7,q7⟩:=q7;exact⟨σ7,H7,I7.unpinned,q7⟩
  | ret v=>obtain⟨x7, σ7,H7,I7,r7,q7⟩:=q7;exact⟨x7, σ7,H7,I7.unpinned,r7,q7⟩
end
abbrev R2:=V->V->Hp->VK->Prop
def OpR(X:Cx)(f:Value->Value->Sem Value)(r:R2): Prop:=
 ∀(pins:List (Addr×Obj)) (s:Shared) (σ : St) (H:Hp) (x y:V) (v u:Value) (Q:VK),Inv X pins σ H s->RelV x v->RelV y u->r x y H Q ->
  wpAny (model X.prog X.w) X.A (f v u) (EP X pins σ Q) X.xe s
def j6(X:Cx)(f:Value)(r:List V->Hp->VK->Prop): Prop:=
 ∀(pins:List (Addr×Obj)) (s:Shared) (σ : St) (H:Hp) (xs:List V) (us:List Value) (Q:VK),Inv X pins σ H s->Vals xs us->r xs H Q ->
  wpAny (model X.prog X.w) X.A (call f us) (EP X pins σ Q) X.xe s
def quc(X:Cx)(r:V->Hp->(Bool->Hp->Prop)->Prop): Prop:=
 ∀(pins:List (Addr×Obj)) (s:Shared) (σ : St) (H:Hp) (x:V) (v:Value) (Q:Bool->Hp->Prop),Inv X pins σ H s->RelV x v->r x H Q ->
  wpAny (model X.prog X.w) X.A (truthy v) (TP X pins σ Q) X.xe s
def tOp(r:R2)(ta tb:TE): TE:=fun σ H Q=>ta σ H fun x H1=>tb σ H1 fun y H2=>r x y H2 Q
def rI(C:Int->Int->Prop)(g:Int->Int->V): R2:=fun x y H Q=>∃i j,x=.int i/\y=.int j/\C i j/\Q (g i j) H
def rI0(g:Int->Int->V): R2:=fun x y H Q=>∃i j,x=.int i/\y=.int j/\Q (g i j) H
section
variable{X:Cx}{a b c:Expr}{ta tb tc:TE}{pos:Pos}
theorem qkl(ha:PE X a ta)(hb:PE X b tb){pins:List (Addr×Obj)}{s:Shared}{σ : St}{H:Hp}{R:V->V->Hp->Prop}(I:Inv X pins σ H s)
  (h:ta σ H fun x H1=>tb σ H1 fun y H2=>R x y H2) {Q:Value->Shared->Prop} {f:Value->Value->Sem Value}
  (hf:∀v u s2 x y H2,Inv X pins σ H2 s2->RelV x v->RelV y u->R x y H2->wpAny (model X.prog X.w) X.A (f v u) Q X.xe s2) :
  wpAny (model X.prog X.w) X.A (eval a X.env) (fun v s₁=>wpAny (model X.prog X.w) X.A (eval b X.env) (fun u s₂=>wpAny (model X.prog X.w) X.A (f v u) Q X.xe s₂) X.xe s₁) X.xe s:=by
 refine thn (ha pins s σ H _ I h) fun v s1 ⟨x,H1,I1,r1,q1⟩=>?_;refine thn (hb pins s1 σ H1 _ I1 q1) fun u s2 ⟨y,H2,I2,r2,q2⟩=>?_;exact hf v u s2 x y H2 I2 r1 r2 q2
theorem qnf{op:Operator}{r:R2}(ho:OpR X (binaryOp op) r)(ha:PE X a ta)(hb:PE X b tb): PE X (.BinOp a op b pos) (tOp r ta tb):=by
 intro pins s σ H Q I h;exact wpAny_BinOp (qkl ha hb I h fun v u s2 x y H2 I2 rx ry q=>ho pins s2 σ H2 x y v u Q I2 rx ry q)
theorem opI{f:Value->Value->Sem Value}{C:Int->Int->Prop}{g:Int->Int->Int}
  (rule:∀(i j:Int) (t u:Tok) (s:Shared) (Q:Value->Shared->Prop) (E:Value->Shared->Prop),C i j->Q (.int (g i j) s.toks) {s with toks:=s.toks+1}->wpAny (model X.prog X.w) X.A (f (.int i t) (.int j u)) Q E s) :
  OpR X f (rI C fun i j=>.int (g i j)):=by
 intro pins s σ H x y v u Q I rx ry h;obtain⟨i,j,rfl,rfl,hc,q⟩:=h;obtain⟨t,rfl⟩:=rx;obtain⟨t',rfl⟩:=ry;exact rule i j t t' s _ _ hc ⟨.int (g i j),H,I.tok _,⟨_,rfl⟩,q⟩
theorem qkm{f:Value->Value->Sem Value}{g:Int->Int->Int}
  (rule:∀(i j:Int) (t u:Tok) (s:Shared) (Q:Value->Shared->Prop) (E:Value->Shared->Prop),Q (.int (g i j) s.toks) {s with toks:=s.toks+1}->wpAny (model X.prog X.w) X.A (f (.int i t) (.int j u)) Q E s) :
  OpR X f (rI0 fun i j=>.int (g i j)):=by
 intro pins s σ H x y v u Q I rx ry h;obtain⟨i,j,rfl,rfl,q⟩:=h;obtain⟨t,rfl⟩:=rx;obtain⟨t',rfl⟩:=ry;exact rule i j t t' s _ _ ⟨.int (g i j),H,I.tok _,⟨_,rfl⟩,q⟩
theorem qga{f:Value->Value->Sem Value}{g:Int->Int->Bool}
  (rule:∀(i j:Int) (t u:Tok) (s:Shared) (Q:Value->Shared->Prop) (E:Value->Shared->Prop),Q (.bool (g i j)) s->wpAny (model X.prog X.w) X.A (f (.int i t) (.int j u)) Q E s) :
  OpR X f (rI0 fun i j=>.bl (g i j)):=by
 intro pins s σ H x y v u Q I rx ry h;obtain⟨i,j,rfl,rfl,q⟩:=h;obtain⟨t,rfl⟩:=rx;obtain⟨t',rfl⟩:=ry;exact rule i j t t' s _ _ ⟨.bl (g i j),H,I,rfl,q⟩
def qud(i j:Int): Prop:=0<j/\j<1073741824
def qqq(i j:Int): Prop:=0<=j/\j<=1000000/\i.natAbs<2 ^ 64
def CMul(i j:Int): Prop:=(-(2 ^ 64)<i/\i<2 ^ 64)\/(-(2 ^ 64)<j/\j<2 ^ 64)
theorem CMul.ok{i j:Int}(h:CMul i j): IntMulOk i j:=by
 rcases h with⟨h1,h2⟩|⟨h1,h2⟩
 ·exact .of_left (intBits_le_64 h1 h2)
 ·exact .of_right (intBits_le_64 h1 h2)
theorem qqr:OpR X (binaryOp .Add) (rI0 fun i j=>.int (i+j)):=qkm fun _ _ _ _ _ _ _ q=>add_int q
theorem qqs:OpR X (binaryOp .Sub) (rI0 fun i j=>.int (i-j)):=qkm fun _ _ _ _ _ _ _ q=>sub_int q
theorem qqt:OpR X (binaryOp .Mult) (rI CMul fun i j=>.int (i*j)):=opI fun _ _ _ _ _ _ _ hc q=>mul_int q hc.ok
theorem qo1:OpR X (binaryOp .FloorDiv) (rI qud fun i j=>.int (i / j)):=opI fun i j _ _ _ _ _ hc q=>by
 have h1:(0:Int)<j:=hc.1;have h2:j<1073741824:=hc.2;exact floordiv_int (by omega) (by rw [g47 i (by omega)];exact q) (.inl (PyProof.noPylong_small (by omega)))
theorem qqu:OpR X (binaryOp .Mod) (rI (fun _ j=>0<j) fun i j=>.int (i%j)):=opI fun i j _ _ _ _ _ hc q=>by
 have h1:(0:Int)<j:=hc;exact mod_int' (by omega) (by rw [Int.fmod_eq_emod_of_nonneg i (by omega)];exact q)
theorem qqv:OpR X (binaryOp .Pow) (rI qqq fun i j=>.int (i ^ j.toNat)):=opI fun _ _ _ _ _ _ _ hc q=>pow_int_small hc.1 hc.2.1 hc.2.2 q
theorem qqw:OpR X (binaryOp .LShift) (rI qqq fun i j=>.int (i*2 ^ j.toNat)):=opI fun _ _ _ _ _ _ _ hc q=>lshift_int_small hc.1 hc.2.1 hc.2.2 q
theorem qqx:OpR X (binaryOp .BitAnd) (rI0 fun i j=>.int (Builtin.bitAnd i j)):=qkm fun _ _ _ _ _ _ _ q=>and_int q
end
def q9f:V->V->Bool
 | .non,.non=>true | .non,.int _=>true | .int _,.non=>true | .non,.bl _=>true | .bl _,.non=>true | .non,.str _=>true | .str _,.non=>true
 | .int _,.int _=>true | .bl _,.bl _=>true | .str _,.str _=>true | .byt _,.byt _=>true
 | .int _,.str _=>true | .str _,.int _=>true | .bl _,.str _=>true | .str _,.bl _=>true
 | _,_=>false
def rEq:R2:=fun x y H Q=>q9f x y=true/\Q (.bl (decide (x=y))) H
def rNe:R2:=fun x y H Q=>q9f x y=true/\Q (.bl (!decide (x=y))) H
theorem qf5{i j:Int}: decide (V.int i=V.int j)=(i==j):=by
 rw [pj];simp
theorem qi0{i j:Bool}: decide (V.bl i=V.bl j)=(i==j):=by
 rw [pj];simp
theorem qf6{i j:Str}: decide (V.str i=V.str j)=(i==j):=by
 rw [pj];simp
theorem qf7{i j:Array UInt8}: decide (V.byt i=V.byt j)=(i.toList==j.toList):=by
 rw [pj];cases i;cases j;simp
section
variable{X:Cx}{a b c:Expr}{ta tb tc:TE}{pos:Pos}
theorem zf{pins:List (Addr×Obj)}{σ : St}{H:Hp}{s:Shared}{Q:VK}{k k':Bool}(I:Inv X pins σ H s)(q:Q (.bl k) H)(e:k=k'): EP X pins σ Q (.bool k') s:=by
 subst e;exact⟨.bl k,H,I,rfl,q⟩
theorem qt0:OpR X (compareOp .Eq) rEq:=by
 intro pins s σ H x y v u Q I rx ry h;obtain⟨hs,q⟩:=h;cases x with
 | non=>
  cases rx;cases y with
  | non=>cases ry;exact PySem.EqNone.eq_none_none (zf I q (by simp))
  | bl j=>cases ry;exact PySem.EqNone.eq_none_bool (zf I q (by simp))
  | int j=>obtain⟨t',rfl⟩:=ry;exact PySem.EqNone.eq_none_int (zf I q (by simp))
  | str j=>obtain⟨t',rfl⟩:=ry;exact PySem.EqNone.eq_none_str (zf I q (by simp))
  | _=>exact absurd (show false=true from hs) m9
 | bl i=>
  cases rx;cases y with
  | non=>cases ry;exact PySem.EqNone.eq_bool_none (zf I q (by simp))
  | bl j=>cases ry;exact eq_bool (zf I q qi0)
  | str j=>obtain⟨t',rfl⟩:=ry;exact PySem.EqMixed.eq_bool_str (zf I q (by simp))
  | _=>exact absurd (show false=true from hs) m9
 | int i=>
  obtain⟨t,rfl⟩:=rx;cases y with
  | non=>cases ry;exact PySem.EqNone.eq_int_none (zf I q (by simp))
  | int j=>obtain⟨t',rfl⟩:=ry;exact eq_int (zf I q qf5)
  | str j=>obtain⟨t',rfl⟩:=ry;exact PySem.EqMixed.eq_int_str (zf I q (by simp))
  | _=>exact absurd (show false=true from hs) m9
 | str i=>
  obtain⟨t,rfl⟩:=rx;cases y with
  | non=>cases ry;exact PySem.EqNone.eq_str_none (zf I q (by simp))
  | bl j=>cases ry;exact PySem.EqMixed.eq_str_bool (zf I q (by simp))
  | int j=>obtain⟨t',rfl⟩:=ry;exact PySem.EqMixed.eq_str_int (zf I q (by simp))
  | str j=>obtain⟨t',rfl⟩:=ry;exact eq_str (zf I q qf6)
  | _=>exact absurd (show false=true from hs) m9
 | byt i=>
  obtain⟨t,rfl⟩:=rx;cases y with
  | byt j=>obtain⟨t',rfl⟩:=ry;exact PySem.W.eq_bytes (zf I q qf7)
  | _=>exact absurd (show false=true from hs) m9
 | _=>cases y <;> exact absurd (show false=true from hs) m9
theorem qt1:OpR X (compareOp .NotEq) rNe:=by
 intro pins s σ H x y v u Q I rx ry h;obtain⟨hs,q⟩:=h;cases x with
 | non=>
  cases rx;cases y with
  | non=>cases ry;exact PySem.EqNone.ne_none_none (zf I q (by simp))
  | bl j=>cases ry;exact PySem.EqNone.ne_none_bool (zf I q (by simp))
  | int j=>obtain⟨t',rfl⟩:=ry;exact PySem.EqNone.ne_none_int (zf I q (by simp))
  | str j=>obtain⟨t',rfl⟩:=ry;exact PySem.EqNone.ne_none_str (zf I q (by simp))
  | _=>exact absurd (show false=true from hs) m9
 | bl i=>
  cases rx;cases y with
  | non=>cases ry;exact PySem.EqNone.ne_bool_none (zf I q (by simp))
  | bl j=>cases ry;exact ne_bool (zf I q (g06 not qi0))
  | str j=>obtain⟨t',rfl⟩:=ry;exact PySem.EqMixed.ne_bool_str (zf I q (by simp))
  | _=>exact absurd (show false=true from hs) m9
 | int i=>
  obtain⟨t,rfl⟩:=rx;cases y with
  | non=>cases ry;exact PySem.EqNone.ne_int_none (zf I q (by simp))
  | int j=>obtain⟨t',rfl⟩:=ry;exact ne_int (zf I q (g06 not qf5))
  | str j=>obtain⟨t',rfl⟩:=ry;exact PySem.EqMixed.ne_int_str (zf I q (by simp))
  | _=>exact absurd (show false=true from hs) m9
 | str i=>
  obtain⟨t,rfl⟩:=rx;cases y with
  | non=>cases ry;exact PySem.EqNone.ne_str_none (zf I q (by simp))
  | bl j=>cases ry;exact PySem.EqMixed.ne_str_bool (zf I q (by simp))
  | int j=>obtain⟨t',rfl⟩:=ry;exact PySem.EqMixed.ne_str_int (zf I q (by simp))
  | str j=>obtain⟨t',rfl⟩:=ry;exact ne_str (zf I q (g06 not qf6))
  | _=>exact absurd (show false=true from hs) m9
 | byt i=>
  obtain⟨t,rfl⟩:=rx;cases y with
  | byt j=>obtain⟨t',rfl⟩:=ry;exact PySem.W.ne_bytes (zf I q (g06 not qf7))
  | _=>exact absurd (show false=true from hs) m9
 | _=>cases y <;> exact absurd (show false=true from hs) m9
theorem qt2:OpR X (compareOp .Lt) (rI0 fun i j=>.bl (decide (i<j))):=qga fun _ _ _ _ _ _ _ q=>lt_int q
theorem qt3:OpR X (compareOp .LtE) (rI0 fun i j=>.bl (decide (i<=j))):=qga fun _ _ _ _ _ _ _ q=>le_int q
theorem qt4:OpR X (compareOp .Gt) (rI0 fun i j=>.bl (decide (j<i))):=qga fun _ _ _ _ _ _ _ q=>gt_int q
theorem qt5:OpR X (compareOp .GtE) (rI0 fun i j=>.bl (decide (j<=i))):=qga fun _ _ _ _ _ _ _ q=>ge_int q
theorem qo2{op:CmpOp}{r:R2}(ho:OpR X (compareOp op) r)(ha:PE X a ta)(hb:PE X b tb)(hm:behindInMarks op b=false): PE X (.Compare a [op] [b] pos) (tOp r ta tb):=by
 intro pins s σ H Q I h;exact wpAny_Compare1 (qkl ha hb I h fun v u s2 x y H2 I2 rx ry q=>ho pins s2 σ H2 x y v u Q I2 rx ry q) hm
def qt6(t:TE): TT:=fun σ H Q=>t σ H fun x H'=>∃k,x=.bl k/\Q k H'
theorem qo3{op:CmpOp}{r:R2}(ho:OpR X (compareOp op) r)(ha:PE X a ta)(hb:PE X b tb)(hm:behindInMarks op b=false): PT X (.Compare a [op] [b] pos) (qt6 (tOp r ta tb)):=by
 intro pins s σ H Q I h;refine wpAny_isTrue_Compare1 (thn (ha pins s σ H _ I h) fun v s1 ⟨x,H1,I1,r1,q1⟩=>thn (hb pins s1 σ H1 _ I1 q1) fun u s2 ⟨y,H2,I2,r2,q2⟩=>
  thn (ho pins s2 σ H2 x y v u _ I2 r1 r2 q2) fun c s3 ⟨z,H3,I3,r3,k,e,q3⟩=>?_) hm
 subst e;cases r3;exact g0z ⟨H3,I3,q3⟩
def qi1(r r':R2)(ta tb tc:TE): TE:=fun σ H Q=>ta σ H fun x H1=>tb σ H1 fun y H2=>r x y H2 fun z H3=>∃k,z=.bl k /\
 (if k=true then tc σ H3 fun w' H4=>r' y w' H4 Q else Q (.bl false) H3)
theorem qkn{op op':CmpOp}{r r':R2}(ho:OpR X (compareOp op) r)(ho':OpR X (compareOp op') r')(ha:PE X a ta)(hb:PE X b tb)(hc:PE X c tc)
  (hm:lastMarks [op,op'] [b,c]=false:=by with_unfolding_all rfl):PE X (.Compare a [op,op'] [b,c] pos) (qi1 r r' ta tb tc):=by
 intro pins s σ H Q I h;refine Compare_chain (thn (ha pins s σ H _ I h) fun v s1 ⟨x,H1,I1,r1,q1⟩=>chain_link (thn (hb pins s1 σ H1 _ I1 q1) fun u s2 ⟨y,H2,I2,r2,q2⟩=>
  thn (ho pins s2 σ H2 x y v u _ I2 r1 r2 q2) fun d s3 ⟨z,H3,I3,r3,k,e,q3⟩=>?_)) hm
 subst e;cases r3;refine g0z ?_;cases k with
 | false=>exact ite_ff ⟨.bl false,H3,I3,rfl,q3⟩
 | true=>exact ite_tt (chain_last (thn (hc pins s3 σ H3 _ I3 q3) fun w' s4 ⟨z',H4,I4,r4,q4⟩=>ho' pins s4 σ H4 y z' u w' Q I4 r2 r4 q4))
def qko(K:PySem.W.Frag)(x:V)(H:Hp)(k:Bool): Prop:=
 match x with
 | .non=>k=false
 | .bl b=>k=b
 | .int i=>k=(i != 0)
 | .str y=>y.length<=sizeLine/\k=((y.length:Int) != 0)
 | .byt y=>y.size<=sizeLine/\k=((y.size:Int) != 0)
 | .ref p=>(∃xs,SqL K H p xs/\k = !xs.isEmpty)\/(∃xs,SqT K H p xs/\k = !xs.isEmpty)\/∃kvs,H p=some (.dK kvs)/\k = !kvs.isEmpty
 | _=>False
theorem qgb{κ : Type}{kvs:List (κ × V)}{vs:List (κ × Value)}(r:KV kvs vs): (!vs.isEmpty) = !kvs.isEmpty:=by
 cases r <;> rfl
theorem q86{xs:List V}{its:List Value}(r:Vals xs its): (!its.toArray.isEmpty) = !xs.isEmpty:=by
 cases r <;> simp
theorem q5c:(sizeLine:Nat)<2 ^ 63:=by rw [g28];decide
theorem qqy:quc X (fun x H Q=>∃k,qko X.K x H k/\Q k H):=by
 intro pins s σ H x v Q I rx h;obtain⟨k,e,q⟩:=h;have hl:=q5c;have hs:sizeLine=16777216:=g28;cases x with
 | non=>
  cases rx;have e':k=false:=e;subst e';exact truthy_none ⟨H,I,q⟩
 | bl b=>
  cases rx;have e':k=b:=e;subst e';exact g0z ⟨H,I,q⟩
 | int i=>
  obtain⟨t,rfl⟩:=rx;have e':k=(i != 0):=e;subst e';exact PySem.P.truthy_int ⟨H,I,q⟩
 | str y=>
  obtain⟨t,rfl⟩:=rx;obtain⟨hy,e'⟩:y.length<=sizeLine/\k=((y.length:Int) != 0):=e;subst e';exact PySem.P.truthy_str (by omega) ⟨H,I.tok _,q⟩
 | byt y=>
  obtain⟨t,rfl⟩:=rx;obtain⟨hy,e'⟩:y.size<=sizeLine/\k=((y.size:Int) != 0):=e;subst e';exact PySem.W.truthy_bytes (by omega) ⟨H,I.tok _,q⟩
 | ref p=>
  cases rx;have e':(∃xs,SqL X.K H p xs/\k = !xs.isEmpty)\/(∃xs,SqT X.K H p xs/\k = !xs.isEmpty)\/∃kvs,H p=some (.dK kvs)/\k = !kvs.isEmpty:=e;rcases e' with⟨xs,hx,e'⟩|⟨xs,hx,e'⟩|⟨kvs,hx,e'⟩
  ·subst e'
   obtain⟨its,r,pl,hz⟩:=I.list hx;have hlen:=r.length;exact wpAny_truthy_list pl.isList (by simp only [gj];omega) ⟨H,I.tok _,by rw [q86 r];exact q⟩
  ·subst e'
   obtain⟨its,r,pl,hz⟩:=I.tuple hx;have hlen:=r.length;exact truthy_tuple pl (by simp only [gj];omega) ⟨H,I.tok _,by rw [q86 r];exact q⟩
  ·subst e'
   obtain⟨hz,hS,vs,r,m⟩:kvs.length<=sizeLine/\(p==sysModules)=false/\∃vs,KV kvs vs/\s.heap.DictOf (mixKind X.prog X.w) p vs:=I.hok p _ hx;have hlen:kvs.length=vs.length:=g46 r;exact wpAny_truthy_dict hS m (by omega) ⟨H,I.tok _,by rw [qgb r];exact q⟩
 | _=>exact(show False from e).elim
theorem qkp(ha:PE X a ta)(he:∀whole,isTrue a X.env whole=(do let v <- whole;standAt a.pos;holding [v] (truthy v))):
  PT X a (fun σ H Q=>ta σ H fun x H'=>∃k,qko X.K x H' k/\Q k H'):=by
 intro pins s σ H Q I h;exact isTrue_plain (thn (ha pins s σ H _ I h) fun v s1 ⟨x,H1,I1,r1,q1⟩=>qqy pins s1 σ H1 x v Q I1 r1 q1) (he _)
theorem vals1{x:V}{us:List Value}(r:Vals [x] us): ∃u,us=[u]/\RelV x u:=by
 cases r with
 | cons r1 r2=>cases r2;exact⟨_,rfl,r1⟩
theorem vals2{x y:V}{us:List Value}(r:Vals [x,y] us): ∃u w',us=[u,w']/\RelV x u/\RelV y w':=by
 cases r with
 | cons r1 r2=>
  cases r2 with
  | cons r3 r4=>cases r4;exact⟨_,_,rfl,r1,r3⟩
theorem qi2(hc:X.calm=true): j6 X (.builtin "max") (fun xs H Q=>∃i j,xs=[.int i,.int j]/\Q (.int (if j>i then j else i)) H):=by
 intro pins s σ H xs us Q I r h;obtain⟨i,j,rfl,q⟩:=h;obtain⟨u,w',rfl,⟨t,rfl⟩,⟨t',rfl⟩⟩:=vals2 r;refine max_two_ints (I.ok.hd hc) fun h' tk k=>⟨_,H,I.kept k,?_,q⟩
 by_cases hj:j>i
 ·rw [mq hj,mq hj];exact⟨_,rfl⟩
 ·rw [mj hj,mj hj];exact⟨_,rfl⟩
theorem qi3(hc:X.calm=true): j6 X (.builtin "min") (fun xs H Q=>∃i j,xs=[.int i,.int j]/\Q (.int (if j<i then j else i)) H):=by
 intro pins s σ H xs us Q I r h;obtain⟨i,j,rfl,q⟩:=h;obtain⟨u,w',rfl,⟨t,rfl⟩,⟨t',rfl⟩⟩:=vals2 r;refine min_two_ints (I.ok.hd hc) fun h' tk k=>⟨_,H,I.kept k,?_,q⟩
 by_cases hj:j<i
 ·rw [mq hj,mq hj];exact⟨_,rfl⟩
 ·rw [mj hj,mj hj];exact⟨_,rfl⟩
theorem qi4:j6 X (.type "int") (fun xs H Q=>(∃i,xs=[.int i]/\Q (.int i) H)\/∃k,xs=[.bl k]/\Q (.int (if k then 1 else 0)) H):=by
 intro pins s σ H xs us Q I r h;rcases h with⟨i,rfl,q⟩|⟨k,rfl,q⟩
 ·obtain⟨u,rfl,t,rfl⟩:=vals1 r
  exact call_int_int ⟨.int i,H,I,⟨_,rfl⟩,q⟩
 ·obtain⟨u,rfl,r1⟩:=vals1 r
  cases r1;exact call_int_bool ⟨.int (if k then 1 else 0),H,I.tok _,⟨_,rfl⟩,q⟩
def que(K:PySem.W.Frag)(x:V)(H:Hp)(n:Nat): Prop:=
 match x with
 | .str y=>y.length<=sizeLine/\n=y.length
 | .byt y=>y.size<=sizeLine/\n=y.size
 | .ref p=>(∃xs,SqL K H p xs/\n=xs.length)\/∃xs,SqT K H p xs/\n=xs.length
 | _=>False
theorem qkq:j6 X (.builtin "len") (fun xs H Q=>∃x n,xs=[x]/\que X.K x H n/\Q (.int n) H):=by
 intro pins s σ H xs us Q I r h;obtain⟨x,n,rfl,e,q⟩:=h;obtain⟨u,rfl,rx⟩:=vals1 r;have hl:=q5c;have hs:sizeLine=16777216:=g28;cases x with
 | str y=>
  obtain⟨t,rfl⟩:=rx;obtain⟨hy,e'⟩:y.length<=sizeLine/\n=y.length:=e;subst e';exact len_str (by omega) ⟨.int _,H,I.tok _,⟨_,rfl⟩,q⟩
 | byt y=>
  obtain⟨t,rfl⟩:=rx;obtain⟨hy,e'⟩:y.size<=sizeLine/\n=y.size:=e;subst e';exact PySem.W.len_bytes (by omega) ⟨.int _,H,I.tok _,⟨_,rfl⟩,q⟩
 | ref p=>
  cases rx;have e':(∃xs,SqL X.K H p xs/\n=xs.length)\/∃xs,SqT X.K H p xs/\n=xs.length:=e;rcases e' with⟨xs,hx,e'⟩|⟨xs,hx,e'⟩
  ·subst e'
   obtain⟨its,r',pl,hz⟩:=I.list hx;have hlen:=r'.length;exact Calls.call_len_list pl.isList (by simp only [gj];omega) ⟨.int xs.length,H,I.tok _,⟨_,by simp only [gj];rw [hlen]⟩,q⟩
  ·subst e'
   obtain⟨its,r',pl,hz⟩:=I.tuple hx;have hlen:=r'.length;exact len_tuple pl (by simp only [gj];omega) ⟨.int xs.length,H,I.tok _,⟨_,by simp only [gj];rw [hlen]⟩,q⟩
 | _=>exact(show False from e).elim
end
structure ObjM(h:Heap)(x dx C:Addr)(mA:Str->Option Value): Prop where
 obj:h.get? x=some (PySem.W.instObj C dx)
 ns:h.Ns1 dx mA
 ne:dx≠x
theorem qi5{h:Heap}{dx:Addr}{mA:Str->Option Value}(n:h.Ns1 dx mA): ∃od,h.get? dx=some od/\∀name,PySem.W.lookIn name od=some (mA name):=by
 obtain⟨o,es,ep,ho,hd,hk,_,hm⟩:=n;refine⟨o,ho,fun name=>?_⟩;have e:=hm name;unfold nsFind findBy at e;rw [<- Array.find?_toList] at e;unfold PySem.W.lookIn;rw [hd];dsimp only
 split
 ·rename_i y q
  rw [q] at e;exact g06 some e
 ·rename_i q
  rw [q] at e;have a:es.toList.any (·.refKey)=false:=by
   rw [List.any_eq_false];intro y hy;obtain⟨z,t,hkey⟩:=hk y (Array.mem_toList_iff.mp hy);simp [DictEntry.refKey,hkey]
  have a':¬es.toList.any (·.refKey)=true:=by rw [a];exact m9
  rw [mj a'];exact g06 some e
theorem ObjM.look{h:Heap}{x dx C:Addr}{mA:Str->Option Value}(I:ObjM h x dx C mA): ∃od,PySem.W.InstAt h x (PySem.W.instObj C dx) C (some od)/\∀name,PySem.W.lookIn name od=some (mA name):=
 let⟨od,ho,hl⟩:=qi5 I.ns
 ⟨od,⟨I.obj,rfl,rfl,ho⟩,hl⟩
section
variable{prog:Program}{w:World}{A:Around}{E:Value->Shared->Prop}{s:Shared}{K:PySem.W.Frag}{x dx C f:Addr}{mA:Str->Option Value}{name:Str}{v:Value}
theorem qkr{pl:Sem Bool}{Q:Value×List Value->Shared->Prop}(X:K.In s.heap)(I:ObjM s.heap x dx C mA)(hg:PySem.W.plainGet K C name=true)
  (hf:PySem.W.findIn K (.ref C) name=some (some (.ref f))) (ht:PySem.W.isFn K (.ref f)=true) (hv:mA name=none) (h:Q (.ref f,[.ref x]) s) :
  wpAny (model prog w) A (getMethod (.ref x) name pl) Q E s:=by
 obtain⟨od,J,hl⟩:=I.look;exact PySem.W.method_fn X J (PySem.W.plainGet_of hg).1 (PySem.W.plainGet_of hg).2 hf (g24.mp ht) (by show(PySem.W.lookIn name od).map (·.isSome)=some false;rw [hl,hv];rfl) h
end
theorem RelO.none_of{o:Option Value}(r:RelO none o): o=none:=by
 cases o with
 | none=>rfl
 | some u=>exact(show False from r).elim
section
variable{P:Program}{w:World}{H H':Hp}{h h':Heap}{a C dx:Addr}{fs fs':List (Str×V)}
theorem qf8(hok:HOk P w H h)(e:H a=some (.ins C dx fs)): ∃mA,ObjM h a dx C mA/\(∀f,RelO (fs.lookup f) (mA f))/\PySem.Within mA (fs.map (·.1))/\fs.length<=1000/\H dx=some (.own a):=by
 obtain⟨d,z,ne,ob,mA,n,r,q⟩:=(show ObjOk P w H h a (.ins C dx fs) from hok a _ e)
 exact⟨mA,⟨ob,n,ne⟩,r,q,z,d⟩
end
structure Cls(K:PySem.W.Frag)(C:Addr): Prop where
 pg:PySem.W.plainGet K C Str.empty=true
 hd:PySem.W.hasDictIn K C=true
 po:PySem.W.plainOver K C=true
 sa:PySem.W.findIn K (.ref C) "__setattr__" = some (some (.builtin "object.__setattr__"))
theorem Cls.get{K:PySem.W.Frag}{C:Addr}(c:Cls K C)(f:Str): PySem.W.plainGet K C f=true:=c.pg
structure Meth(K:PySem.W.Frag)(C:Addr)(m:Str)(f:Addr): Prop where
 at_:PySem.W.findIn K (.ref C) m=some (some (.ref f))
 fn:PySem.W.isFn K (.ref f)=true
 kp:PySem.W.keepIn K (.ref f)=true
section
variable{X:Cx}{pins:List (Addr×Obj)}{σ : St}{H:Hp}{s:Shared}{a C dx:Addr}{fs:List (Str×V)}{f:Str}{v:V}{A:Around}{E:Value->Shared->Prop}
theorem qgc{m:Str}{g:Addr}{pl:Sem Bool}{Q:Value×List Value->Shared->Prop}(I:Inv X pins σ H s)(e:H a=some (.ins C dx fs))(c:Cls X.K C)(k:Meth X.K C m g)(l:fs.lookup m=none)
  (h:Q (.ref g,[.ref a]) s):wpAny (model X.prog X.w) A (getMethod (.ref a) m pl) Q E s:=by
 obtain⟨mA,O,r,_,_,_⟩:=qf8 I.hok e;have hn:mA m=none:=RelO.none_of (by rw [<- l];exact r m);exact qkr I.kIn O (c.get m) k.at_ k.fn hn h
theorem Inv.made(I:Inv X pins σ H s): Inv X pins σ (upd (upd H s.heap.objs.size (.own (s.heap.objs.size+1))) (s.heap.objs.size+1) (.ins C s.heap.objs.size []))
  {s with heap:=(s.heap.push PySem.W.emptyDict).push (PySem.W.instObj C s.heap.objs.size)}:=by
 have e1:(s.heap.push PySem.W.emptyDict).get? s.heap.objs.size=some PySem.W.emptyDict:=m4 s.heap rfl;have e2:((s.heap.push PySem.W.emptyDict).push (PySem.W.instObj C s.heap.objs.size)).get? (s.heap.objs.size+1)=some (PySem.W.instObj C s.heap.objs.size):=by
  have:=m4 (s.heap.push PySem.W.emptyDict) (o:=PySem.W.instObj C s.heap.objs.size) rfl;rwa [pd] at this
 have e3:(s.heap.push PySem.W.emptyDict).Ns s.heap.objs.size (fun _=>none):=⟨PySem.W.emptyDict, #[],_,e1,rfl,(fun e he=>absurd he (by simp)),fun _=>rfl⟩
 have I1:=I.laid (a:=s.heap.objs.size) (o:=.own (s.heap.objs.size+1)) (h':=s.heap.push PySem.W.emptyDict) (t':=s.toks) (fun b u q=>gf _ q) (gv _) ⟨_,e1⟩;refine I1.laid (a:=s.heap.objs.size+1) (o:=.ins C s.heap.objs.size []) (t':=s.toks) (fun b u q=>gf _ q) (g5o (pd _ _)) ?_;have ne:s.heap.objs.size≠s.heap.objs.size+1:=md (tw _);refine⟨by rw [qk ne,qt],g03 _,ne,e2,fun _=>none,(Heap.Ns1.of_empty e3).at fun o q=>gf _ q,fun _=>True.intro,fun y hy=>absurd rfl hy⟩
end
section
variable{X:Cx}{o e value:Expr}{f:Str}{pos pos' tpos:Pos}{ta tv:TE}
end
section
variable{X:Cx}{pins:List (Addr×Obj)}{σ : St}{H:Hp}{s:Shared}{A:Around}{E:Value->Shared->Prop}{Q:Value->Shared->Prop}{c:Value}{b:Bool}
end
structure Room(k:Nat)(A:Around): Prop where
 hd:A.handled=none
 dp:A.depth+3*k+5<recursionLimit
 un:A.units+16*k+200<cLine
theorem Room.mono{j k:Nat}{A:Around}(r:Room k A)(h:j<=k): Room j A:=⟨r.hd,by have:=r.dp;omega,by have:=r.un;omega⟩
theorem Room.deeper{k:Nat}{A:Around}(r:Room (k+1) A)(env:Env): Room k (A.deeper env):=
 ⟨r.hd,by have:=r.dp;show A.depth+1+3*k+5<_;omega,by have:=r.un;show A.units+3+16*k+200<_;omega⟩
theorem Room.in1{k:Nat}{A:Around}(r:Room (k+1) A): Room k A.in1:=
 ⟨r.hd,by have:=r.dp;show A.depth+3*k+5<_;omega,by have:=r.un;show A.units+1+16*k+200<_;omega⟩
theorem Room.depth{k:Nat}{A:Around}(r:Room k A): A.depth<recursionLimit:=by have:=r.dp;omega
theorem Room.units{k:Nat}{A:Around}(r:Room k A): A.units+64<cLine:=by have:=r.un;omega
def tNil:TA:=fun _ H Q=>Q [] H
def qt7(ta:TE)(tr:TA): TA:=fun σ H Q=>ta σ H fun x H1=>tr σ H1 fun xs H2=>Q (x :: xs) H2
section
variable{X:Cx}{e:Expr}{es:List Expr}{te:TE}{t:TA}{pos:Pos}
theorem q2j:PA X [] tNil:=fun _ _ _ _ H Q I h=>Calls.spliced_nil ⟨[],H,I,.nil,h⟩
theorem q0m(ha:PE X e te)(hr:PA X es t)(hs:starEach (e :: es) X.env=(false,eval e X.env) :: starEach es X.env:=by rfl): PA X (e :: es) (qt7 te t):=by
 intro pos pins s σ H Q I h;rw [hs];show wpAny _ _ (spliced ((false,eval e X.env) :: backTo pos (starEach es X.env))) _ _ s;refine Calls.spliced_cons (thn (ha pins s σ H _ I h) fun u s1 ⟨x,H1,I1,r1,q1⟩=>?_);exact thn (hr pos pins s1 σ H1 _ I1 q1) fun us s2 ⟨xs,H2,I2,r2,q2⟩=>⟨x :: xs,H2,I2,.cons r1 r2,q2⟩
def quf(t:TA): TE:=fun σ H Q=>t σ H fun xs H1=>xs.length<=sizeLine/\∀p,H1 p=none->Q (.ref p) (upd H1 p (.tup xs))
def qug(t:TA): TE:=fun σ H Q=>t σ H fun xs H1=>xs.length<=sizeLine/\∀p,H1 p=none->Q (.ref p) (upd H1 p (.lst xs))
theorem qqz{x1}(h:PA X es t): PE X (.Tuple es x1 pos) (quf t):=by
 intro pins s σ H Q I hq;refine wpAny_Tuple_spliced (thn (h pos pins s σ H _ I hq) fun us s1 ⟨xs,H1,I1,r,z,q⟩=>⟨by rw [<- r.length];exact z,?_⟩);have hf:H1 s1.heap.objs.size=none:=I1.hok.fresh (gv _);refine⟨.ref s1.heap.objs.size,upd H1 s1.heap.objs.size (.tup xs),I1.laid (t':=s1.toks) (fun b u e=>gf _ e) (gv _) ?_,rfl,q _ hf⟩;exact⟨z,us,r,⟨_,m4 _ rfl,rfl,_,rfl⟩⟩
theorem qr0(h:PA X es t): PE X (.List es pos) (qug t):=by
 intro pins s σ H Q I hq;refine wpAny_List_spliced (thn (h pos pins s σ H _ I hq) fun us s1 ⟨xs,H1,I1,r,z,q⟩=>⟨by rw [<- r.length];exact z,?_⟩);have hf:H1 s1.heap.objs.size=none:=I1.hok.fresh (gv _);refine⟨.ref s1.heap.objs.size,upd H1 s1.heap.objs.size (.lst xs),I1.laid (t':=s1.toks) (fun b u e=>gf _ e) (gv _) ?_,rfl,q _ hf⟩;exact⟨z,us,0,r,m4 _ rfl⟩
end
abbrev Sp:=List V->Hp->VK->XK->Prop
abbrev CXT:=List Env->Hp->Shared->XK->Value->Shared->Prop
structure Env0(P:Program)(w:World)(K:PySem.W.Frag)(mg:Str->Option Value)(base:Heap)(A:Around)(outer:List Env)(s:Shared)(H:Hp): Prop where
 frames:A.frames=some outer
 mod:Mod K mg base
 bs:∀b o,base.get? b=some o->s.heap.get? b=some o/\H b=none
 bsz:base.objs.size<=s.heap.objs.size
 funs:s.heap.FunFrames base outer
 frf:∀b∈frs outer,H b=none
 hok:HOk P w H s.heap
 bare:AllBare s.gens
def CE(outer:List Env)(P:Program)(w:World)(H:Hp)(s:Shared)(Q:VK)(u:Value)(s':Shared): Prop:=
 ∃v H',s'.os=s.os/\AllBare s'.gens/\Un (frs outer) [] H H' s.heap s'.heap/\HOk P w H' s'.heap/\RelV v u/\Q v H'
def CR(CX:CXT)(outer:List Env)(P:Program)(w:World)(H:Hp)(s:Shared)(Q:VK)(E:XK)(r:Result)(s':Shared): Prop:=
 match r with
 | .ok (.ret u)=>CE outer P w H s Q u s'
 | .ok _=>False
 | .error e=>CX outer H s E e s'
structure FnOk(P:Program)(w:World)(K:PySem.W.Frag)(mg:Str->Option Value)(base:Heap)(CX:CXT)(k:Nat)(f:Addr)(fd:FuncData)(ps:List Str)(sp:Sp): Prop where
 len:∀vs H Q E,sp vs H Q E->vs.length=ps.length
 run:∀(A:Around) (outer:List Env) (s:Shared) (H:Hp) (args:Args) (us:List Value) (vs:List V) (Q:VK) (E:XK),Room k A->Env0 P w K mg base A outer s H->BindsTo s fd args (ps.zip us)->Vals vs us->sp vs H Q E ->
  codeAny (model P w) A (.call (.ref f) args) (CR CX outer P w H s Q E) s
theorem FnOk.imp{P:Program}{w:World}{K:PySem.W.Frag}{mg:Str->Option Value}{base:Heap}{CX:CXT}{k:Nat}{f:Addr}{fd:FuncData}{ps:List Str}{sp sp':Sp}(F:FnOk P w K mg base CX k f fd ps sp)
  (h:∀vs H Q E,sp' vs H Q E->sp vs H Q E):FnOk P w K mg base CX k f fd ps sp':=
 ⟨fun vs H Q E q=>F.len vs H Q E (h _ _ _ _ q),fun A outer s H args us vs Q E hr he hb hv hs=>F.run A outer s H args us vs Q E hr he hb hv (h _ _ _ _ hs)⟩
section
variable{X:Cx}{pins:List (Addr×Obj)}{σ : St}{H:Hp}{s s':Shared}
theorem Inv.env0(I:Inv X pins σ H s): Env0 X.prog X.w X.K X.mg X.base X.A X.stack s H:=
 ⟨I.ok.frames,I.ok.mod,I.bs,mx I.ok.bsz I.sz,I.stack,I.stkFree,I.hok,I.bare⟩
theorem Inv.after{Q:VK}{u:Value}(I:Inv X pins σ H s)(h:CE X.stack X.prog X.w H s Q u s'): EP X pins σ Q u s':=by
 obtain⟨v,H',os,bare,un,hok,r,q⟩:=h;obtain⟨hh,g,d,t,os'⟩:=s';obtain rfl:os'=s.os:=os;exact⟨v,H',I.call (h':=hh) (g':=g) (d':=d) (t':=t) (ch:=[]) un hok bare (fun b z=>absurd z (by simp)),r,q⟩
end
def qt8(sp:Sp)(dvs:List V)(E:XK)(t:TA): TE:=fun σ H Q=>t σ H fun vs H1=>sp (vs++dvs) H1 Q E
def qt9(C:Addr)(m:Str)(sp:Sp)(dvs:List V)(E:XK)(ta:TE)(t:TA): TE:=fun σ H Q=>ta σ H fun x H1=>∃a dx fs,x=.ref a/\H1 a=some (.ins C dx fs)/\fs.lookup m=none /\
 t σ H1 fun vs H2=>sp (x :: (vs++dvs)) H2 Q E
def Binds(K:PySem.W.Frag)(fd:FuncData)(ps:List Str)(ds:List Value): Prop:=
 ∀(s:Shared) (us:List Value),K.In s.heap->(us++ds).length=ps.length->BindsTo s fd ⟨us,[]⟩ (ps.zip (us++ds))
theorem Binds.all{K:PySem.W.Frag}{fd:FuncData}{ps:List Str}(h:∀us:List Value,us.length=ps.length->bindArgs fd ⟨us,[]⟩=pure (ps.zip us)): Binds K fd ps []:=fun s us _ hl=>by
 rw [g2b] at hl ⊢;exact .of_eq (h us hl)
def q87(CX:CXT)(X:Cx)(E:XK): Prop:=∀(pins:List (Addr×Obj)) (σ : St) (H:Hp) (s:Shared) (e:Value) (s':Shared),Inv X pins σ H s->CX X.stack H s E e s'->X.xe e s'
section
variable{X:Cx}{CX:CXT}{k:Nat}{f C:Addr}{fd:FuncData}{ps:List Str}{sp:Sp}{dvs:List V}{ds:List Value}{E:XK}{x m:Str}{p pos apos:Pos}{e o:Expr}{es:List Expr}{ta:TE}{t:TA}
theorem qi6{pins:List (Addr×Obj)}{σ : St}{H:Hp}{s:Shared}{Q:VK}{us:List Value}{vs:List V}(F:FnOk X.prog X.w X.K X.mg X.base CX k f fd ps sp)(hr:Room k X.A)(hb:Binds X.K fd ps ds)(hd:Vals dvs ds)(hx:q87 CX X E)
  (I:Inv X pins σ H s) (r:Vals vs us) (h:sp (vs++dvs) H Q E):wpAny (model X.prog X.w) X.A (call (.ref f) us) (EP X pins σ Q) X.xe s:=by
 have r2:Vals (vs++dvs) (us++ds):=r.append hd;have hl:(us++ds).length=ps.length:=by rw [<- r2.length];exact F.len _ _ _ _ h
 refine g3c (g2f (F.run X.A X.stack s H ⟨us,[]⟩ (us++ds) (vs++dvs) Q E hr I.env0 (hb s us I.kIn hl) r2 h) fun r s' hq=>?_);cases r with
 | error e=>exact hx pins σ H s e s' I hq
 | ok fl=>
  cases fl with
  | ret u=>exact I.after hq
  | next=>exact False.elim hq
  | brk=>exact False.elim hq
  | cont=>exact False.elim hq
theorem qo4(F:FnOk X.prog X.w X.K X.mg X.base CX k f fd ps sp)(hr:Room k X.A)(hg:Gl X x)(hm:X.mg x=some (.ref f))(hk:PySem.W.keepIn X.K (.ref f)=true)(hb:Binds X.K fd ps ds)(hd:Vals dvs ds)(hx:q87 CX X E)
  (ha:PA X (e :: es) t) (hdb:(x==("__debug__" : Str))=false:=by decide) (he:starEach (e :: es) X.env=(false,eval e X.env) :: starEach es X.env:=by rfl) (hpl:(backTo pos (starEach es X.env)).any (·.1)=false:=by rfl) :
  PE X (.Call (.Name x p) (e :: es) [] pos) (qt8 sp dvs E t):=by
 intro pins s σ H Q I h;refine g1n (qf3 I hg hm ?_ hdb);refine PySem.W.callWith_K (h₀:=X.base) I.ok.mod.kin hk (thn (ha pos pins s σ H _ I h) fun us s1 ⟨vs,H1,I1,r,q⟩=>⟨I1.kIn,?_⟩) he hpl;exact qi6 F hr hb hd hx I1 r q
theorem qo5{pl:Sem Bool}(he:PE X o ta)(c:Cls X.K C)(hm:Meth X.K C m f)(F:FnOk X.prog X.w X.K X.mg X.base CX k f fd ps sp)(hr:Room k X.A)(hb:Binds X.K fd ps ds)(hd:Vals dvs ds)(hx:q87 CX X E)(ha:PA X (e :: es) t)
  (hst:starEach (e :: es) X.env=(false,eval e X.env) :: starEach es X.env:=by rfl) (hpl:(backTo pos (starEach es X.env)).any (·.1)=false:=by rfl)
  (ht:eval (.Call (.Attribute o m apos) (e :: es) [] pos) X.env=(do
   let ov <- eval o X.env
   standAt apos.atName
   let(f,first) <- holding [ov] (getMethod ov m pl)
   callWith pos f first (backTo pos (starEach (e :: es) X.env)) (backToKw pos (keywordEach [] X.env))):=by rfl) :
  PE X (.Call (.Attribute o m apos) (e :: es) [] pos) (qt9 C m sp dvs E ta t):=by
 intro pins s σ H Q I h;refine PySem.W.methodCall_KW (pl:=pl) (thn (he pins s σ H _ I h) fun u s1 ⟨x,H1,I1,rx,a,dx,fs,ex,ea,l,q⟩=>?_) ht;subst ex;obtain rfl:u=Value.ref a:=rx;refine qgc I1 ea c hm l ?_;refine PySem.W.callWith_K (first:=[.ref a]) (h₀:=X.base) I.ok.mod.kin hm.kp (thn (ha pos pins s1 σ H1 _ I1 q) fun us s2 ⟨vs,H2,I2,r,q2⟩=>⟨I2.kIn,?_⟩) hst hpl;exact qi6 (us:=.ref a :: us) (vs:=.ref a :: vs) F hr hb hd hx I2 (.cons rfl r) q2
end
section
variable{X:Cx}{CX:CXT}{k:Nat}{f C:Addr}{fd:FuncData}{ps ks:List Str}{sp:Sp}{E:XK}{x m:Str}{p pos apos kpos:Pos}{e o:Expr}{es:List Expr}{kws:List Keyword}{te ta:TE}{t tk:TA}{nm:Option Str}
variable{g:List Value->List Value->List Value}{gV:List V->List V->List V}
end
structure FnScope(N P:List Str)(sc:Scope): Prop where
 kind:sc.kind=.function
 co:sc.isCoroutine=false
 gen:sc.isGenerator=false
 nd:N.Nodup
 pre:N.take P.length=P
 par:∀x∈P,sc.names.lookup x=some .local\/sc.names.lookup x=some .cell
 nofree:∀y∈sc.names,y.2 ≠ .free
theorem qa9{kindOf:Str->Option NameKind}{x:Str}: ∀ {binds:List (Str×Value)} {m:Str->Option Value},(∀v,(x,v)∉binds)->bindL kindOf binds m x=m x
 | [],_,_=>rfl
 | (n,v) :: r,m,h=>by
  unfold bindL;rw [qa9 fun w hw=>h w (gr _ hw)]
  split
  ·have:x≠n:=by rintro rfl;exact h v gq
   simp [this]
  ·rfl
theorem qaa{kindOf:Str->Option NameKind}{x:Str}: ∀ {binds:List (Str×Value)} {m:Str->Option Value},(∀v,(x,v)∉binds)->bindC kindOf binds m x=m x
 | [],_,_=>rfl
 | (n,v) :: r,m,h=>by
  unfold bindC;rw [qaa fun w hw=>h w (gr _ hw)]
  split
  ·rfl
  ·have:x≠n:=by rintro rfl;exact h v gq
   simp [this]
theorem qab{kindOf:Str->Option NameKind}{x:Str}{v:Value}: ∀ {P:List Str} {vs:List Value} {i:Nat} {m:Str->Option Value},P.Nodup->P[i]? = some x->vs[i]? = some v->kindOf x=some .local ->
  bindL kindOf (P.zip vs) m x=some v
 | [],_,_,_,_,h,_,_=>by simp at h
 | _ :: _,[],_,_,_,_,h,_=>by simp at h
 | p :: P,w :: vs,0,m,nd,h1,h2,hk=>by
  simp at h1 h2;subst h1;subst h2;show bindL kindOf ((p,w) :: P.zip vs) m p=_;unfold bindL;rw [qa9 fun v hv=>(g17.mp nd).1 (g2c hv).1,mq hk];simp
 | p :: P,w :: vs,i+1,m,nd,h1,h2,hk=>by
  show bindL kindOf ((p,w) :: P.zip vs) m x=_;unfold bindL;exact qab (i:=i) (g17.mp nd).2 (by simpa using h1) (by simpa using h2) hk
theorem qac{kindOf:Str->Option NameKind}{x:Str}{v:Value}: ∀ {P:List Str} {vs:List Value} {i:Nat} {m:Str->Option Value},P.Nodup->P[i]? = some x->vs[i]? = some v->kindOf x≠some .local ->
  bindC kindOf (P.zip vs) m x=some v
 | [],_,_,_,_,h,_,_=>by simp at h
 | _ :: _,[],_,_,_,_,h,_=>by simp at h
 | p :: P,w :: vs,0,m,nd,h1,h2,hk=>by
  simp at h1 h2;subst h1;subst h2;show bindC kindOf ((p,w) :: P.zip vs) m p=_;unfold bindC;rw [qaa fun v hv=>(g17.mp nd).1 (g2c hv).1,mj hk];simp
 | p :: P,w :: vs,i+1,m,nd,h1,h2,hk=>by
  show bindC kindOf ((p,w) :: P.zip vs) m x=_;unfold bindC;exact qac (i:=i) (g17.mp nd).2 (by simpa using h1) (by simpa using h2) hk
def start(N:List Str)(vs:List V): St:=vs.map some++List.replicate (N.length-vs.length) none
def zg(CX:CXT)(P:Program)(w:World)(K:PySem.W.Frag)(mg:Str->Option Value)(base:Heap)(N:List Str)(qual:Str)(scope:Scope)(f:Addr)(cd:Value)(A:Around)(outer:List Env)(s:Shared)(H:Hp)(E:XK): Cx where
 prog:=P
 w:=w
 K:=K
 mg:=mg
 base:=base
 A:=A.deeper (envOfC qual scope s.heap.objs.size f cd)
 N:=N
 s₀:=s
 H₀:=H
 env:=envOfC qual scope s.heap.objs.size f cd
 outer:=outer
 stack:=envOfC qual scope s.heap.objs.size f cd :: outer
 ex:=[]
 calm:=true
 fn:=fun _=>true
 pn:=[]
 xe:=fun e s'=>wpAny (model P w) (A.deeper (envOfC qual scope s.heap.objs.size f cd)) (leaving (envOfC qual scope s.heap.objs.size f cd) e) (fun _ s''=>CX outer H s E e s'') (fun e' s''=>CX outer H s E e' s'') s'
theorem qbx{sc:Scope}{n:Nat}{x:Str}(h:sc.names.lookup x=some .cell): ∃c,(cellsFrom n sc.names []).lookup x=some c:=by
 have q:=g32 sc.names n [] (.inl h);exact g0v.mp q
theorem qad{CX:CXT}{P:Program}{w:World}{K:PySem.W.Frag}{mg:Str->Option Value}{base:Heap}{N ps:List Str}{qual:Str}{scope:Scope}{f:Addr}{cd:Value}{A:Around}{outer:List Env}{s s1:Shared}{H:Hp}{E:XK}{us:List Value}{vs:List V}
  (S:FnScope N ps scope) (hd:A.handled=none) (e0:Env0 P w K mg base A outer s H) (hl:vs.length=ps.length) (r:Vals vs us)
  (x:InCallC s s.heap.objs.size (bindL (envOfC qual scope s.heap.objs.size f cd).kindOf (ps.zip us) fun _=>none) (cellsFrom (s.heap.objs.size+1) scope.names []) (bindC (envOfC qual scope s.heap.objs.size f cd).kindOf (ps.zip us) fun _=>none) s1) :
  Inv (zg CX P w K mg base N qual scope f cd A outer s H E) [] (start N vs) H s1:=by
 have hpl:ps.length<=N.length:=by have:=g06 List.length S.pre;rw [tx] at this;omega
 obtain⟨h1,tk,rfl,hk⟩:=x.done;have noA:∀b:Addr,b∉(zg CX P w K mg base N qual scope f cd A outer s H E).ex:=fun b z=>absurd (show b∈([]:List Addr) from z) (by simp);refine⟨⟨e0.mod,S.kind,rfl,rfl,gv _,fun y z c h1 h2=>?_,fun y hy=>?_,fun y c _ h=>?_,fun _=>hd,Around.frames_deeper e0.frames,.inr ⟨rfl,rfl⟩,fun b z=>absurd z (noA b),e0.bs,e0.bsz,fun b _ _=>noA b,fun b z=>absurd z (noA b),e0.funs,e0.frf⟩,
  rfl,e0.bare,Un.kept hk,⟨_,x.toInCall.ns,fun i y v h1 h2 h3=>?_⟩,fun y c h=>⟨_,x.cell y c h⟩,e0.hok.fresh (gv _),fun y c h=>?_,fun p hp=>absurd (show p∈([]:List (Addr×Obj)) from hp) (by simp),e0.hok.kept hk,?_⟩
 ·exact name_of_addr x.apart (g1l h1) (g1l h2)
 ·have hy:scope.names.lookup y=some .cell\/scope.names.lookup y=some .free:=hy
  rcases hy with hy|hy
  ·exact qbx hy
  ·exact absurd rfl (S.nofree _ (g1l hy))
 ·exact g4l (x.above y c (g1l h))
 ·have hi:i<vs.length:=by
   unfold start at h2
   by_cases hi:i<vs.length
   ·exact hi
   ·rw [p6 (by simpa using hi)] at h2
    rw [ui] at h2
    split at h2 <;> cases h2
  have ha:vs[i]? = some v:=by
   unfold start at h2;rw [p9 (by simpa using hi),n9] at h2;cases e:vs[i]? with
   | none=>rw [e] at h2;cases h2
   | some a=>rw [e] at h2;cases h2;rfl
  obtain⟨u,hu,rv⟩:=r.get ha;have hp:ps[i]? = some y:=by
   rw [<- S.pre,g4n (by omega)];exact h1
  have ndP:ps.Nodup:=by rw [<- S.pre];exact S.nd.sublist (List.take_sublist _ _)
  refine⟨u,rv,?_⟩;rcases S.par y (g0b hp) with k|k
  ·exact .inl ⟨k,qab ndP hp hu k⟩
  ·obtain⟨c,e⟩:=qbx (n:=s.heap.objs.size+1) k
   refine .inr ⟨.inl k,c,e,?_⟩;have q:=x.cell y c e;rw [qac ndP hp hu (by show scope.names.lookup y≠_;rw [k];decide)] at q;exact q
 ·exact e0.hok.fresh (g4l (x.above y c (g1l h)))
 ·unfold start
  show _=N.length;rw [nj,mv,g39];omega
theorem qta{CX:CXT}{P:Program}{w:World}{K:PySem.W.Frag}{mg:Str->Option Value}{base:Heap}{k:Nat}{f:Addr}{name qual:Str}{params:Arguments}{body:List Stmt}{scope:Scope}{dV kV doc pm cdv ct oc:Value}{an od:Option Addr}
  {osl:Array (Option Value)} {N ps:List Str} {sp:Sp} (lk:K.lookup f=some ⟨oc,od,.func (PySem.W.fnOf name qual params body scope dV kV doc pm an cdv ct),osl⟩) (hcd:PySem.W.codeIn K cdv qual=true) (S:FnScope N ps scope)
  (len:∀vs H Q E,sp vs H Q E->vs.length=ps.length)
  (hbody:∀(A:Around) (outer:List Env) (s:Shared) (H:Hp) (vs:List V) (Q:VK) (E:XK),Room k (A.deeper (envOfC qual scope s.heap.objs.size f cdv))->sp vs H Q E ->
   ∃t,PSs (zg CX P w K mg base N qual scope f cdv A outer s H E) body t/\t {nx:=fun _ H'=>Q .non H',rt:=Q} (start N vs) H) :
  FnOk P w K mg base CX (k+1) f (PySem.W.fnOf name qual params body scope dV kV doc pm an cdv ct) ps sp:=by
 refine⟨len,fun A outer s H args us vs Q E hr e0 hb r hsp=>?_⟩;have hl:=len _ _ _ _ hsp;have KX:K.In s.heap:=e0.mod.kin.keeps fun b o e=>(e0.bs b o e).1;have lim:s.heap.NoLimit:=e0.mod.nolimit.keeps fun b o e=>(e0.bs b o e).1;have hkind:∀y∈ps.zip us,scope.names.lookup y.1=some .local\/(scope.names.lookup y.1=some .cell/\((cellsFrom (s.heap.objs.size+1) scope.names []).lookup y.1).isSome=true):=fun⟨n,v⟩ hy=>by
  rcases S.par n (g2c hy).1 with q|q
  ·exact .inl q
  ·exact .inr ⟨q,g32 _ _ _ (.inl q)⟩
 refine codeAny_call_function hr.depth (KX _ _ lk) rfl S.co S.gen rfl (PySem.W.codeRec_of KX hcd) (hb _ _ _ _ ?_);refine wpAny_newFunctionEnv_cells S.kind hkind fun env he s1 x=>?_;subst he;refine⟨lim.keeps x.toInCall.keep,codeAny_func ?_⟩;obtain⟨t,ht,hq⟩:=hbody A outer s H vs Q E (hr.deeper _) hsp;have I:Inv (zg CX P w K mg base N qual scope f cdv A outer s H E) [] (start N vs) H s1:=qad S hr.hd e0 hl r x;refine tf (ht [] s1 (start N vs) H _ I hq) (fun fl s' hs=>?_) fun e s' hs=>hs;have fin:∀ {σ':St} {H':Hp} {v:V} {u:Value},Inv (zg CX P w K mg base N qual scope f cdv A outer s H E) [] σ' H' s'->RelV v u->Q v H'->CE outer P w H s Q u s':=
  fun {σ' H' v u} J rv q=>⟨v,H',J.os,J.bare,J.base,J.hok,rv,q⟩
 cases fl with
 | ret u=>
  obtain⟨v, σ',H',J,rv,q⟩:=hs;exact fin J rv q
 | next=>
  obtain⟨σ',H',J,q⟩:=hs;exact fin (v:=V.non) (u:=Value.none) J rfl q
 | brk=>
  obtain⟨_,_,_,q⟩:=hs;exact False.elim q
 | cont=>
  obtain⟨_,_,_,q⟩:=hs;exact False.elim q
section
variable{X:Cx}{x:Str}{p pos:Pos}{e:Expr}{es:List Expr}{t:TA}{id T:String}{r:List V->Hp->VK->Prop}
def tCB(r:List V->Hp->VK->Prop)(t:TA): TE:=fun σ H Q=>t σ H fun vs H1=>r vs H1 Q
theorem q7d(hc:j6 X (.builtin id) r)(hg:Gl X x)(hm:X.mg x=none)(hv:bootBuiltins x=some (.builtin id))(ha:PA X (e :: es) t)(hn:x≠"__name__" :=by decide)(hdb:(x==("__debug__" : Str))=false:=by decide)
  (he:starEach (e :: es) X.env=(false,eval e X.env) :: starEach es X.env:=by rfl) (hpl:(backTo pos (starEach es X.env)).any (·.1)=false:=by rfl):PE X (.Call (.Name x p) (e :: es) [] pos) (tCB r t):=by
 intro pins s σ H Q I h;refine g1n (q1i I hg hm hv ?_ hn hdb);exact PyProof.Rows.callWith_builtin1 (thn (ha pos pins s σ H _ I h) fun us s1 ⟨vs,H1,I1,r1,q1⟩=>hc pins s1 σ H1 vs us Q I1 r1 q1) he hpl
theorem q38(hc:j6 X (.type T) r)(hg:Gl X x)(hm:X.mg x=none)(hv:bootBuiltins x=some (.type T))(ha:PA X (e :: es) t)(hn:x≠"__name__" :=by decide)(hdb:(x==("__debug__" : Str))=false:=by decide)
  (he:starEach (e :: es) X.env=(false,eval e X.env) :: starEach es X.env:=by rfl) (hpl:(backTo pos (starEach es X.env)).any (·.1)=false:=by rfl):PE X (.Call (.Name x p) (e :: es) [] pos) (tCB r t):=by
 intro pins s σ H Q I h;refine g1n (q1i I hg hm hv ?_ hn hdb);exact g0p (thn (ha pos pins s σ H _ I h) fun us s1 ⟨vs,H1,I1,r1,q1⟩=>hc pins s1 σ H1 vs us Q I1 r1 q1) he hpl
end
end L2
namespace HT
open PySem PyProof.Rows
section
open PySem.SeqAt
open PySem.AutoSeq1 (wpAny_loadPart')
open PySem.MeetsSeq PySem.MeetsSeq2 PySem.MeetsSeq3
end
section
variable{prog:Program}{w:World}{A:Around}{E:Value->Shared->Prop}{s:Shared}
theorem cat_tup{t b:Addr}{vs ws:List Value}{Q:Value->Shared->Prop}(ht:IsTup s.heap t vs.toArray)(hb:IsTup s.heap b ws.toArray)(hv:vs≠[])
  (h1:ws=[]->Q (.ref t) s) (h2:ws≠[]->Q (.ref s.heap.objs.size) {s with heap:=s.heap.push {cls:=.type "tuple",data:=.seq (vs++ws).toArray} })
  (hsz:vs.length+ws.length<=sizeLine):wpAny (model prog w) A (binaryOp .Add (.ref t) (.ref b)) Q E s:=by
 obtain⟨⟨cls,dd,data,sl⟩,ho,hc,n,hd⟩:=id ht;obtain⟨⟨cls2,dd2,data2,sl2⟩,ho2,hc2,n2,hd2⟩:=id hb;simp only at hc hd hc2 hd2;subst hc hd hc2 hd2;have e:vs.toArray++ws.toArray=(vs++ws).toArray:=by simp
 by_cases hw:ws=[]
 ·exact g4o ⟨_,ho,rfl⟩ ⟨_,ho2,rfl⟩ g4p seq_tuple_add g33 g2u (g2g _ _)
   (tuple_addW1 t b vs.toArray ws.toArray n n2 dd dd2 sl sl2 (by simpa using hv) (by simp [hw])) ⟨ho,ho2,h1 hw⟩
 ·refine g4o ⟨_,ho,rfl⟩ ⟨_,ho2,rfl⟩ g4p seq_tuple_add g33 g2u (g2g _ _)
   (tuple_addW2 t b vs.toArray ws.toArray n n2 dd dd2 sl sl2 (by simpa using hv) (by simpa using hw) (by rw [gj,gj];exact hsz)) ⟨ho,ho2,?_⟩
  rw [e];exact h2 hw
def sIx(n d:Nat): Option Int->Nat
 | none=>d
 | some v=>if v<0 then(v+(n:Int)).toNat else min v.toNat n
theorem sIx_none(n d:Nat): sIx n d none=d:=rfl
theorem sIx_nat(n d k:Nat): sIx n d (some (k:Int))=min k n:=by
 show(if(k:Int)<0 then((k:Int)+(n:Int)).toNat else min (k:Int).toNat n)=min k n;rw [mj (by omega),g0n]
theorem qr1(n d:Nat)(hd:d<=n)(o:Option Int): sIx n d o<=n:=by
 cases o with
 | none=>exact hd
 | some v=>
  show(if v<0 then(v+(n:Int)).toNat else min v.toNat n)<=n
  by_cases hv:v<0
  ·rw [mq hv];omega
  ·rw [mj hv];exact Nat.min_le_right _ _
theorem qf9(v:Int)(n d:Nat): (if v<0 then max (v+(n:Int)) 0 else min v (n:Int))=((sIx n d (some v):Nat):Int):=by
 show(if v<0 then max (v+(n:Int)) 0 else min v (n:Int))=(((if v<0 then(v+(n:Int)).toNat else min v.toNat n):Nat):Int)
 by_cases hv:v<0
 ·simp only [mq hv];omega
 ·simp only [mj hv];omega
theorem qgd(lo hi:Option Int)(n:Nat): Builtin.Slice.sliceAdjust lo hi 1 (n:Int)=(((sIx n 0 lo:Nat):Int),((sIx n n hi:Nat):Int)):=by
 have h1:¬((1:Int)<0):=by omega
 unfold Builtin.Slice.sliceAdjust;simp only [h1,p8];refine Prod.ext ?_ ?_
 ·cases lo with
  | none=>rfl
  | some v=>exact qf9 v n 0
 ·cases hi with
  | none=>rfl
  | some v=>exact qf9 v n n
theorem qge(i j:Nat): Builtin.Slice.slicePlaces (i:Int) (j:Int) 1=j-i:=by
 unfold Builtin.Slice.slicePlaces;have h1:(1:Int)>0:=by omega
 simp only [h1,ny,Int.ediv_one]
 split <;> omega
theorem q88{v:Value}{o:Option Int}{Q:Option Int->Shared->Prop}(p:IsPart v o)(h:Q o s): wpAny (model prog w) A (Builtin.Slice.slicePartIndex v) Q E s:=by
 cases p with
 | none=>exact slicePart_none h
 | int i t=>exact slicePart_int h
theorem sliceApplied_gen{sl:Addr}{vl vu:Value}{lo hi:Option Int}{n:Nat}{Q:Int×Int×Nat->Shared->Prop}(hs:s.heap.IsSliceOf sl vl vu .none)(pl:IsPart vl lo)(pu:IsPart vu hi)
  (h:Q (((sIx n 0 lo:Nat):Int),1,sIx n n hi-sIx n 0 lo) s):wpAny (model prog w) A (Builtin.Slice.sliceApplied (.ref sl) (pure (n:Int))) Q E s:=by
 obtain⟨os,hos,hcs,hds⟩:=id hs;unfold Builtin.Slice.sliceApplied Builtin.Slice.sliceFields;refine g9 (g9 (td hos hds (x:=vl) rfl (g9 (td hos hds (x:=vu) rfl (g9 (td hos hds (x:=.none) rfl (gc ?_)))))));refine g9 (slicePart_none ?_);show wpAny _ _ (if((1:Int)==0)=true then _ else _) _ _ s;rw [mj (by decide)];refine g9 (q88 pl (g9 (q88 pu (g9 (gc ?_)))));show wpAny _ _ (match Builtin.Slice.sliceAdjust lo hi 1 (n:Int) with|(lo,hi)=>pure (lo,(1:Int),Builtin.Slice.slicePlaces lo hi 1)) _ _ s;rw [qgd lo hi n];show wpAny _ _ (pure (((sIx n 0 lo:Nat):Int),(1:Int),Builtin.Slice.slicePlaces ((sIx n 0 lo:Nat):Int) ((sIx n n hi:Nat):Int) 1)) _ _ s;rw [qge];exact gc h
theorem qks(xs:Array Value)(i k:Nat): ((List.range k).filterMap fun(m:Nat)=>xs[((i:Int)+(m:Int)*1).toNat]?).toArray=((xs.toList.drop i).take k).toArray:=by
 have e:(fun(m:Nat)=>xs[((i:Int)+(m:Int)*1).toNat]?)=fun m=>xs[i+m]? :=by
  funext m
  have:((i:Int)+(m:Int)*1).toNat=i+m:=by omega
  rw [this]
 rw [e];have:=pick_run xs i k;rw [g2h] at this;have e2:((fun x=>xs[x]?) ∘ fun x=>i+x)=fun m=>xs[i+m]? :=rfl;rw [e2] at this;rw [this]
theorem getItem_tuple_cut{t sl:Addr}{items:Array Value}{vl vu:Value}{lo hi:Option Int}{Q:Value->Shared->Prop}(ht:IsTup s.heap t items)(hs:s.heap.IsSliceOf sl vl vu .none)(pl:IsPart vl lo)(pu:IsPart vu hi)
  (hw:¬(sIx items.size 0 lo=0/\sIx items.size items.size hi=items.size))
  (h:Q (.ref s.heap.objs.size) {s with heap:=s.heap.push {cls:=.type "tuple",data:=.seq ((items.toList.drop (sIx items.size 0 lo)).take (sIx items.size items.size hi-sIx items.size 0 lo)).toArray} })
  (hsz:items.size<=sizeLine):wpAny (model prog w) A (getItem (.ref t) (.ref sl)) Q E s:=by
 have htake:sizeOk (.seq ((items.toList.drop (sIx items.size 0 lo)).take (sIx items.size items.size hi-sIx items.size 0 lo)).toArray):=by
  show((items.toList.drop (sIx items.size 0 lo)).take (sIx items.size items.size hi-sIx items.size 0 lo)).toArray.size<=sizeLine;rw [gj,tx,g0c,p7];omega
 have hj:sIx items.size items.size hi<=items.size:=qr1 _ _ (gv _) hi;obtain⟨os,hos,hcs,hds⟩:=id hs;have hTs:s.TypeIs (.ref sl) "slice" :=⟨os,hos,hcs⟩
 unfold getItem
 try with_reducible refine ug ?_
 first|refine g9 (gc ?_)|skip
 refine g9 (wpAny_sequenceKey ht.typeIs (by decide) ?_);refine g9 (tq (name:=Str.ofString "__getitem__") ht.typeIs uz
  (pz uz ht.typeIs entry_tuple_getitem ?_ (args_tuple_getitem _ _)))
 show wpAny _ _ (Builtin.Tuple.tupleItemsOf (.ref t) >>= _) _ _ s;refine g9 (tupleItemsOf_ ht ?_);refine g9 (g1x hTs ?_);rw [mq (by decide)];refine g9 (sliceApplied_gen hs pl pu ?_);have hno:¬((((sIx items.size 0 lo:Nat):Int)==0&&(1:Int)==1&&(sIx items.size items.size hi-sIx items.size 0 lo)==items.size)=true):=by
  intro q;rw [mi,mi] at q;have q1:((sIx items.size 0 lo:Nat):Int)=0:=eq_of_beq q.1.1;have q2:sIx items.size items.size hi-sIx items.size 0 lo=items.size:=eq_of_beq q.2;exact hw ⟨by omega,by omega⟩
 show wpAny _ _ (if(((sIx items.size 0 lo:Nat):Int)==0&&(1:Int)==1&&(sIx items.size items.size hi-sIx items.size 0 lo)==items.size)=true then _ else _) _ _ s;rw [mj hno,qks]
 first
  | exact g9 (m:=Builtin.Tuple.tupleExact _) (uj (gc ⟨_,rfl,gc h⟩) htake)
  | exact g9 (m:=Builtin.Tuple.tupleExact _) (uj (g9 (gc (gc ⟨_,rfl,gc h⟩))) htake)
  | exact g9 (g9 (m:=Builtin.Tuple.tupleExact _) (uj (gc (gc ⟨_,rfl,gc h⟩)) htake))
  | exact g9 (g9 (m:=Builtin.Tuple.tupleExact _) (uj (gc ⟨_,rfl,gc h⟩) htake))
end
end HT
namespace L2
open PySem PySem.Spec PyProof.Rows
abbrev TO:=St->Hp->(Option Int->Hp->Prop)->Prop
def PO(X:Cx)(e:Option Expr)(t:TO): Prop:=
 ∀(pins:List (Addr×Obj)) (s:Shared) (σ : St) (H:Hp) (Q:Option Int->Hp->Prop),Inv X pins σ H s->t σ H Q ->
  wpAny (model X.prog X.w) X.A (evalPart e X.env) (fun u s'=>∃o H',Inv X pins σ H' s'/\IsPart u o/\Q o H') X.xe s
def tNoPart:TO:=fun _ H Q=>Q none H
def qtb(t:TE): TO:=fun σ H Q=>t σ H fun x H1=>∃i,x=.int i/\Q (some i) H1
theorem intsAre_of{ns:List Int}: ∀ {us:List Value},Vals (ns.map V.int) us->IntsAre us ns:=by
 induction ns with
 | nil=>intro us r;rw [g0i] at r;cases r;exact .nil
 | cons n ns ih=>
  intro us r;rw [gu] at r;cases r with
  | cons r1 r2=>
   obtain⟨t,e⟩:=r1;subst e;exact .cons n t (ih r2)
section
variable{X:Cx}{e:Expr}{te:TE}{lo hi:Option Expr}{tl th:TO}{pos p2:Pos}
theorem qo6:PO X none tNoPart:=by
 intro pins s σ H Q I h;rw [evalPart_none];exact gc ⟨none,H,I,.none,h⟩
theorem qo7(h:PE X e te): PO X (some e) (qtb te):=by
 intro pins s σ H Q I hw;rw [evalPart_some];refine thn (h pins s σ H _ I hw) fun u s1 ⟨x,H1,I1,r1,q1⟩=>?_;obtain⟨i,rfl,q⟩:=q1;obtain⟨t,rfl⟩:=r1;exact⟨some i,H1,I1,.int i t,q⟩
def SlR(X:Cx)(r:V->Option Int->Option Int->Hp->VK->Prop): Prop:=
 ∀(pins:List (Addr×Obj)) (s:Shared) (σ : St) (H:Hp) (x:V) (v vl vu:Value) (lo hi:Option Int) (sl:Addr) (Q:VK),Inv X pins σ H s->RelV x v->s.heap.IsSliceOf sl vl vu .none->IsPart vl lo->IsPart vu hi->r x lo hi H Q ->
  ∃T id,typeLookup (.type T) "__getitem__" = pure (some (.builtin id))/\s.TypeIs v T/\wpAny (model X.prog X.w) X.A (getItem v (.ref sl)) (EP X pins σ Q) X.xe s
theorem SlR.or{r r':V->Option Int->Option Int->Hp->VK->Prop}(h:SlR X r)(h':SlR X r'): SlR X (fun x lo hi H Q=>r x lo hi H Q\/r' x lo hi H Q):=by
 intro pins s σ H x v vl vu lo hi sl Q I rx hs pl pu q;rcases q with q|q
 ·exact h pins s σ H x v vl vu lo hi sl Q I rx hs pl pu q
 ·exact h' pins s σ H x v vl vu lo hi sl Q I rx hs pl pu q
def tSl(r:V->Option Int->Option Int->Hp->VK->Prop)(te:TE)(tl th:TO): TE:=fun σ H Q=>te σ H fun x H1=>tl σ H1 fun l H2=>th σ H2 fun u H3=>r x l u H3 Q
theorem qkt{r:V->Option Int->Option Int->Hp->VK->Prop}(hr:SlR X r)(he:PE X e te)(hl:PO X lo tl)(hu:PO X hi th): PE X (.Subscript e (.Slice lo hi none p2) pos) (tSl r te tl th):=by
 intro pins s σ H Q I h;refine Subscript_ (thn (he pins s σ H _ I h) fun v s1 ⟨x,H1,I1,r1,q1⟩=>?_);refine wpAny_Slice (thn (hl pins s1 σ H1 _ I1 q1) fun vl s2 ⟨l,H2,I2,pl,q2⟩=>thn (hu pins s2 σ H2 _ I2 q2) fun vu s3 ⟨u,H3,I3,pu,q3⟩=>?_);rw [evalPart_none];refine gc ?_;have I4:Inv X pins σ H3 {s3 with heap:=s3.heap.push {cls:=.type "slice",data:=.fields #[vl,vu,.none]} }:=I3.kept (t':=s3.toks) fun b ob q=>gf _ q;obtain⟨T,id,hT,ht,hg⟩:=hr pins {s3 with heap:=s3.heap.push {cls:=.type "slice",data:=.fields #[vl,vu,.none]} } σ H3 x v vl vu l u s3.heap.objs.size Q I4 r1 (Heap.IsSliceOf.new ..) pl pu q3;show wpAny (model X.prog X.w) X.A (subscriptTail e (.Slice lo hi none p2) v (.ref s3.heap.objs.size)) (EP X pins σ Q) X.xe {s3 with heap:=s3.heap.push {cls:=.type "slice",data:=.fields #[vl,vu,.none]} };exact tail_any (ops:=[.ref s3.heap.objs.size,v]) ht hT hg (by with_unfolding_all rfl)
def q1z(xs:List V)(lo hi:Option Int): List V:=(xs.drop (HT.sIx xs.length 0 lo)).take (HT.sIx xs.length xs.length hi-HT.sIx xs.length 0 lo)
theorem q70(xs:List V)(lo hi:Option Int): (q1z xs lo hi).length<=xs.length:=by
 unfold q1z;rw [tx,g0c];omega
def quh(K:PySem.W.Frag): V->Option Int->Option Int->Hp->VK->Prop:=fun x lo hi H Q=>∃a xs,x=.ref a/\SqT K H a xs /\
 ¬(HT.sIx xs.length 0 lo=0/\HT.sIx xs.length xs.length hi=xs.length)/\∀p,H p=none->Q (.ref p) (upd H p (.tup (q1z xs lo hi)))
theorem sl_tup:SlR X (quh X.K):=by
 intro pins s σ H x v vl vu lo hi sl Q I rx hs pl pu h;obtain⟨a,xs,rfl,hx,hw,q⟩:=h;cases rx;obtain⟨its,r,ht,hz⟩:=I.tuple hx;have hlen:its.toArray.size=xs.length:=by rw [gj];exact r.length.symm
 refine⟨"tuple",_,uz.lookup,ht.typeIs,?_⟩;refine HT.getItem_tuple_cut ht hs pl pu (by rw [hlen];exact hw) ?_ (by rw [hlen];exact hz);rw [hlen];refine⟨.ref s.heap.objs.size,_,I.laid (t':=s.toks) (o:=.tup (q1z xs lo hi)) (fun b ob q=>gf _ q) (gv _) ?_,rfl,q _ (I.hok.fresh (gv _))⟩;exact⟨mx (q70 xs lo hi) hz,_,(r.drop (HT.sIx xs.length 0 lo)).take (HT.sIx xs.length xs.length hi-HT.sIx xs.length 0 lo),IsTup.new _ _⟩
def qtc(K:PySem.W.Frag): R2:=fun x y H Q=>∃a b xs ys,x=.ref a/\y=.ref b/\SqT K H a xs/\SqT K H b ys/\xs≠[]/\xs.length+ys.length<=sizeLine /\
 (ys=[]->Q (.ref a) H)/\(ys≠[]->∀p,H p=none->Q (.ref p) (upd H p (.tup (xs++ys))))
theorem Vals.nil_iff{xs:List V}{us:List Value}(r:Vals xs us): us=[]↔xs=[]:=by
 cases r with
 | nil=>simp
 | cons _ _=>simp
theorem qo8:OpR X (binaryOp .Add) (qtc X.K):=by
 intro pins s σ H x y v u Q I rx ry h;obtain⟨a,b,xs,ys,rfl,rfl,ha,hb,hx,hz,q1,q2⟩:=h;cases rx;cases ry;obtain⟨its,r1,p1,_⟩:=I.tuple ha;obtain⟨its2,r2,p2,_⟩:=I.tuple hb;refine HT.cat_tup p1 p2 (fun z=>hx (r1.nil_iff.mp z)) (fun z=>⟨.ref a,H,I,rfl,q1 (r2.nil_iff.mp z)⟩) (fun z=>?_) (by rw [<- r1.length, <- r2.length];exact hz);refine⟨.ref s.heap.objs.size,_,I.laid (t':=s.toks) (o:=.tup (xs++ys)) (fun b ob q=>gf _ q) (gv _) ?_,rfl,q2 (fun w=>z (r2.nil_iff.mpr w)) _ (I.hok.fresh (gv _))⟩;exact⟨by rw [nj];exact hz,_,r1.append r2,IsTup.new _ _⟩
end
def ixN(n:Nat)(i:Int): Option Nat:=if 0<=i then(if i<n then some i.toNat else none) else if -(n:Int)<=i then some (i+n).toNat else none
def atI{α : Type}(xs:List α)(i:Int): Option α :=(ixN xs.length i).bind fun j=>xs[j]?
theorem qo9{n:Nat}{i:Int}{j:Nat}(h:ixN n i=some j): seqIndex? i n=some j/\j<n /\ -(n:Int)<=i/\i<n:=by
 unfold ixN at h
 by_cases h0:0<=i
 ·rw [mq h0] at h
  by_cases h1:i<n
  ·rw [mq h1] at h
   have e:i.toNat=j:=mh h;exact⟨by rw [seqIndex_of h0 h1,e],by omega,by omega,h1⟩
  ·rw [mj h1] at h;cases h
 ·rw [mj h0] at h
  by_cases h1 : -(n:Int)<=i
  ·rw [mq h1] at h
   have e:(i+n).toNat=j:=mh h;exact⟨by rw [seqIndex_neg (by omega) h1,e],by omega,h1,by omega⟩
  ·rw [mj h1] at h;cases h
theorem q9g{α : Type}{xs:List α}{i:Int}{v : α}(h:atI xs i=some v): ∃j,seqIndex? i xs.length=some j/\xs[j]? = some v/\j<xs.length /\ -(xs.length:Int)<=i/\i<xs.length:=by
 unfold atI at h;cases e:ixN xs.length i with
 | none=>rw [e] at h;cases h
 | some j=>
  rw [e] at h;obtain⟨h1,h2,h3,h4⟩:=qo9 e;exact⟨j,h1,h,h2,h3,h4⟩
def qfa(b:Expr): Prop:=∀o i,subscripted b false o i=operate [o,i] (getItem o i)
def IxR(X:Cx)(r:R2): Prop:=
 ∀(value slice:Expr) (pins:List (Addr×Obj)) (s:Shared) (σ : St) (H:Hp) (x y:V) (v u:Value) (Q:VK),Inv X pins σ H s->RelV x v->RelV y u->r x y H Q ->
  subscripted slice false v u=operate [v,u] (getItem v u)->wpAny (model X.prog X.w) X.A (subscriptTail value slice v u) (EP X pins σ Q) X.xe s
def MtR(X:Cx)(id:String)(r:V->List V->Hp->VK->Prop): Prop:=
 ∀(pins:List (Addr×Obj)) (s:Shared) (σ : St) (H:Hp) (x:V) (xs:List V) (v:Value) (us:List Value) (Q:VK),Inv X pins σ H s->RelV x v->Vals xs us->r x xs H Q ->
  wpAny (model X.prog X.w) X.A (call (.builtin id) (v :: us)) (EP X pins σ Q) X.xe s
section
variable{X:Cx}{a b:Expr}{ta tb:TE}{pos:Pos}
theorem IxR.or{r r':R2}(h:IxR X r)(h':IxR X r'): IxR X (fun x y H Q=>r x y H Q\/r' x y H Q):=by
 intro value slice pins s σ H x y v u Q I rx ry q hs;rcases q with q|q
 ·exact h value slice pins s σ H x y v u Q I rx ry q hs
 ·exact h' value slice pins s σ H x y v u Q I rx ry q hs
theorem qtd{r:R2}(hr:IxR X r)(ha:PE X a ta)(hb:PE X b tb)(hs:qfa b): PE X (.Subscript a b pos) (tOp r ta tb):=by
 intro pins s σ H Q I h;exact Subscript_ (qkl ha hb I h fun v u s2 x y H2 I2 rx ry q=>hr a b pins s2 σ H2 x y v u Q I2 rx ry q (hs _ _))
def qr2(K:PySem.W.Frag): R2:=fun x y H Q=>∃p xs i v,x=.ref p/\y=.int i/\SqL K H p xs/\atI xs i=some v/\Q v H
def qr3(K:PySem.W.Frag): R2:=fun x y H Q=>∃p xs i v,x=.ref p/\y=.int i/\SqT K H p xs/\atI xs i=some v/\Q v H
def rIxS:R2:=fun x y H Q=>∃z i c,x=.str z/\y=.int i/\z.length<=sizeLine/\atI z.cps.toList i=some c/\Q (.str ⟨#[c]⟩) H
theorem ix_list:IxR X (qr2 X.K):=by
 intro value slice pins s σ H x y v u Q I rx ry h hs;obtain⟨p,xs,i,z,rfl,rfl,hq,he,q⟩:=h;cases rx;obtain⟨t,rfl⟩:=ry;obtain⟨its,r,pl,hz⟩:=I.list hq;obtain⟨j,h1,h2,h3,h4,h5⟩:=q9g he;obtain⟨w,ew,rw'⟩:=r.get h2;have hl:=r.length;have hn:=q5c;have fin:EP X pins σ Q w s:=⟨z,H,I,rw',q⟩
 by_cases h0:0<=i
 ·have hj:i.toNat=j:=by
   rw [seqIndex_of h0 h5] at h1;exact mh h1
  exact item_listR pl.isList h0 (by omega) (by rw [hj];simpa using ew) fin hs
 ·have hj:(i+(its.toArray.size:Int)).toNat=j:=by
   rw [seqIndex_neg (by omega) h4] at h1;rw [gj, <- hl];exact mh h1
  exact subscriptTail_builtinR (x:=w) pl.isList.typeIs slot_list_getitem.lookup
   (wpAny_getItem_list_neg (Q:=fun r s'=>r=w/\EP X pins σ Q r s') pl.isList (by omega) (by rw [gj] <;> omega) (by omega) (by rw [hj];simpa using ew) ⟨rfl,fin⟩) hs
theorem ix_tup:IxR X (qr3 X.K):=by
 intro value slice pins s σ H x y v u Q I rx ry h hs;obtain⟨p,xs,i,z,rfl,rfl,hq,he,q⟩:=h;cases rx;obtain⟨t,rfl⟩:=ry;obtain⟨its,r,pl,hz⟩:=I.tuple hq;obtain⟨j,h1,h2,h3,h4,h5⟩:=q9g he;obtain⟨w,ew,rw'⟩:=r.get h2;have hl:=r.length;have hn:=q5c;have fin:EP X pins σ Q w s:=⟨z,H,I,rw',q⟩
 exact subscriptTail_builtinR (x:=w) pl.typeIs slot_tuple_getitem.lookup
  (getItem_tuple (j:=j) (Q:=fun r s'=>r=w/\EP X pins σ Q r s') pl (by omega) (by omega) (by rw [gj, <- hl];exact h1) (by simpa using ew) ⟨rfl,fin⟩) hs
theorem qr4:IxR X rIxS:=by
 intro value slice pins s σ H x y v u Q I rx ry h hs;obtain⟨z,i,c,rfl,rfl,hz,he,q⟩:=h;obtain⟨t,rfl⟩:=rx;obtain⟨t',rfl⟩:=ry;obtain⟨j,h1,h2,h3,h4,h5⟩:=q9g he;have hl:z.cps.toList.length=z.length:=by simp [Str.length]
 rw [hl] at h1 h4 h5;have hn:=q5c;exact tail_any (typeIs_str s z t) slot_str_getitem.lookup (getItem_str (c:=c) (by
  have e1:decide (i < -(2 ^ 63:Int))=false:=pq (by omega);have e2:decide (i>=2 ^ 63)=false:=pq (by omega);rw [e1,e2,g5m]) (by rw [h1];simpa using h2) ⟨.str ⟨#[c]⟩,H,I.tok _,⟨_,rfl⟩,q⟩) hs
def rIx(K:PySem.W.Frag): R2:=fun x y H Q=>qr2 K x y H Q\/qr3 K x y H Q\/rIxS x y H Q
theorem qr5:IxR X (rIx X.K):=ix_list.or (ix_tup.or qr4)
theorem qby(lo hi:Option Int)(n:Nat): (sliceBounds lo hi none n).1=((HT.sIx n 0 lo:Nat):Int)/\(sliceBounds lo hi none n).2.1=((HT.sIx n n hi:Nat):Int)/\(sliceBounds lo hi none n).2.2=1:=by
 refine⟨?_,?_,rfl⟩
 ·cases lo with
  | none=>simp [sliceBounds,HT.sIx]
  | some i=>
   simp only [sliceBounds,HT.sIx,Option.getD_none,show(1:Int)>0 by decide,ny]
   by_cases h:i<0
   ·simp only [h,ny] <;> omega
   ·simp only [h,p8] <;> omega
 ·cases hi with
  | none=>simp [sliceBounds,HT.sIx]
  | some i=>
   simp only [sliceBounds,HT.sIx,Option.getD_none,show(1:Int)>0 by decide,ny]
   by_cases h:i<0
   ·simp only [h,ny] <;> omega
   ·simp only [h,p8] <;> omega
theorem qb7(its:List Value)(lo hi:Option Int): slicePick its.toArray lo hi none=((its.drop (HT.sIx its.length 0 lo)).take (HT.sIx its.length its.length hi-HT.sIx its.length 0 lo)).toArray:=by
 obtain⟨h1,h2,h3⟩:=qby lo hi its.toArray.size;unfold slicePick;rw [h1,h2,h3];simp only [sliceRange_one,pick_run,gj] <;> rfl
def qui(K:PySem.W.Frag): V->Option Int->Option Int->Hp->VK->Prop:=fun x lo hi H Q=>∃a xs,x=.ref a/\SqL K H a xs/\∀p,H p=none->Q (.ref p) (upd H p (.lst (q1z xs lo hi)))
theorem sl_list:SlR X (qui X.K):=by
 intro pins s σ H x v vl vu lo hi sl Q I rx hs pl pu h;obtain⟨a,xs,rfl,hx,q⟩:=h;cases rx;obtain⟨its,r,ht,hz⟩:=I.list hx;have hlen:=r.length;refine⟨"list",_,slot_list_getitem.lookup,ht.isList.typeIs,?_⟩;refine wpAny_getItem_list_slice ht.isList hs pl pu .none (by simp) ?_ (by rw [gj] <;> omega);rw [qb7, <- hlen];refine⟨.ref s.heap.objs.size,_,I.laid (t':=s.toks) (o:=.lst (q1z xs lo hi)) (fun b ob q=>gf _ q) (gv _) ?_,rfl,q _ (I.hok.fresh (gv _))⟩;exact⟨mx (q70 xs lo hi) hz,_,0,(r.drop (HT.sIx xs.length 0 lo)).take (HT.sIx xs.length xs.length hi-HT.sIx xs.length 0 lo),m4 _ rfl⟩
def q0b:V->Bool
 | .non=>true
 | .bl _=>true
 | .int _=>true
 | .str _=>true
 | _=>false
def eqV:V->V->Bool
 | .non,.non=>true
 | .bl a,.bl b=>a==b
 | .bl a,.int b=>(if a then 1 else 0)==b
 | .int a,.bl b=>a==(if b then 1 else 0)
 | .int a,.int b=>a==b
 | .str a,.str b=>a==b
 | _,_=>false
theorem qi7{A:Around}{s:Shared}{y x:V}{u v:Value}(ry:RelV y u)(rx:RelV x v)(fy:q0b y=true)(fx:q0b x=true): SeqAt.EqAt A s u v (eqV y x):=by
 cases y with
 | non=>
  cases ry;cases x with
  | non=>cases rx;exact g54 _
  | bl b=>cases rx;exact SeqAt.EqAt.none_bool b
  | int b=>obtain⟨t,rfl⟩:=rx;exact SeqAt.EqAt.none_int b t
  | str b=>obtain⟨t,rfl⟩:=rx;exact SeqAt.EqAt.none_str b t
  | _=>exact absurd (show false=true from fx) m9
 | bl a=>
  cases ry;cases x with
  | non=>cases rx;exact SeqAt.EqAt.bool_none a
  | bl b=>cases rx;exact SeqAt.EqAt.bool_bool a b
  | int b=>obtain⟨t,rfl⟩:=rx;exact SeqAt.EqAt.bool_int a b t
  | str b=>obtain⟨t,rfl⟩:=rx;exact SeqAt.EqAt.bool_str a b t
  | _=>exact absurd (show false=true from fx) m9
 | int a=>
  obtain⟨t',rfl⟩:=ry;cases x with
  | non=>cases rx;exact SeqAt.EqAt.int_none a t'
  | bl b=>cases rx;exact SeqAt.EqAt.int_bool a t' b
  | int b=>obtain⟨t,rfl⟩:=rx;exact SeqAt.EqAt.int_int a t' b t
  | str b=>obtain⟨t,rfl⟩:=rx;exact SeqAt.EqAt.int_str a t' b t
  | _=>exact absurd (show false=true from fx) m9
 | str a=>
  obtain⟨t',rfl⟩:=ry;cases x with
  | non=>cases rx;exact SeqAt.EqAt.str_none a t'
  | bl b=>cases rx;exact SeqAt.EqAt.str_bool a t' b
  | int b=>obtain⟨t,rfl⟩:=rx;exact SeqAt.EqAt.str_int a t' b t
  | str b=>obtain⟨t,rfl⟩:=rx;exact SeqAt.EqAt.str_str a t' b t
  | _=>exact absurd (show false=true from fx) m9
 | _=>exact absurd (show false=true from fy) m9
def eqU(x:V)(u:Value): Bool:=match u with
 | .none=>eqV .non x
 | .bool b=>eqV (.bl b) x
 | .int i _=>eqV (.int i) x
 | .str z _=>eqV (.str z) x
 | _=>false
theorem qi8{x y:V}{u:Value}(r:RelV y u)(f:q0b y=true): eqU x u=eqV y x:=by
 cases y with
 | non=>cases r;rfl
 | bl b=>cases r;rfl
 | int i=>obtain⟨t,rfl⟩:=r;rfl
 | str z=>obtain⟨t,rfl⟩:=r;rfl
 | _=>exact absurd (show false=true from f) m9
theorem q3t{x:V}: ∀ {xs:List V} {us:List Value},Vals xs us->xs.all q0b=true->us.any (eqU x)=xs.any fun y=>eqV y x
 | _,_,.nil,_=>rfl
 | y :: xs,u :: us,.cons r t,f=>by
  rw [g1m,mi] at f;rw [g5n,g5n,qi8 r f.1,q3t t f.2]
theorem q2k{A:Around}{s:Shared}{x:V}{v:Value}(rx:RelV x v)(fx:q0b x=true): ∀ {xs:List V} {us:List Value},Vals xs us->xs.all q0b=true->∀u∈us,SeqAt.EqAt A s u v (eqU x u)
 | _,_,.nil,_=>fun u hu=>by cases hu
 | y :: xs,u :: us,.cons r t,f=>fun u' hu=>by
  rw [g1m,mi] at f;rcases m6.mp hu with rfl|hu
  ·rw [qi8 r f.1];exact qi7 r rx f.1 fx
  ·exact q2k rx fx t f.2 u' hu
def inV(x:V)(xs:List V): Bool:=xs.any fun y=>eqV y x
def rIn(K:PySem.W.Frag)(neg:Bool): R2:=fun x y H Q=>∃p xs,y=.ref p/\(SqL K H p xs\/SqT K H p xs)/\q0b x=true/\xs.all q0b=true/\Q (.bl (if neg then !inV x xs else inV x xs)) H
theorem qi9:OpR X (compareOp .In) (rIn X.K false):=by
 intro pins s σ H x y v u Q I rx ry h;obtain⟨p,xs,rfl,hq,fx,fs,q⟩:=h;cases ry;rcases hq with hq|hq
 ·obtain⟨its,r,pl,hz⟩:=I.list hq
  refine SeqAt.in_listAt (eqU x) pl.isList (fun w hw=>q2k rx fx r fs w (by simpa using hw)) ⟨.bl _,H,I,rfl,?_⟩;rw [show its.toArray.any (eqU x)=its.any (eqU x) by simp,q3t r fs];exact q
 ·obtain⟨its,r,pl,hz⟩:=I.tuple hq
  refine SeqAt.in_tupleAt (eqU x) pl (fun w hw=>q2k rx fx r fs w (by simpa using hw)) ⟨.bl _,H,I,rfl,?_⟩;rw [show its.toArray.any (eqU x)=its.any (eqU x) by simp,q3t r fs];exact q
theorem qbz:OpR X (compareOp .NotIn) (rIn X.K true):=by
 intro pins s σ H x y v u Q I rx ry h;obtain⟨p,xs,rfl,hq,fx,fs,q⟩:=h;cases ry;rcases hq with hq|hq
 ·obtain⟨its,r,pl,hz⟩:=I.list hq
  refine SeqAt.notIn_listAt (eqU x) pl.isList (fun w hw=>q2k rx fx r fs w (by simpa using hw)) ⟨.bl _,H,I,rfl,?_⟩;rw [show its.toArray.any (eqU x)=its.any (eqU x) by simp,q3t r fs];exact q
 ·obtain⟨its,r,pl,hz⟩:=I.tuple hq
  refine SeqAt.notIn_tupleAt (eqU x) pl (fun w hw=>q2k rx fx r fs w (by simpa using hw)) ⟨.bl _,H,I,rfl,?_⟩;rw [show its.toArray.any (eqU x)=its.any (eqU x) by simp,q3t r fs];exact q
theorem qc0:j6 X (.type "list") (fun xs H Q=>∃p ys,xs=[.ref p]/\(SqL X.K H p ys\/SqT X.K H p ys)/\∀l,H l=none->Q (.ref l) (upd H l (.lst ys))):=by
 intro pins s σ H xs us Q I r h;obtain⟨p,ys,rfl,hq,q⟩:=h;obtain⟨u,rfl,rx⟩:=vals1 r;cases rx;have fin:∀(its:List Value),Vals ys its->ys.length<=sizeLine->∀(h':Heap) (c':Nat),(∀b o',s.heap.get? b=some o'->h'.get? b=some o') ->
   h'.get? s.heap.objs.size=some {cls:=.type "list",dict:=none,data:=.seq its.toArray c',slots:= #[]}->EP X pins σ Q (.ref s.heap.objs.size) {s with heap:=h'}:=fun its r' hz h' c' kp e=>
  ⟨.ref s.heap.objs.size,_,I.laid (t':=s.toks) kp (gv _) (show ObjOk X.prog X.w _ h' _ (.lst ys) from⟨hz,its,c',r',e⟩),rfl,q _ (I.hok.fresh (gv _))⟩
 rcases hq with hq|hq
 ·obtain⟨its,r',pl,hz⟩:=I.list hq
  have hlen:=r'.length;obtain⟨o,ho,hc,n,hd⟩:=pl.isList;exact call_list_seq p (.inl rfl) ho hc hd (fun h' c' kp e=>fin its r' hz h' c' kp e) (by simp only [gj] <;> omega)
 ·obtain⟨its,r',pl,hz⟩:=I.tuple hq
  have hlen:=r'.length;obtain⟨o,ho,hc,n,hd⟩:=pl;exact call_list_seq p (.inr rfl) ho hc hd (fun h' c' kp e=>fin its r' hz h' c' kp e) (by simp only [gj] <;> omega)
theorem qb8:j6 X (.type "tuple") (fun xs H Q=>∃p ys,xs=[.ref p]/\((SqL X.K H p ys/\∀l,H l=none->Q (.ref l) (upd H l (.tup ys)))\/(SqT X.K H p ys/\Q (.ref p) H))):=by
 intro pins s σ H xs us Q I r h;obtain⟨p,ys,rfl,h⟩:=h;obtain⟨u,rfl,rx⟩:=vals1 r;cases rx;rcases h with⟨hq,q⟩|⟨hq,q⟩
 ·obtain⟨its,r',pl,hz⟩:=I.list hq
  have hlen:=r'.length;refine call_tuple_list pl.isList (fun h' kp=>?_) (by simp only [gj] <;> omega);have I1:Inv X pins σ H {s with heap:=h'}:=I.kept (t':=s.toks) kp;have I2:Inv X pins σ (upd H h'.objs.size (.tup ys)) {s with heap:=h'.push {cls:=.type "tuple",data:=.seq its.toArray} }:=
   I1.laid (t':=s.toks) (fun b o e=>gf _ e) (gv _) (show ObjOk X.prog X.w _ _ _ (.tup ys) from⟨hz,its,r',IsTup.new _ _⟩)
  exact⟨.ref h'.objs.size,_,I2,rfl,q _ (I1.hok.fresh (gv _))⟩
 ·obtain⟨its,r',pl,hz⟩:=I.tuple hq
  exact call_tuple_same pl ⟨.ref p,H,I,rfl,q⟩
def tyV(K:PySem.W.Frag)(T:String)(x:V)(H:Hp): Prop:=match x with
 | .str _=>T="str"
 | .int _=>T="int"
 | .ref p=>(T="list" /\ ∃xs,SqL K H p xs)\/(T="tuple" /\ ∃o,K.lookup p=some o/\o.cls=.type "tuple" /\ o.dict=none) \/
   (T="dict" /\ ((∃kvs,H p=some (.dK kvs))\/∃kvs,H p=some (.dT kvs)))\/(T="set" /\ ∃S n,H p=some (.set S n))
 | _=>False
theorem qr6{pins:List (Addr×Obj)}{σ : St}{H:Hp}{s:Shared}{T:String}{x:V}{v:Value}(I:Inv X pins σ H s)(r:RelV x v)(ty:tyV X.K T x H):
  s.TypeIs v T/\∀a,v=.ref a->∃ob,s.heap.get? a=some ob/\ob.dict=none:=by
 cases x with
 | str z=>
  obtain⟨t,rfl⟩:=r;cases(show T="str" from ty);exact⟨typeIs_str s z t,fun _ e=>nomatch e⟩
 | int i=>
  obtain⟨t,rfl⟩:=r;cases(show T="int" from ty);exact⟨typeIs_int s i t,fun _ e=>nomatch e⟩
 | ref p=>
  cases r;rcases ty with⟨rfl,xs,hq⟩|⟨rfl,o,hk,hc,hd⟩|⟨rfl,hk⟩|⟨rfl,S,n,hk⟩
  ·obtain⟨its,_,pl,_⟩:=I.list hq
   refine⟨pl.isList.typeIs,fun a e=>?_⟩;cases e;obtain⟨o,n,e,c,hd,_⟩:=pl;exact⟨o,e,hd⟩
  ·refine⟨⟨o,I.kIn p o hk,hc⟩,fun a e=>?_⟩
   cases e;exact⟨o,I.kIn _ o hk,hd⟩
  ·have z:∃o,s.heap.get? p=some o/\o.ExactDict:=by
    rcases hk with⟨kvs,hk⟩|⟨kvs,hk⟩
    ·obtain⟨_,_,_,_,o,_,_,e,ex,_⟩:=I.hok p _ hk
     exact⟨o,e,ex⟩
    ·obtain⟨_,_,_,_,o,_,_,e,ex,_⟩:=I.hok p _ hk
     exact⟨o,e,ex⟩
   obtain⟨o,e,ex⟩:=z;refine⟨⟨o,e,ex.1⟩,fun a e2=>?_⟩;cases e2;exact⟨o,e,ex.2.1⟩
  ·obtain⟨o,_,_,_,e,ex,_⟩:=I.hok p _ hk
   refine⟨⟨o,e,ex.1⟩,fun a e2=>?_⟩;cases e2;exact⟨o,e,ex.2.1⟩
 | _=>exact False.elim ty
def tBM(K:PySem.W.Frag)(T:String)(r:V->List V->Hp->VK->Prop)(to:TE)(t:TA): TE:=fun σ H Q=>to σ H fun x H1=>tyV K T x H1/\t σ H1 fun xs H2=>r x xs H2 Q
variable{o e:Expr}{es:List Expr}{to:TE}{t:TA}{name:Str}{apos cpos:Pos}{T id:String}{r:V->List V->Hp->VK->Prop}
theorem qng(pa:PlainAttrs T)(slot:Slot T name id)(hty:typeOf (.builtin id)=pure (.type "method_descriptor"))(hm:MtR X id r)(ho:PE X o to)(ha:PA X (e :: es) t)
  (hbase:attributeBase o name X.env (eval o X.env)=eval o X.env:=by rfl)
  (hfew:((backTo cpos (starEach (e :: es) X.env)).all (fun x=> !x.1)&&(backToKw cpos (keywordEach [] X.env)).all (fun x=>x.1.isSome)
   && decide ((e :: es).length+([]:List Keyword).length+(if([]:List Keyword).isEmpty then 0 else 1)<30))=true:=by rfl)
  (hline:(apos.endLine==cpos.line)=true:=by rfl) (hs:starEach (e :: es) X.env=(false,eval e X.env) :: starEach es X.env:=by rfl) (hplain:(backTo cpos (starEach es X.env)).any (·.1)=false:=by rfl) :
  PE X (.Call (.Attribute o name apos) (e :: es) [] cpos) (tBM X.K T r to t):=by
 intro pins s σ H Q I h;refine wpAny_Call_method_late hbase hfew hline rfl (thn (ho pins s σ H _ I h) fun v s1 ⟨x,H1,I1,r1,ty,q1⟩=>?_);obtain⟨h1,h2⟩:=qr6 I1 r1 ty;refine⟨T,id,pa,slot,hty,h1,h2,?_⟩;have hA:=ha cpos pins s1 σ H1 _ I1 q1;rw [hs] at hA ⊢;refine Calls.callWith_builtin (by show(false || (backTo cpos (starEach es X.env)).any (·.1))=false;rw [hplain] <;> rfl) (Calls.evalArgs_plain ?_);exact thn hA fun us s2 ⟨vs,H2,I2,r2,q2⟩=>hm pins s2 σ H2 x vs v us Q I2 r1 r2 q2
end
def MtM(X:Cx)(id:String)(r:V->List V->Hp->VK->Prop): Prop:=
 ∀(pins:List (Addr×Obj)) (s:Shared) (σ : St) (H:Hp) (x:V) (xs:List V) (v:Value) (us:List Value) (Q:VK),Inv X pins σ H s->RelV x v->Vals xs us->r x xs H Q ->
  wpAny (model X.prog X.w) X.A (call (.builtin id) (v :: us)) (EP X pins σ Q) X.xe s
theorem Vals.one:∀ {x:V} {us:List Value},Vals [x] us->∃u,us=[u]/\RelV x u
 | _,_,.cons r .nil=>⟨_,rfl,r⟩
theorem Vals.two:∀ {x y:V} {us:List Value},Vals [x,y] us->∃u v,us=[u,v]/\RelV x u/\RelV y v
 | _,_,_,.cons r (.cons q .nil)=>⟨_,_,rfl,r,q⟩
section
variable{X:Cx}{pins:List (Addr×Obj)}{σ : St}{H:Hp}{s:Shared}{l b:Addr}{xs ys zs:List V}
theorem Inv.lset{its its':List Value}{n:Nat}{f:Array Value->Array Value}{t':Nat}(I:Inv X pins σ H s)(hH:H l=some (.lst xs))
  (e:s.heap.get? l=some {cls:=.type "list",data:=.seq its.toArray n}) (hf:f its.toArray=its'.toArray) (hv:Vals ys its') (hz:ys.length<=sizeLine) :
  Inv X pins σ (upd H l (.lst ys)) {s with heap:=s.heap.update l (Obj.mapSeq f),toks:=t'}:=by
 have q:=PySem.IsL.update e f;rw [hf] at q;refine I.write (x:=l) (e:=l) (by rw [hH];exact trivial) (.inl rfl) (fun b' u hb hu=>(g13 s.heap (Obj.mapSeq f) (nh hb)).trans hu) ⟨_,q⟩ ?_;exact⟨hz,its',_,hv,q⟩
theorem Inv.lnew{its:List Value}{t':Nat}(I:Inv X pins σ H s)(hv:Vals ys its)(hz:ys.length<=sizeLine):
  Inv X pins σ (upd H s.heap.objs.size (.lst ys)) {s with heap:=s.heap.push {cls:=.type "list",data:=.seq its.toArray},toks:=t'}:=
 I.laid (fun _ _ q=>gf _ q) (gv _) ⟨hz,its,0,hv,m4 _ rfl⟩
theorem Inv.fresh(I:Inv X pins σ H s): H s.heap.objs.size=none:=I.hok.fresh (gv _)
theorem Inv.lstM(I:Inv X pins σ H s)(hH:H l=some (.lst xs)): xs.length<=sizeLine/\∃(its:List Value) (n:Nat),Vals xs its/\xs.length=its.length/\s.heap.get? l=some {cls:=.type "list",data:=.seq its.toArray n}:=by
 obtain⟨z,its,n,r,e⟩:=I.hok l _ hH;exact⟨z,its,n,r,r.length,e⟩
theorem qku{n:Nat}(h:n<=sizeLine): Builtin.List.listTooLong n=false:=by
 unfold Builtin.List.listTooLong;exact pq (by omega)
end
section
variable{X:Cx}
def rAppend:V->List V->Hp->VK->Prop:=fun x vs H Q=>∃l xs y,x=.ref l/\vs=[y]/\H l=some (.lst xs)/\xs.length<sizeLine/\Q .non (upd H l (.lst (xs++[y])))
theorem q5d:MtM X "list.append" rAppend:=by
 intro pins s σ H x vs v us Q I rx rv h;obtain⟨l,xs,y,rfl,rfl,hH,hz,q⟩:=h;cases rx;obtain⟨u,rfl,ru⟩:=rv.one;obtain⟨z,its,n,r,hl,e⟩:=I.lstM hH;refine g3d F.slot_list_append ⟨_,e,rfl⟩ F.entry_list_append (F.args_list_append_2 _ _) (PySem.list_append l its.toArray n u (by rw [gj];omega)) ⟨e,?_⟩;refine⟨.non,_,I.lset (its':=its++[u]) hH e (by simp) (r.append (.cons ru .nil)) ?_,rfl,q⟩;rw [nj,g3a];omega
end
section
variable{prog:Program}{w:World}{A:Around}{E:Value->Shared->Prop}{s:Shared}
end
section
variable{X:Cx}
end
end L2
namespace Att
open PySem PySem.W PySem.Calls PyProof.Rows
theorem q89{P:Params}{h:Heap}: ∀(ns:List Int) (vs:List Value),WellAll P h vs (ns.map WData.int)->IntsAre vs ns:=by
 intro ns
 induction ns with
 | nil=>
  intro vs w;rw [g0i] at w;cases w;exact .nil
 | cons n ns ih=>
  intro vs w;rw [gu] at w;cases w with
  | cons a b=>
   cases a;exact .cons _ _ (ih _ b)
theorem qia{l:OpenLaw}{n:Nat}(hn:l.most=some n){P:Params}{h:Heap}{args:List WData}{vals:List Value}
  (hpre:l.row.toRowW.claim.pre args=true) (hwl:WellAll P h vals args) :
  ∃a vs ns,vals=[Value.ref a]/\args=[WData.list (ns.map WData.int)]/\h.get? a=some {cls:=.type "list",data:=.seq vs.toArray}/\IntsAre vs ns/\ns.length<=n:=by
 have hsh:WShape.hasAll [] args [.list .int]=true:=(pre_splitW hpre).1;have hc:l.pre.holds [] {args:=args}=true:=(pre_splitW hpre).2;obtain⟨d,r,rfl,h1,h2⟩:=hasAllW_cons hsh;obtain rfl:=hasAllW_nil h2;obtain⟨xs,rfl,h3⟩:=hasW_list h1;obtain⟨ns,rfl⟩:=items_int h3;have hlen:ns.length<=n:=by
  unfold OpenLaw.pre at hc;have h4:(WTm.not (.lt (.lit (.int (n:Int))) (.len (.arg 0)))).holds [] {args:=[.list (ns.map .int)]}=true:=by
   have h4:=(holds_andW hc).1;rw [hn] at h4;exact h4
  have h5:=condW_of h4 (w_not (w_lt w_lit (w_len_list (w_arg rfl))));rw [mv] at h5;refine Nat.le_of_not_lt fun q=>?_;have q':(n:Int)<((ns.length:Nat):Int):=by omega
  first
   | (rw [nk q'] at h5;exact absurd h5 (by decide))
   | (simp at h5;omega)
 cases hwl with
 | cons w1 w2=>
  cases w2;cases w1 with
  | list ho hall=>exact⟨_,_,ns,rfl,rfl,ho,q89 ns _ hall,hlen⟩
theorem qib(l:OpenLaw)(args:List WData): l.row.toRowW.claim.post args (.bool true) args=true:=
 postW_of (r:=l.row.toRowW) (X:=(true==true))
  (show WShape.has [] (.bool true) .bool=true by first|rfl|decide|simp [WShape.has,WShape.arms,WShape.armsAll])
  (show(WTm.eq .res (.lit (.bool true))).value [] {args:=args,res:=some (.bool true),after:=args}=some (.bool (true==true)) from w_eq_bool (w_res rfl) w_lit) rfl
theorem attach_call{l:OpenLaw}{n:Nat}{q:Program}{loose:List Str}{XP:(Str->Option Value)->Heap->Prop}{YP:World->Heap->Prop}{d:DefRec}
  (hn:l.most=some n) (hdf:d.params.defaults=[])
  (call:∀(w:World) (s₀ s₁:Shared) (mg mb:Str->Option Value) (fa:Addr) (o:Obj) (pm cd doc:Value) (a:Addr) (vs:List Value) (ns:List Int),
   Ground q loose [] XP w s₀ mg mb s₁.heap->YP w s₁.heap ->
   s₁.heap.get? fa=some o->o.data=.func (docDef d.name d.params d.body d.scope pm cd doc)->s₁.heap.CodeRec cd d.name->mg d.name=some (.ref fa) ->
   s₁.heap.get? a=some {cls:=.type "list",data:=.seq vs.toArray}->IntsAre vs ns->ns.length<=n->s₁.gens = #[] ->
   codeAny (model l.prog w) callerA (.call (.ref fa) ⟨[.ref a],[]⟩) (fun r s'=>r=.ok (.ret (.bool true))/\OldK s₁.heap s'.heap/\s'.os=s₁.os/\AllBare s'.gens) s₁) :
  WalkO q loose XP YP l.row.toRowW d [] (fun f vs=>PySem.call f vs):=by
 intro w s₀ s₁ mg mb G Y fa o pm cd doc dV kV ho hd hcd hD hmg hg args vals as hpre hlay hrd hwl hlo;obtain rfl:dV=.none:=Dflts.none hD hdf;obtain rfl:kV=.none:=Dflts.noKw hD;obtain⟨a,vs,ns,rfl,rfl,hobj,hints,hlen⟩:=qia hn hpre hwl;refine enter_call (g2f (call w s₀ s₁ mg mb fa o pm cd doc a vs ns G Y ho (fd_plain hd) hcd hmg hobj hints hlen hg) fun r s' hq=>?_);obtain⟨rfl,h2,h3,h4⟩:=hq;exact⟨.inl ⟨.bool true,.bool true,[],rfl,fun _=>rfl,.bool true,qib l _,fun _=>⟨List.Pairwise.nil,fun _ hm=>(nomatch hm)⟩⟩,h2,h3,h4⟩
section
variable{prog:Program}{w:World}{A:Around}{E:Value->Shared->Prop}{s:Shared}{K:Frag}
end
end Att
namespace L2
open PySem PySem.Spec PyProof.Rows
theorem q1k:∀ {vs:List Value} {ns:List Int},IntsAre vs ns->Vals (ns.map V.int) vs
 | _,_,.nil=>.nil
 | _,_,.cons n t h=>.cons ⟨t,rfl⟩ (q1k h)
def vj(s:Stmt): Arguments:=match s with
 | .FunctionDef _ a _ _ _ _ _ _ _ _=>a
 | _=>{posonlyargs:=[],args:=[],vararg:=none,kwonlyargs:=[],kw_defaults:=[],kwarg:=none,defaults:=[]}
def qp(s:Stmt): List Stmt:=match s with
 | .FunctionDef _ _ b _ _ _ _ _ _ _=>b
 | _=>[]
def qc(s:Stmt): Scope:=match s with
 | .FunctionDef _ _ _ _ _ _ sc _ _ _=>sc
 | _=>{kind:=.function,names:=[],isGenerator:=false,isCoroutine:=false}
abbrev CX0:CXT:=fun _ _ _ _ _ _=>False
abbrev E0:XK:=fun _ _ _=>False
theorem qnh{X:Cx}: q87 CX0 X E0:=fun _ _ _ _ _ _ _ h=>h.elim
structure Fun(K:PySem.W.Frag)(x qual:Str)(st:Stmt)(f:Addr)(fd:FuncData): Prop where
 ex:∃(oc:Value) (od:Option Addr) (kV doc pm:Value) (an:Option Addr) (cdv ct:Value) (osl:Array (Option Value)),
  fd=PySem.W.fnOf x qual (vj st) (qp st) (qc st) .none kV doc pm an cdv ct/\K.lookup f=some ⟨oc,od,.func fd,osl⟩/\PySem.W.codeIn K cdv qual=true
 kp:PySem.W.keepIn K (.ref f)=true
section
variable{P:Program}{w:World}{K:PySem.W.Frag}{mg:Str->Option Value}{base:Heap}
end
section
variable{X:Cx}
theorem pv(i:Nat){x:Str}{pos:Pos}(hN:X.N[i]? = some x:=by rfl)(hv:Vis X.env.scope x:=by first|exact Or.inl rfl|exact Or.inr (Or.inl rfl)|exact Or.inr (Or.inr rfl))(hd:(x==("__debug__" : Str))=false:=by decide)
  (hcd:(x==("__classdict__" : Str))=false:=by decide):PE X (.Name x pos) (qbu i):=qqd hN hv hd hcd
end
theorem quj{A B:Prop}(h:B): if false=true then A else B:=by
 rw [mj m9];exact h
theorem quk{A B:Prop}(h:A): if true=true then A else B:=by
 rw [mq rfl];exact h
def Same(H H':Hp): Prop:=∀b o,H b=some o->H' b=some o
theorem Same.refl(H:Hp): Same H H:=fun _ _ h=>h
theorem Same.trans{H H1 H2:Hp}(a:Same H H1)(b:Same H1 H2): Same H H2:=fun c o h=>b c o (a c o h)
theorem Same.free{H H':Hp}(e:Same H H'){l:Addr}(h:H' l=Option.none): H l=Option.none:=by
 cases q:H l with
 | none=>rfl
 | some o=>
  rw [e l o q] at h;cases h
theorem Same.seq{K:PySem.W.Frag}{H H':Hp}{a:Addr}{xs:List V}(e:Same H H')(h:SqL K H a xs): SqL K H' a xs:=by
 rcases h with(h|⟨o,h⟩)|h
 ·exact .inl (.inl (e _ _ h))
 ·exact .inl (.inr ⟨o,e _ _ h⟩)
 ·exact .inr h
theorem q2l(env:Env): ∀(names:List (Str×NameKind)) (acc:List (Str×Addr)),
  (∀y∈names,y.2=.free->∃c,env.cells.lookup y.1=some c)->(∀x c,acc.lookup x=some c->env.cells.lookup x=some c) ->
  ∃ cl,(forIn names acc (fun(x:Str×NameKind) (r:List (Str×Addr))=>(do
    if x.2==NameKind.free then do
     let a <- cellOf env x.1
     pure (ForInStep.yield ((x.1,a) :: r))
    else pure (ForInStep.yield r):Sem (ForInStep (List (Str×Addr))))):Sem (List (Str×Addr)))=pure cl /\
   (∀x c,cl.lookup x=some c->env.cells.lookup x=some c)/\(∀x c,acc.lookup x=some c->∃d,cl.lookup x=some d)/\(∀y∈names,y.2=.free->∃c,cl.lookup y.1=some c)
 | [],acc,_,h2=>⟨acc,rfl,h2,fun x c h=>⟨c,h⟩,fun y hy=>by cases hy⟩
 | (n,k) :: r,acc,h1,h2=>by
  by_cases hk:k=NameKind.free
  ·subst hk
   obtain⟨c,hc⟩:=h1 (n,.free) gq rfl;have h2':∀x d,((n,c) :: acc).lookup x=some d->env.cells.lookup x=some d:=fun x d e=>by
    rw [t5] at e
    split at e
    ·rename_i q
     have q':x=n:=by simpa using q
     subst q';cases e;exact hc
    ·exact h2 x d e
   obtain⟨cl,e,a1,a2,a3⟩:=q2l env r ((n,c) :: acc) (fun y hy=>h1 y (gr _ hy)) h2';refine⟨cl,?_,a1,fun x d e2=>?_,fun y hy hf=>?_⟩
   ·rw [g1o]
    simp only [g4q,ny];have hco:cellOf env n=pure c:=by unfold cellOf;rw [hc]
    rw [hco];exact e
   ·by_cases q:x=n
    ·subst q
     exact a2 x c (by rw [t5];simp)
    ·exact a2 x d (by rw [t5,show(x==n)=false by simpa using q];exact e2)
   ·rcases m6.mp hy with rfl|hy
    ·exact a2 n c (by rw [t5];simp)
    ·exact a3 y hy hf
  ·obtain⟨cl,e,a1,a2,a3⟩:=q2l env r acc (fun y hy=>h1 y (gr _ hy)) h2
   refine⟨cl,?_,a1,a2,fun y hy hf=>?_⟩
   ·rw [g1o]
    have hb:(k==NameKind.free)=false:=by simpa using hk
    simp only [hb,gm,p8];exact e
   ·rcases m6.mp hy with rfl|hy
    ·exact absurd hf hk
    ·exact a3 y hy hf
theorem q4d{scope:Scope}{env:Env}(h:∀y∈scope.names,y.2=.free->∃c,env.cells.lookup y.1=some c):
  ∃cl,closureFor scope env=pure cl/\(∀x c,cl.lookup x=some c->env.cells.lookup x=some c)/\(∀y∈scope.names,y.2=.free->∃c,cl.lookup y.1=some c):=by
 obtain⟨cl,e,a1,_,a3⟩:=q2l env scope.names [] h (fun x c q=>by cases q);refine⟨cl,?_,a1,a3⟩;unfold closureFor;exact(g06 (fun m=>m >>= fun r=>(pure r:Sem (List (Str×Addr)))) e).trans rfl
abbrev qic(ifs:List Expr)(env:Env): Sem Bool:=
 forIn ifs true fun c r=>if r=true then do let ok <- isTrue c env (eval c env);pure (ForInStep.yield ok) else pure (ForInStep.yield r)
def wy(X:Cx)(ifs:List Expr)(t:TT): Prop:=
 ∀(pins:List (Addr×Obj)) (s:Shared) (σ : St) (H:Hp) (Q:Bool->Hp->Prop),Inv X pins σ H s->t σ H Q->wpAny (model X.prog X.w) X.A (qic ifs X.env) (TP X pins σ Q) X.xe s
def tTrue:TT:=fun _ H Q=>Q true H
theorem qkv{X:Cx}: wy X [] tTrue:=fun pins s σ H Q I h=>wpAny_tests_nil ⟨H,I,h⟩
theorem qkw{X:Cx}{c:Expr}{t:TT}(h:PT X c t): wy X [c] t:=fun pins s σ H Q I hq=>wpAny_tests_one (h pins s σ H Q I hq)
section
variable{prog:Program}{w:World}{A:Around}{R:Result->Shared->Prop}{s:Shared}
theorem q71{elt target iter:Expr}{ifs:List Expr}{scope:Scope}{pos:Pos}{it acc:Value}{env:Env}(I:Nat->Shared->Prop)
  (turn:∀n s,I n s->wpAny (model prog w) A (pyNext it) (fun r s₁=>match r with
   | none=>R (.ok .next) s₁
   | some v=>wpAny (model prog w) A (letOwnedTupleGo target it v) (fun _ s'=>wpAny (model prog w) A (assign target env v) (fun _ s₂=>
     wpAny (model prog w) A (qic ifs env) (fun ok s₃=>
      if ok=true then wpAny (model prog w) A (eval elt env) (fun x s₄=>
       wpAny (model prog w) A (call (.builtin "list.append") [acc,x]) (fun _ s₅=>∃m,m<n/\I m s₅) (fun _ _=>False) s₄) (fun _ _=>False) s₃
      else ∃m,m<n/\I m s₃) (fun _ _=>False) s₂) (fun _ _=>False) s') (fun _ _=>False) s₁) (fun _ _=>False) s)
  (n:Nat) (h:I n s) :
  codeAny (model prog w) A (.compLoop (.ListComp elt [⟨target,iter,ifs,0⟩] scope pos) 0 it acc env) R s:=by
 refine codeAny_loop rfl I (fun n s hI=>?_) n h;show wpAny _ A ((compTurn (.ListComp elt [⟨target,iter,ifs,0⟩] scope pos) 0 it acc env).onRaise (fun x=>do noteFrame x env;theTreesLotGoes x)) _ _ s;refine wpAny_noted ?_;rw [compTurn_list];refine g9 (wpAny_standAt (g9 (tf (turn n s hI) (fun r s₁ h₁=>?_) fun _ _ h'=>h'.elim)));cases r with
 | none=>exact gc h₁
 | some v=>
  refine g9 (tf h₁ (fun _ s' h'=>?_) fun _ _ h'=>h'.elim);refine g9 (tf h' (fun _ s₂ h₂=>g9 (tf h₂ (fun ok s₃ h₃=>?_) fun _ _ h'=>h'.elim)) fun _ _ h'=>h'.elim);cases ok with
  | false=>exact gc ⟨rfl,h₃⟩
  | true=>
   exact g9 (g9 (tf h₃ (fun x s₄ h₄=>g9 (tf h₄ (fun _ s₅ h₅=>gc (gc ⟨rfl,h₅⟩)) fun _ _ h'=>h'.elim)) fun _ _ h'=>h'.elim))
end
abbrev jd(X:Cx)(N':List Str)(scope:Scope)(cl:List (Str×Addr))(C:Addr)(s₀:Shared)(H₀:Hp)(fp:List Addr): Cx:=
 {X with N:=N',env:=compEnvC scope cl C X.env,s₀:=s₀,H₀:=H₀,outer:=X.stack,ex:=fp,fn:=fun _=>false,pn:=[],xe:=fun _ _=>False}
structure CapOk(X:Cx)(N':List Str)(scope:Scope)(cap:List (Option Nat)): Prop where
 kind:scope.kind=.function
 cell:∀y∈scope.names,y.2 ≠ .cell
 names:∀y∈scope.names,y.2=.local->scope.names.lookup y.1=some .local
 frees:∀y∈scope.names,y.2=.free->X.env.kindOf y.1=some .cell\/X.env.kindOf y.1=some .free
 len:cap.length=N'.length
 cap:∀(i j:Nat),cap[i]? = some (some j)->∃x,N'[i]? = some x/\X.N[j]? = some x/\scope.names.lookup x=some .free
def q5e(cap:List (Option Nat))(σ : St): St:=cap.map fun o=>o.bind fun j=>(σ[j]?).join
theorem lookup_mem{α β : Type}[BEq α][LawfulBEq α]{l:List (α × β)}{a : α}{b : β}(h:l.lookup a=some b): (a,b)∈l:=by
 induction l with
 | nil=>cases h
 | cons p r ih=>
  obtain⟨x,y⟩:=p;rw [t5] at h
  split at h
  ·rename_i q
   have q':a=x:=by simpa using q
   subst q';cases h;exact gq
  ·exact gr _ (ih h)
theorem kx{env:Env}: ∀ {names:List (Str×NameKind)} {x:Str} {k:NameKind},(names.map fun(n,k)=>if(k==NameKind.free&&env.scope.kind == .function&&env.kindOf n==some .cell) then(n,NameKind.cell) else(n,k)).lookup x=some k ->
  (names.lookup x=some k)\/(k=.cell/\names.lookup x=some .free)
 | [],_,_,h=>by cases h
 | (n,k0) :: r,x,k,h=>by
  have ih:=@kx env r x k;have h':List.lookup x ((if(k0==NameKind.free&&env.scope.kind == .function&&env.kindOf n==some .cell)=true then(n,NameKind.cell) else(n,k0)) :: _)=some k:=h
  by_cases hc:(k0==NameKind.free&&env.scope.kind == .function&&env.kindOf n==some .cell)=true
  ·rw [mq hc,t5] at h'
   have hf:k0=.free:=by
    simp only [mi,g24] at hc;exact hc.1.1
   cases q:x==n with
   | true=>rw [q] at h';cases h';exact .inr ⟨rfl,by rw [t5,q,hf]⟩
   | false=>rw [q] at h';rw [t5,q];exact ih h'
  ·rw [mj hc,t5] at h'
   cases q:x==n with
   | true=>rw [q] at h';rw [t5,q];exact .inl h'
   | false=>rw [q] at h';rw [t5,q];exact ih h'
theorem q2m{env:Env}: ∀ {names:List (Str×NameKind)} {x:Str},names.lookup x=some .free ->
  (names.map fun(n,k)=>if(k==NameKind.free&&env.scope.kind == .function&&env.kindOf n==some .cell) then(n,NameKind.cell) else(n,k)).lookup x=some .cell \/
  (names.map fun(n,k)=>if(k==NameKind.free&&env.scope.kind == .function&&env.kindOf n==some .cell) then(n,NameKind.cell) else(n,k)).lookup x=some .free
 | [],_,h=>by cases h
 | (n,k0) :: r,x,h=>by
  have ih:=@q2m env r x;show List.lookup x ((if(k0==NameKind.free&&env.scope.kind == .function&&env.kindOf n==some .cell)=true then(n,NameKind.cell) else(n,k0)) :: _)=_\/List.lookup x ((if(k0==NameKind.free&&env.scope.kind == .function&&env.kindOf n==some .cell)=true then(n,NameKind.cell) else(n,k0)) :: _)=_;rw [t5] at h
  by_cases hc:(k0==NameKind.free&&env.scope.kind == .function&&env.kindOf n==some .cell)=true
  ·rw [mq hc,t5]
   cases q:x==n with
   | true=>exact .inl rfl
   | false=>rw [q] at h;exact ih h
  ·rw [mj hc,t5]
   cases q:x==n with
   | true=>rw [q] at h;exact .inr h
   | false=>rw [q] at h;exact ih h
section
variable{X:Cx}{pins:List (Addr×Obj)}{σ : St}{H:Hp}{s:Shared}{N':List Str}{scope:Scope}{cap:List (Option Nat)}{cl:List (Str×Addr)}{fp:List Addr}
theorem qkx(I:Inv X pins σ H s)(co:CapOk X N' scope cap)(h1:∀x c,cl.lookup x=some c->X.env.cells.lookup x=some c)(h2:∀y∈scope.names,y.2=.free->∃c,cl.lookup y.1=some c)
  (hf:∀b∈fp,yf X pins H b) (ho:∀b∈fp,∃o,s.heap.get? b=some o) {h':Heap} {t':Nat} {m:Str->Option Value} (hn:h'.Ns s.heap.objs.size m) (hk:∀b o,s.heap.get? b=some o->h'.get? b=some o) :
  Inv (jd X N' scope cl s.heap.objs.size s H fp) [] (q5e cap σ) H {s with heap:=h',toks:=t'}:=by
 have flt:∀b∈fp,b<s.heap.objs.size:=fun b hb=>let⟨o,e⟩:=ho b hb;gz e
 refine⟨⟨I.ok.mod,co.kind,I.ok.glob,I.ok.blt,gv _,fun x y c e1 e2=>I.ok.inj x y c (h1 x c e1) (h1 y c e2),fun x hx=>?_,fun x c z _=>(nomatch z),I.ok.hd,I.ok.frames,.inl rfl,fun b hb=>?_,I.bs,mx I.ok.bsz I.sz,fun b o e hb=>?_,fun b hb z=>?_,I.stack,I.stkFree⟩,
  rfl,I.bare,Un.kept hk,⟨m,hn,fun i x v e1 e2 e3=>?_⟩,fun x c e=>?_,I.hok.fresh (gv _),fun x c e=>I.freeC x c (h1 x c e),fun p hp=>(nomatch hp),I.hok.kept hk,?_⟩
 ·have hx':(relabel scope X.env).names.lookup x=some .cell\/(relabel scope X.env).names.lookup x=some .free:=hx
  have hfree:scope.names.lookup x=some .free:=by
   rcases hx' with q|q
   ·rcases kx q with z|⟨_,z⟩
    ·exact absurd rfl (co.cell _ (lookup_mem z))
    ·exact z
   ·rcases kx q with z|⟨z,_⟩
    ·exact z
    ·cases z
  exact h2 (x,.free) (lookup_mem hfree) rfl
 ·obtain⟨f0,f1,f2,f3,f4,f5⟩:=hf b hb
  exact⟨md (flt b hb),fun x c e=>f4 x c (h1 x c e)⟩
 ·obtain⟨f0,f1,f2,f3,f4,f5⟩:=hf b hb
  rcases f3 with z|z
  ·exact I.ok.noex b o e z
  ·exact absurd (m8 (gz e) (mx I.ok.bsz z)) (g0e _)
 ·obtain⟨f0,f1,f2,f3,f4,f5⟩:=hf b hb
  rcases m6.mp (I.stkSub b z) with q|q
  ·exact f1 q
  ·exact f2 q
 ·-- a captured name
  have e2':(cap.map fun o=>o.bind fun j=>(σ[j]?).join)[i]? = some (some v):=e2;rw [n9] at e2';cases q:cap[i]? with
  | none=>rw [q] at e2';cases e2'
  | some o=>
   rw [q] at e2';cases o with
   | none=>cases e2'
   | some j=>
    obtain⟨y,a1,a2,a3⟩:=co.cap i j q;have e1':N'[i]? = some x:=e1;rw [a1] at e1';obtain rfl:y=x:=mh e1';have ej:(σ[j]?).join=some v:=by
     have:=e2';simp only [pb,mm,g1t] at this;exact this
    have ej' : σ[j]? = some (some v):=by
     cases z : σ[j]? with
     | none=>rw [z] at ej;cases ej
     | some u=>rw [z] at ej;simp only [g04] at ej;rw [ej]
    have kd:=co.frees (y,.free) (lookup_mem a3) rfl;obtain⟨m0,hn0,hl0⟩:=I.loc;have vis:Vis X.env.scope y:=by
     rcases kd with k|k
     ·exact .inr (.inl k)
     ·exact .inr (.inr k)
    obtain⟨u,ru,lk⟩:=hl0 j y v a2 ej' vis;refine⟨u,ru,.inr ⟨q2m a3,?_⟩⟩;obtain⟨c,hc⟩:=h2 (y,.free) (lookup_mem a3) rfl;rcases lk with⟨k,_⟩|⟨_,c',hc',z⟩
    ·rcases kd with k'|k'
     ·rw [k] at k';cases k'
     ·rw [k] at k';cases k'
    ·have:=h1 _ _ hc
     rw [hc'] at this;obtain rfl:c'=c:=mh this;obtain⟨o,eo,ed⟩:=z;exact⟨c',hc,o,hk _ _ eo,ed⟩
 ·obtain⟨v,o,eo,ed⟩:=I.cell x c (h1 x c e)
  exact⟨v,o,hk _ _ eo,ed⟩
 ·show(cap.map _).length=N'.length
  rw [mv];exact co.len
theorem qgf{N':List Str}{C:Addr}{H':Hp}{s':Shared}{σ':St}{h':Heap}(I:Inv X pins σ H s)(hf:∀b∈fp,yf X pins H b)(J:Inv (jd X N' scope cl C s H fp) [] σ' H' s')(hs:Heap.SameBut C s'.heap h'):
  Inv X pins σ H' {s' with heap:=h'}:=by
 have hC:s.heap.objs.size<=C:=J.ok.above;have kp:∀b o,b≠C->s'.heap.get? b=some o->h'.get? b=some o:=fun b o hb e=>(hs.2 b hb).trans e;have hC0:H' C=none:=J.free;have un:Un (frs X.stack) fp H H' s.heap h':=by
  have u:Un (frs X.stack) fp H H' s.heap s'.heap:=J.base;have neC:∀b o,s.heap.get? b=some o->b≠C:=fun b o e=>md (m8 (gz e) hC);exact⟨fun b o e n h1 h2=>kp b o (neC b o e) (u.keep b o e n h1 h2),fun b o e n h1 h2=>let⟨sl,q⟩:=u.slot b o e n h1 h2; ⟨sl,kp b _ (neC b o e) q⟩,u.free,fun b o e h=>let⟨o',q⟩:=u.there b o e h; ⟨o',kp b o' (neC b o e) q⟩,u.tups,u.frzs,u.tbls⟩
 have hok:HOk X.prog X.w H' h':=fun b u e=>by
  refine(J.hok b u e).stay (fun c v hc q=>kp c v ?_ q) (fun _ q=>q) fun _ _ q=>q;rcases hc with z|z
  ·rw [z];intro z2;rw [z2,hC0] at e;cases e
  ·intro z2;rw [z2,hC0] at z;cases z
 exact I.call' (s':={s' with heap:=h'}) (ch:=fp) J.os un hok J.bare fun b hb=>by
  obtain⟨f0,f1,f2,f3,f4,f5⟩:=hf b hb;exact⟨f3,f1,f4,f5⟩
end
def qky(J:It)(cap:List (Option Nat))(g:TG)(tc:TT)(te:TE)(σ : St)(H1:Hp)(p:Addr)(K:Hp->Prop): Prop:=
 ∃ W:Nat->Nat->St->Hp->Prop,(∃m,W 0 m (q5e cap σ) (upd H1 p (.lst [])))/\∀i m σ' H',W i m σ' H' ->
  (J.stop i H'/\K H')\/(J.go i H'/\∀x H'',J.yld i H' x H''->g x σ' H'' fun σ2 H2=>tc σ2 H2 fun b H3=>
   if b=true then te σ2 H3 fun y H4=>∃xs,H4 p=some (.lst xs)/\xs.length<sizeLine/\∃m',m'<m/\W (i+1) m' σ2 (upd H4 p (.lst (xs++[y])))
   else ∃m',m'<m/\W (i+1) m' σ2 H3)
def qbk(wi:TI)(cap:List (Option Nat))(g:TG)(tc:TT)(te:TE): TE:=fun σ H Q=>wi σ H fun J H1=>∀p,H1 p=none->qky J cap g tc te σ H1 p (Q (.ref p))
section
variable{X:Cx}{N':List Str}{scope:Scope}{cap:List (Option Nat)}{tg iter elt:Expr}{ifs:List Expr}{wi:TI}{g:TG}{tc:TT}{te:TE}{pos:Pos}
theorem qae{cl:List (Str×Addr)}{pins:List (Addr×Obj)}{s:Shared}{σ : St}{H:Hp}{it:Addr}{fp:List Addr}{tn:Nat->Heap->Prop}{J:It}{E:Value->Shared->Prop}{K:Addr->Hp->Prop}
  {RR:Value->Addr->Result->Shared->Prop} (hc:X.calm=true) (co:CapOk X N' scope cap)
  (h1:∀x c,cl.lookup x=some c->X.env.cells.lookup x=some c) (h2:∀y∈scope.names,y.2=.free->∃c,cl.lookup y.1=some c)
  (hg:∀cl C s₀ H₀ fp,PG (jd X N' scope cl C s₀ H₀ fp) tg g) (hcs:∀cl C s₀ H₀ fp,wy (jd X N' scope cl C s₀ H₀ fp) ifs tc) (he:∀cl C s₀ H₀ fp,PE (jd X N' scope cl C s₀ H₀ fp) elt te)
  (I:Inv X pins σ H s) (T:Turn X.prog X.w X.K tg J fp it tn) (st:tn 0 s.heap) (hf:∀b∈fp,yf X pins H b) (h:∀p,H p=none->qky J cap g tc te σ H p (K p))
  (hRR:∀(D C:Addr) (s':Shared) (H':Hp),s.heap.objs.size<=C->(∃m,s'.heap.Ns C m)->(∀h',Heap.SameBut C s'.heap h'->Inv X pins σ H' {s' with heap:=h'})->H' C=none->K D H'->RR (.ref D) C (.ok .next) s') :
  wpAny (model X.prog X.w) X.A (newList []) (fun acc s₃=>wpAny (model X.prog X.w) X.A (newFunctionEnv scope X.env.globals cl [] X.env.qual none .none (some X.env)) (fun cenv s₄=>
   codeAny (model X.prog X.w) X.A (.compStart (.ListComp elt [⟨tg,iter,ifs,0⟩] scope pos) 0 (.ref it) acc {cenv with scope:=relabel scope X.env}) (RR acc cenv.locals) s₄) E s₃) E s:=by
 refine uj (wpAny_newFunctionEnv co.cell (by intro y hy;simp at hy) (fun hh hns hsb=>?_) co.kind);have hD:H s.heap.objs.size=none:=I.fresh;have I3:Inv X pins σ (upd H s.heap.objs.size (.lst [])) {s with heap:=s.heap.push {cls:=.type "list",dict:=none,data:=.seq ([]:List Value).toArray} }:=I.lnew (ys:=[]) (its:=[]) (t':=s.toks) .nil (g03 _);obtain⟨W,⟨m0,w0⟩,turn⟩:=h s.heap.objs.size hD;have fobj:∀b∈fp,∃o,s.heap.get? b=some o:=fun b hb=>let⟨o,e,_⟩:=T.obj 0 _ st b hb; ⟨o,e⟩
 generalize e3:({s with heap:=s.heap.push {cls:=.type "list",dict:=none,data:=.seq ([]:List Value).toArray} }:Shared)=s3 at I3;have es3:s3.heap=s.heap.push {cls:=.type "list",dict:=none,data:=.seq ([]:List Value).toArray}:=by rw [<- e3]
 have eC:(s.heap.push {cls:=.type "list",dict:=none,data:=.seq ([]:List Value).toArray}).objs.size=s3.heap.objs.size:=by rw [es3]
 have hf3:∀b∈fp,yf X pins (upd H s.heap.objs.size (.lst [])) b:=fun b hb=>by
  obtain⟨f0,f1⟩:=hf b hb;obtain⟨o,e⟩:=fobj b hb;exact⟨by rw [qk (md (gz e))];exact f0,f1⟩
 have kp:∀b o,s3.heap.get? b=some o->hh.get? b=some o:=fun b o e=>by
  refine hsb.extBut b o ?_ (gf _ (by rw [<- es3];exact e));show b≠(s.heap.push {cls:=.type "list",dict:=none,data:=.seq ([]:List Value).toArray}).objs.size;rw [eC];exact md (gz e)
 have hle:s.heap.objs.size<=s3.heap.objs.size:=by rw [es3,pd];exact g29 _
 have s3e:∀t:Nat,({s with heap:=hh,toks:=t}:Shared) = {s3 with heap:=hh,toks:=t}:=fun t=>by rw [<- e3]
 have I4:Inv (jd X N' scope cl s3.heap.objs.size s3 (upd H s.heap.objs.size (.lst [])) fp) [] (q5e cap σ) (upd H s.heap.objs.size (.lst [])) {s3 with heap:=hh,toks:=s.toks+([]:List (Str×Value)).length}:=
  qkx I3 co h1 h2 hf3 (fun b hb=>let⟨o,e⟩:=fobj b hb; ⟨o,by rw [es3];exact gf _ e⟩) (by rw [<- eC];exact hns) kp
 have st4:tn 0 hh:=T.keep 0 _ _ st fun b hb o e=>kp b o (by rw [es3];exact gf _ e);have etk:s3.toks+([]:List (Str×Value)).length=s.toks+([]:List (Str×Value)).length:=by rw [<- e3]
 show codeAny (model X.prog X.w) X.A (.compStart (.ListComp elt [⟨tg,iter,ifs,0⟩] scope pos) 0 (.ref it) (.ref s.heap.objs.size) (compEnvC scope cl s3.heap.objs.size X.env)) (RR (.ref s.heap.objs.size) s3.heap.objs.size)
  {s3 with heap:=hh,toks:=s3.toks+([]:List (Str×Value)).length}
 rw [etk];generalize eX:jd X N' scope cl s3.heap.objs.size s3 (upd H s.heap.objs.size (.lst [])) fp=X' at I4;have hg':PG X' tg g:=by rw [<- eX];exact hg _ _ _ _ _
 have hcs':wy X' ifs tc:=by rw [<- eX];exact hcs _ _ _ _ _
 have he':PE X' elt te:=by rw [<- eX];exact he _ _ _ _ _
 have eenv:X'.env=compEnvC scope cl s3.heap.objs.size X.env:=by rw [<- eX]
 have exe:X'.xe=fun _ _=>False:=by rw [<- eX]
 have eex:X'.ex=fp:=by rw [<- eX]
 have eprog:X'.prog=X.prog:=by rw [<- eX]
 have ew:X'.w=X.w:=by rw [<- eX]
 have eK:X'.K=X.K:=by rw [<- eX]
 have eA:X'.A=X.A:=by rw [<- eX]
 have ecalm:X'.calm=true:=by rw [<- eX];exact hc
 have epn:X'.pn=[]:=by rw [<- eX]
 have eloc:X'.env.locals=s3.heap.objs.size:=by rw [eenv];rfl
 have ok':=I4.ok;have stat:∀ {H':Hp},(∀b∈fp,H' b=none)->∀b∈fp,yf X' [] H' b:=fun hn b hb=>by
  have hbx:b∈X'.ex:=by rw [eex];exact hb
  exact⟨hn b hb,(ok'.exf b hbx).1,ok'.exfs b hbx,.inl hbx,(ok'.exf b hbx).2,fun p hp=>by rw [epn] at hp;cases hp⟩
 have back:∀ {σ':St} {H':Hp} {s':Shared},Inv X' [] σ' H' s'->K s.heap.objs.size H'->RR (.ref s.heap.objs.size) s3.heap.objs.size (.ok .next) s':=fun {σ' H' s'} J' k=>by
  refine hRR _ _ _ H' hle ?_ (fun h' hs'=>?_) ?_ k
  ·obtain⟨m,hm,_⟩:=J'.loc
   exact⟨m,by rw [<- eloc];exact hm⟩
  ·rw [<- eX] at J'
   exact qgf I3 hf3 J' hs'
  ·rw [<- eloc];exact J'.free
 have loop:codeAny (model X.prog X.w) X.A (.compLoop (.ListComp elt [⟨tg,iter,ifs,0⟩] scope pos) 0 (.ref it) (.ref s.heap.objs.size) (compEnvC scope cl s3.heap.objs.size X.env)) (RR (.ref s.heap.objs.size) s3.heap.objs.size)
   {s3 with heap:=hh,toks:=s.toks+([]:List (Str×Value)).length}:=by
  refine q71 (fun n s'=>∃i σ' H',Inv X' [] σ' H' s'/\tn i s'.heap/\(∀b∈fp,H' b=none)/\W i n σ' H') ?_ m0 ⟨0,_,_,I4,st4,fun b hb=>(hf3 b hb).1,w0⟩
  rintro n s5 ⟨i, σ5,H5,I5,st5,fr5,w5⟩
  rw [<- eenv];rcases turn i n σ5 H5 w5 with⟨stop,qn⟩|⟨go,step⟩
  ·have:=T.done X' eprog ew eK ecalm i [] s5 σ5 H5 (fun _ _=>False) I5 (stat fr5) st5 stop
   rw [eA] at this;refine thn this fun r s6 ⟨hr,I6⟩=>?_;subst hr;exact back I6 qn
  ·have:=T.item X' eprog ew eK ecalm i [] s5 σ5 H5 (fun _ _=>False) I5 (stat fr5) st5 go
   rw [eA] at this;refine thn this fun r s6 ⟨u,hr,h6⟩=>?_;subst hr;refine thn h6 fun _ s7 ⟨x,H7,I7,r7,y7,st7,fr7⟩=>?_;have I7':=I7.pinned (stat fr7) (T.obj _ _ st7);have hg2:=hg' _ s7 σ5 H7 x u _ I7' r7 (step x H7 y7);rw [exe,eprog,ew,eA] at hg2;refine thn hg2 fun _ s8 ⟨σ8,H8,I8,q8⟩=>?_;have hc2:=hcs' _ s8 σ8 H8 _ I8 q8;rw [exe,eprog,ew,eA] at hc2;refine thn hc2 fun ok s9 ⟨H9,I9,q9⟩=>?_;have again:∀ {H':Hp} {s':Shared} {m':Nat},Inv X' ([]++q1j fp s7.heap) σ8 H' s'->m'<n->W (i+1) m' σ8 H'->∃m,m<n/\∃i σ' H',Inv X' [] σ' H' s'/\tn i s'.heap/\(∀b∈fp,H' b=none)/\W i m σ' H':=fun {H' s' m'} J' hm w'=>by
    refine⟨m',hm,i+1, σ8,H',J'.unpinned,T.keep _ _ _ st7 fun b hb o e=>(J'.pin (b,o) (mw _ (mw _ (wd hb e)))).1,fun b hb=>?_,w'⟩;obtain⟨o,e,d⟩:=T.obj _ _ st7 b hb;exact(J'.pin (b,o) (mw _ (mw _ (wd hb e)))).2.1
   cases ok with
   | false=>
    rw [mj m9] at q9 ⊢;obtain⟨m',hm,w'⟩:=q9;exact again I9 hm w'
   | true=>
    rw [mq rfl] at q9 ⊢;have he2:=he' _ s9 σ8 H9 _ I9 q9;rw [exe,eprog,ew,eA] at he2;refine thn he2 fun y s10 ⟨yv,H10,I10,r10,xs,hp,hz,m',hm,w'⟩=>?_;have ha2:=q5d (X:=X') ([]++q1j fp s7.heap) s10 σ8 H10 (.ref s.heap.objs.size) [yv] (.ref s.heap.objs.size) [y] (fun _ H'=>H'=upd H10 s.heap.objs.size (.lst (xs++[yv]))) I10 rfl (.cons r10 .nil) ⟨_,xs,yv,rfl,rfl,hp,hz,rfl⟩;rw [exe,eprog,ew,eA] at ha2;refine thn ha2 fun _ s11 ⟨_,H11,I11,_,e11⟩=>?_;subst e11;exact again I11 hm w'
 exact codeAny_compStart_list loop (T.self _ 0 _ _ _ st4 loop)
theorem qoa(hc:X.calm=true)(co:CapOk X N' scope cap)(hi:PI X tg iter wi)
  (hg:∀cl C s₀ H₀ fp,PG (jd X N' scope cl C s₀ H₀ fp) tg g) (hcs:∀cl C s₀ H₀ fp,wy (jd X N' scope cl C s₀ H₀ fp) ifs tc) (he:∀cl C s₀ H₀ fp,PE (jd X N' scope cl C s₀ H₀ fp) elt te)
  (hs:∀x,foldedSetIterable iter X.env x=pure x:=by intro _;rfl):PE X (.ListComp elt [⟨tg,iter,ifs,0⟩] scope pos) (qbk wi cap g tc te):=by
 intro pins s σ H Q I h;obtain⟨cl,ecl,c1,c2⟩:=q4d (scope:=scope) (env:=X.env) fun y hy hf=>I.ok.has y.1 (co.frees y hy hf);rw [eval_ListComp];refine g2i (use:=none) rfl hs ecl co.kind co.names (tf (hi pins s σ H _ I h) (fun v s1 h1=>tf h1 (fun itv s2 h2=>?_) fun _ _ e=>e) fun _ _ e=>e);obtain⟨it,fp,tn,J,H2,rfl,I2,T,st2,f2,h2⟩:=h2;refine qae (K:=fun p=>Q (.ref p)) (RR:=fun acc C=>compPost (model X.prog X.w) X.A X.xe none (EP X pins σ Q) acc C) hc co c1 c2 hg hcs he I2 T st2 f2 h2 ?_;intro D C s' H' hle ⟨m,hm⟩ hI hC q;exact⟨m,hm,fun h' hs'=>⟨.ref D,H',hI h' hs',rfl,q⟩⟩
end
section
variable{X:Cx}{N':List Str}{scope:Scope}{cap:List (Option Nat)}{tg iter elt:Expr}{ifs:List Expr}{wi:TI}{g:TG}{tc:TT}{te:TE}{pos:Pos}
theorem qgg{i:Nat}{x:Str}{px pe:Pos}(hc:X.calm=true)(hN:X.N.Nodup)(hx0:X.N[i]? = some x)(hx:X.env.scope.names.lookup x=some .local)(co:CapOk X N' scope cap)(hi:PI X tg iter wi)
  (hg:∀cl C s₀ H₀ fp,PG (jd X N' scope cl C s₀ H₀ fp) tg g) (hcs:∀cl C s₀ H₀ fp,wy (jd X N' scope cl C s₀ H₀ fp) ifs tc) (he:∀cl C s₀ H₀ fp,PE (jd X N' scope cl C s₀ H₀ fp) elt te)
  (hsw:swapsWith (.ListComp elt [⟨tg,iter,ifs,0⟩] scope pe) (some (.Name x px)) pos.line X.env=pure true:=by rfl)
  (hs:∀x,foldedSetIterable iter X.env x=pure x:=by intro _;rfl):PS X (.Assign [.Name x px] (.ListComp elt [⟨tg,iter,ifs,0⟩] scope pe) pos) (qqn (qbk wi cap g tc te) (q6g i)):=by
 intro pins s σ H D I h;obtain⟨cl,ecl,c1,c2⟩:=q4d (scope:=scope) (env:=X.env) fun y hy hf=>I.ok.has y.1 (co.frees y hy hf);rw [exec_Assign_Name_used _ _ _ _ hsw];refine g9 (wpAny_standAt (g9 ?_));show wpAny _ X.A (do let _ <- comprehension (.ListComp elt [⟨tg,iter,ifs,0⟩] scope pe) scope X.env _ (newList []) false (eval iter X.env) (some (assign (.Name x px) X.env))) _ _ s;refine g9 (tf (g2i (use:=some (assign (.Name x px) X.env)) (Q:=fun _ s'=>SP X pins D .next s') rfl hs ecl co.kind co.names
  (tf (hi pins s σ H _ I h) (fun v s1 h1=>tf h1 (fun itv s2 h2=>?_) fun _ _ e=>e) fun _ _ e=>e)) (fun _ s' hq=>gc (gc hq)) fun _ _ e=>e)
 obtain⟨it,fp,tn,J,H2,rfl,I2,T,st2,f2,h2⟩:=h2;refine qae (K:=fun p H'=>q6g i (.ref p) σ H' D.nx) (RR:=fun acc C=>compPost (model X.prog X.w) X.A X.xe (some (assign (.Name x px) X.env)) (fun _ s'=>SP X pins D .next s') acc C) hc co c1 c2 hg hcs he I2 T st2 f2 h2 ?_;intro Da C s' H' hle ⟨m,hm⟩ hI hC q;have I':Inv X pins σ H' s':=hI s'.heap (g1u ..);obtain⟨o,es,ep,ho,hd,hk⟩:=id hm;have hCL:C≠X.env.locals:=tu (m8 I2.lt hle);have hCf:C∉X.fs:=I2.nofs hle;have I'':Inv X (pins++[(C,o)]) σ H' s':=I'.pins_of fun p hp=>(nu.mp hp).elim (fun z=>I'.pin p (mw _ z)) fun z=>by
  obtain rfl:p=(C,o):=by simpa using z
  exact⟨ho,hC,hCL,hCf,fun v z=>by rw [hd] at z;cases z⟩
 show wpAny (model X.prog X.w) X.A (assign (.Name x px) X.env (.ref Da)) _ _ _;refine wpAny_assign_Name (q7c I'' hN hx0 (.inl hx) (v:=.ref Da) rfl (fun s'' J=>?_) (.inr hx));have hC2:s''.heap.get? C=some o:=(J.pin (C,o) (mw _ (mw _ gq))).1;refine⟨m,⟨o,es,ep,hC2,hd,hk⟩,fun h' hs'=>?_⟩;have J2:Inv X pins (σ.set i (some (.ref Da))) H' {s'' with heap:=h'}:=J.unpinned.turned (t':=s''.toks) (it:=C) (fun b ob hb e=>(hs'.2 b hb).trans e) hC hCL
  (.inr (mx I2.sz hle)) (fun y c e z=>by
   obtain⟨v,q2⟩:=I2.cell y c e;exact absurd (m8 q2.lt (by rw [z];exact hle)) (g0e _)) fun p hp z=>by
   exact absurd (m8 (gz (I2.pin p hp).1) (by rw [z];exact hle)) (g0e _)
 exact⟨_,H',J2,q⟩
end
section
variable{M:Model}{A:Around}{E:Value->Shared->Prop}{s:Shared}
theorem q5f:∀(names:List (Str×NameKind)) (n:Nat) (acc:List (Str×Addr)),cellsFrom n names acc=cellsFrom n names []++acc
 | [],_,_=>rfl
 | (x,k) :: r,n,acc=>by
  unfold cellsFrom
  split
  ·rw [q5f r (n+1) ((x,n) :: acc),q5f r (n+1) [(x,n)],mr];rfl
  ·exact q5f r n acc
theorem qc1:∀ {names:List (Str×NameKind)} {n:Nat} {acc:List (Str×Addr)} {x:Str} {c:Addr},(x,c)∈cellsFrom n names acc->(x,c)∈acc\/(x,NameKind.cell)∈names
 | [],_,_,_,_,h=>.inl h
 | (y,k) :: r,n,acc,x,c,h=>by
  unfold cellsFrom at h
  split at h
  ·rename_i hk
   have hk:k=.cell:=by simpa using hk
   subst hk;rcases qc1 h with h|h
   ·rcases m6.mp h with e|h
    ·cases e;exact .inr gq
    ·exact .inl h
   ·exact .inr (gr _ h)
  ·rcases qc1 h with h|h
   ·exact .inl h
   ·exact .inr (gr _ h)
theorem qkz{l:List (Str×Addr)}{x:Str}{c:Addr}(h:(x,c)∈l): ∃d,l.lookup x=some d:=by
 induction l with
 | nil=>cases h
 | cons p r ih=>
  obtain⟨y,d⟩:=p;rw [t5];cases q:x==y with
  | true=>exact⟨d,rfl⟩
  | false=>
   rcases m6.mp h with e|h
   ·cases e;simp at q
   ·exact ih h
theorem qc2:∀ {names:List (Str×NameKind)} {n:Nat} {acc:List (Str×Addr)} {x:Str},(x,NameKind.cell)∈names->∃c,(x,c)∈cellsFrom n names acc
 | [],_,_,_,h=>by cases h
 | (y,k) :: r,n,acc,x,h=>by
  unfold cellsFrom;rcases m6.mp h with e|h
  ·cases e
   rw [mq (show(NameKind.cell==NameKind.cell)=true from rfl),q5f];exact⟨n,mw _ gq⟩
  ·split
   ·exact qc2 h
   ·exact qc2 h
theorem qid{scope:Scope}{globals:Addr}{cl:List (Str×Addr)}{qual:Str}{outer:Env}{Q:Env->Shared->Prop}
  (hQ:Q {scope,locals:=s.heap.objs.size,globals,cells:=cellsFrom (s.heap.objs.size+1) scope.names []++cl,qual,func:=none,code:=outer.code,frame:=outer.frame,builtins:=outer.builtins} {s with heap:=pushCells (s.heap.push {cls:=.type "dict",data:=.dict #[]}) scope.names}) :
  wpAny M A (newFunctionEnv scope globals cl [] qual none .none (some outer)) Q E s:=by
 simp only [newFunctionEnv,Option.isSome_some,ny];refine g9 (wpAny_alloc ?_);refine g9 (wpAny_layCells _ (fun name kind cells=>by cases hkc:kind==NameKind.cell <;> simp [hkc]) _ _ _ _ ?_);rw [show({s with heap:=s.heap.push {cls:=.type "dict",data:=.dict #[]} }:Shared).heap.objs.size=s.heap.objs.size+1 from pd ..,q5f];rw [g2r];exact g9 (gc (gc hQ))
end
abbrev xy(X:Cx)(N':List Str)(scope:Scope)(cl:List (Str×Addr))(C:Addr)(s₀:Shared)(H₀:Hp)(fp:List Addr): Cx:=
 {X with N:=N',env:=compEnvC scope cl C X.env,s₀:=s₀,H₀:=H₀,outer:=X.stack,ex:=fp,fn:=fun x=>scope.names.lookup x==some .cell,pn:=[],xe:=fun _ _=>False}
structure CapOkC(X:Cx)(N':List Str)(scope:Scope)(cap:List (Option Nat)): Prop where
 kind:scope.kind=.function
 cells:∀y∈scope.names,y.2=.cell->scope.names.lookup y.1=some .cell
 names:∀y∈scope.names,y.2=.local->scope.names.lookup y.1=some .local
 frees:∀y∈scope.names,y.2=.free->X.env.kindOf y.1=some .cell\/X.env.kindOf y.1=some .free
 len:cap.length=N'.length
 cap:∀(i j:Nat),cap[i]? = some (some j)->∃x,N'[i]? = some x/\X.N[j]? = some x/\scope.names.lookup x=some .free
section
variable{X:Cx}{pins:List (Addr×Obj)}{σ : St}{H:Hp}{s:Shared}{N':List Str}{scope:Scope}{cap:List (Option Nat)}{cl:List (Str×Addr)}{fp:List Addr}
theorem qie(I:Inv X pins σ H s)(co:CapOkC X N' scope cap)(h1:∀x c,cl.lookup x=some c->X.env.cells.lookup x=some c)(h2:∀y∈scope.names,y.2=.free->∃c,cl.lookup y.1=some c)
  (hf:∀b∈fp,yf X pins H b) (ho:∀b∈fp,∃o,s.heap.get? b=some o) {t':Nat} :
  Inv (xy X N' scope (cellsFrom (s.heap.objs.size+1) scope.names []++cl) s.heap.objs.size s H fp) [] (q5e cap σ) H {s with heap:=pushCells (s.heap.push {cls:=.type "dict",data:=.dict #[]}) scope.names,toks:=t'}:=by
 have flt:∀b∈fp,b<s.heap.objs.size:=fun b hb=>let⟨o,e⟩:=ho b hb;gz e
 have okc:=cellsFrom_ok scope.names (s.heap.push {cls:=.type "dict",data:=.dict #[]}) (s.heap.objs.size+1) [] ⟨fun _ _ hm=>(nomatch hm),List.Pairwise.nil⟩ (by rw [pd];exact gv _);rw [pd] at okc;have hk:∀b o,s.heap.get? b=some o->(pushCells (s.heap.push {cls:=.type "dict",data:=.dict #[]}) scope.names).get? b=some o:=fun b o e=>g55 _ _ b o (gf _ e);have hn:(pushCells (s.heap.push {cls:=.type "dict",data:=.dict #[]}) scope.names).Ns s.heap.objs.size (fun _=>none):=(Heap.Ns.new s.heap (.type "dict")).keeps (g55 _ _);generalize hnw:cellsFrom (s.heap.objs.size+1) scope.names []=nw at okc;have newc:∀ {x c},nw.lookup x=some c->(x,NameKind.cell)∈scope.names/\s.heap.objs.size+1<=c:=fun {x c} e=>by
  have m:=g48 e;have m2:=m;rw [<- hnw] at m2;rcases qc1 m2 with z|z
  ·cases z
  ·exact⟨z,(okc.empty x c m).2⟩
 have hasN:∀ {x},(x,NameKind.cell)∈scope.names->∃c,nw.lookup x=some c:=fun {x} e=>by
  obtain⟨c,hc⟩:=qc2 (n:=s.heap.objs.size+1) (acc:=[]) e;rw [hnw] at hc;exact qkz hc
 have old:∀ {x c},cl.lookup x=some c->c<s.heap.objs.size:=fun {x c} e=>let⟨v,q⟩:=I.cell x c (h1 x c e);q.lt
 have cases2:∀ {x c},(nw++cl).lookup x=some c->nw.lookup x=some c\/(nw.lookup x=none/\cl.lookup x=some c):=fun {x c} e=>by
  rw [g3y] at e;cases q:nw.lookup x with
  | some d=>rw [q] at e;exact .inl e
  | none=>rw [q] at e;exact .inr ⟨rfl,e⟩
 refine⟨⟨I.ok.mod,co.kind,I.ok.glob,I.ok.blt,gv _,fun x y c e1 e2=>?_,fun x hx=>?_,fun x c z e=>?_,I.ok.hd,I.ok.frames,.inl rfl,fun b hb=>?_,I.bs,mx I.ok.bsz I.sz,fun b o e hb=>?_,fun b hb z=>?_,I.stack,I.stkFree⟩,
  rfl,I.bare,Un.kept hk,⟨_,hn,fun i x v e1 e2 e3=>?_⟩,fun x c e=>?_,I.hok.fresh (gv _),fun x c e=>?_,fun p hp=>(nomatch hp),I.hok.kept hk,?_⟩
 ·rcases cases2 e1 with a|⟨_,a⟩ <;> rcases cases2 e2 with b|⟨_,b⟩
  ·exact name_of_addr okc.apart (g48 a) (g48 b)
  ·exact absurd (m8 (old b) (g1b (newc a).2)) (g0e _)
  ·exact absurd (m8 (old a) (g1b (newc b).2)) (g0e _)
  ·exact I.ok.inj x y c (h1 x c a) (h1 y c b)
 ·have hx':(relabel scope X.env).names.lookup x=some .cell\/(relabel scope X.env).names.lookup x=some .free:=hx
  have key:(scope.names.lookup x=some .cell)\/(scope.names.lookup x=some .free):=by
   rcases hx' with q|q
   ·rcases kx q with z|⟨_,z⟩
    ·exact .inl z
    ·exact .inr z
   ·rcases kx q with z|⟨z,_⟩
    ·exact .inr z
    ·cases z
  show ∃c,(nw++cl).lookup x=some c;rw [g3y];rcases key with z|z
  ·obtain⟨c,hc⟩:=hasN (lookup_mem z)
   exact⟨c,by rw [hc];rfl⟩
  ·obtain⟨c,hc⟩:=h2 (x,.free) (lookup_mem z) rfl
   cases q:nw.lookup x with
   | some d=>exact⟨d,rfl⟩
   | none=>exact⟨c,hc⟩
 ·have z':scope.names.lookup x=some .cell:=by simpa using z
  obtain⟨d,hd⟩:=hasN (lookup_mem z');rcases cases2 e with a|⟨a,_⟩
  ·exact g1b (newc a).2
  ·rw [hd] at a;cases a
 ·obtain⟨f0,f1,f2,f3,f4,f5⟩:=hf b hb
  refine⟨md (flt b hb),fun x c e=>?_⟩;rcases cases2 e with a|⟨_,a⟩
  ·exact tu (m8 (flt b hb) (g1b (newc a).2))
  ·exact f4 x c (h1 x c a)
 ·obtain⟨f0,f1,f2,f3,f4,f5⟩:=hf b hb
  rcases f3 with z|z
  ·exact I.ok.noex b o e z
  ·exact absurd (m8 (gz e) (mx I.ok.bsz z)) (g0e _)
 ·obtain⟨f0,f1,f2,f3,f4,f5⟩:=hf b hb
  rcases m6.mp (I.stkSub b z) with q|q
  ·exact f1 q
  ·exact f2 q
 ·have e2':(cap.map fun o=>o.bind fun j=>(σ[j]?).join)[i]? = some (some v):=e2
  rw [n9] at e2';cases q:cap[i]? with
  | none=>rw [q] at e2';cases e2'
  | some o=>
   rw [q] at e2';cases o with
   | none=>cases e2'
   | some j=>
    obtain⟨y,a1,a2,a3⟩:=co.cap i j q;have e1':N'[i]? = some x:=e1;rw [a1] at e1';obtain rfl:y=x:=mh e1';have ej:(σ[j]?).join=some v:=by
     have:=e2';simp only [pb,mm,g1t] at this;exact this
    have ej' : σ[j]? = some (some v):=by
     cases z : σ[j]? with
     | none=>rw [z] at ej;cases ej
     | some u=>rw [z] at ej;simp only [g04] at ej;rw [ej]
    have kd:=co.frees (y,.free) (lookup_mem a3) rfl;obtain⟨m0,hn0,hl0⟩:=I.loc;have vis:Vis X.env.scope y:=by
     rcases kd with k|k
     ·exact .inr (.inl k)
     ·exact .inr (.inr k)
    obtain⟨u,ru,lk⟩:=hl0 j y v a2 ej' vis;refine⟨u,ru,.inr ⟨q2m a3,?_⟩⟩;obtain⟨c,hc⟩:=h2 (y,.free) (lookup_mem a3) rfl;have nn:nw.lookup y=none:=by
     cases q:nw.lookup y with
     | none=>rfl
     | some d=>
      have:=co.cells (y,.cell) (newc q).1 rfl;rw [a3] at this;cases this
    rcases lk with⟨k,_⟩|⟨_,c',hc',z⟩
    ·rcases kd with k'|k'
     ·rw [k] at k';cases k'
     ·rw [k] at k';cases k'
    ·have:=h1 _ _ hc
     rw [hc'] at this;obtain rfl:c'=c:=mh this;obtain⟨o,eo,ed⟩:=z;exact⟨c',by show(nw++cl).lookup y=_;rw [g3y,nn];exact hc,o,hk _ _ eo,ed⟩
 ·rcases cases2 e with a|⟨_,a⟩
  ·exact⟨none,(okc.empty x c (g48 a)).1⟩
  ·obtain⟨v,o,eo,ed⟩:=I.cell x c (h1 x c a)
   exact⟨v,o,hk _ _ eo,ed⟩
 ·rcases cases2 e with a|⟨_,a⟩
  ·exact I.hok.fresh (g1b (newc a).2)
  ·exact I.freeC x c (h1 x c a)
 ·show(cap.map _).length=N'.length
  rw [mv];exact co.len
theorem qef{N':List Str}{C:Addr}{H':Hp}{s':Shared}{σ':St}{h':Heap}(I:Inv X pins σ H s)(hf:∀b∈fp,yf X pins H b)(J:Inv (xy X N' scope cl C s H fp) [] σ' H' s')(hs:Heap.SameBut C s'.heap h'):
  Inv X pins σ H' {s' with heap:=h'}:=by
 have hC:s.heap.objs.size<=C:=J.ok.above;have kp:∀b o,b≠C->s'.heap.get? b=some o->h'.get? b=some o:=fun b o hb e=>(hs.2 b hb).trans e;have hC0:H' C=none:=J.free;have un:Un (frs X.stack) fp H H' s.heap h':=by
  have u:Un (frs X.stack) fp H H' s.heap s'.heap:=J.base;have neC:∀b o,s.heap.get? b=some o->b≠C:=fun b o e=>md (m8 (gz e) hC);exact⟨fun b o e n h1 h2=>kp b o (neC b o e) (u.keep b o e n h1 h2),fun b o e n h1 h2=>let⟨sl,q⟩:=u.slot b o e n h1 h2; ⟨sl,kp b _ (neC b o e) q⟩,u.free,fun b o e h=>let⟨o',q⟩:=u.there b o e h; ⟨o',kp b o' (neC b o e) q⟩,u.tups,u.frzs,u.tbls⟩
 have hok:HOk X.prog X.w H' h':=fun b u e=>by
  refine(J.hok b u e).stay (fun c v hc q=>kp c v ?_ q) (fun _ q=>q) fun _ _ q=>q;rcases hc with z|z
  ·rw [z];intro z2;rw [z2,hC0] at e;cases e
  ·intro z2;rw [z2,hC0] at z;cases z
 exact I.call' (s':={s' with heap:=h'}) (ch:=fp) J.os un hok J.bare fun b hb=>by
  obtain⟨f0,f1,f2,f3,f4,f5⟩:=hf b hb;exact⟨f3,f1,f4,f5⟩
end
section
variable{X:Cx}{N':List Str}{scope:Scope}{cap:List (Option Nat)}{tg iter elt:Expr}{ifs:List Expr}{wi:TI}{g:TG}{tc:TT}{te:TE}{pos:Pos}
theorem qgh{cl:List (Str×Addr)}{pins:List (Addr×Obj)}{s:Shared}{σ : St}{H:Hp}{it:Addr}{fp:List Addr}{tn:Nat->Heap->Prop}{J:It}{E:Value->Shared->Prop}{K:Addr->Hp->Prop}
  {RR:Value->Addr->Result->Shared->Prop} (hc:X.calm=true) (co:CapOkC X N' scope cap)
  (h1:∀x c,cl.lookup x=some c->X.env.cells.lookup x=some c) (h2:∀y∈scope.names,y.2=.free->∃c,cl.lookup y.1=some c)
  (hg:∀cl C s₀ H₀ fp,PG (xy X N' scope cl C s₀ H₀ fp) tg g) (hcs:∀cl C s₀ H₀ fp,wy (xy X N' scope cl C s₀ H₀ fp) ifs tc) (he:∀cl C s₀ H₀ fp,PE (xy X N' scope cl C s₀ H₀ fp) elt te)
  (I:Inv X pins σ H s) (T:Turn X.prog X.w X.K tg J fp it tn) (st:tn 0 s.heap) (hf:∀b∈fp,yf X pins H b) (h:∀p,H p=none->qky J cap g tc te σ H p (K p))
  (hRR:∀(D C:Addr) (s':Shared) (H':Hp),s.heap.objs.size<=C->(∃m,s'.heap.Ns C m)->(∀h',Heap.SameBut C s'.heap h'->Inv X pins σ H' {s' with heap:=h'})->H' C=none->K D H'->RR (.ref D) C (.ok .next) s') :
  wpAny (model X.prog X.w) X.A (newList []) (fun acc s₃=>wpAny (model X.prog X.w) X.A (newFunctionEnv scope X.env.globals cl [] X.env.qual none .none (some X.env)) (fun cenv s₄=>
   codeAny (model X.prog X.w) X.A (.compStart (.ListComp elt [⟨tg,iter,ifs,0⟩] scope pos) 0 (.ref it) acc {cenv with scope:=relabel scope X.env}) (RR acc cenv.locals) s₄) E s₃) E s:=by
 refine uj (qid ?_);have hD:H s.heap.objs.size=none:=I.fresh;have I3:Inv X pins σ (upd H s.heap.objs.size (.lst [])) {s with heap:=s.heap.push {cls:=.type "list",dict:=none,data:=.seq ([]:List Value).toArray} }:=I.lnew (ys:=[]) (its:=[]) (t':=s.toks) .nil (g03 _);obtain⟨W,⟨m0,w0⟩,turn⟩:=h s.heap.objs.size hD;have fobj:∀b∈fp,∃o,s.heap.get? b=some o:=fun b hb=>let⟨o,e,_⟩:=T.obj 0 _ st b hb; ⟨o,e⟩
 generalize e3:({s with heap:=s.heap.push {cls:=.type "list",dict:=none,data:=.seq ([]:List Value).toArray} }:Shared)=s3 at I3;have es3:s3.heap=s.heap.push {cls:=.type "list",dict:=none,data:=.seq ([]:List Value).toArray}:=by rw [<- e3]
 have eC:(s.heap.push {cls:=.type "list",dict:=none,data:=.seq ([]:List Value).toArray}).objs.size=s3.heap.objs.size:=by rw [es3]
 have hf3:∀b∈fp,yf X pins (upd H s.heap.objs.size (.lst [])) b:=fun b hb=>by
  obtain⟨f0,f1⟩:=hf b hb;obtain⟨o,e⟩:=fobj b hb;exact⟨by rw [qk (md (gz e))];exact f0,f1⟩
 generalize ehh:pushCells (s3.heap.push {cls:=.type "dict",data:=.dict #[]}) scope.names=hh;have ehh3:hh=pushCells (s3.heap.push {cls:=.type "dict",data:=.dict #[]}) scope.names:=ehh.symm;have kp:∀b o,s3.heap.get? b=some o->hh.get? b=some o:=fun b o e=>by rw [ehh3];exact g55 _ _ b o (gf _ e)
 have hle:s.heap.objs.size<=s3.heap.objs.size:=by rw [es3,pd];exact g29 _
 have s3e:∀t:Nat,({s with heap:=hh,toks:=t}:Shared) = {s3 with heap:=hh,toks:=t}:=fun t=>by rw [<- e3]
 have I4:Inv (xy X N' scope (cellsFrom (s3.heap.objs.size+1) scope.names []++cl) s3.heap.objs.size s3 (upd H s.heap.objs.size (.lst [])) fp) [] (q5e cap σ) (upd H s.heap.objs.size (.lst [])) {s3 with heap:=hh,toks:=s.toks}:=by
  rw [ehh3];exact qie I3 co h1 h2 hf3 (fun b hb=>let⟨o,e⟩:=fobj b hb; ⟨o,by rw [es3];exact gf _ e⟩)
 have st4:tn 0 hh:=T.keep 0 _ _ st fun b hb o e=>kp b o (by rw [es3];exact gf _ e);have etk:s3.toks=s.toks:=by rw [<- e3]
 show codeAny (model X.prog X.w) X.A (.compStart (.ListComp elt [⟨tg,iter,ifs,0⟩] scope pos) 0 (.ref it) (.ref s.heap.objs.size) (compEnvC scope (cellsFrom (s3.heap.objs.size+1) scope.names []++cl) s3.heap.objs.size X.env)) (RR (.ref s.heap.objs.size) s3.heap.objs.size)
  {s3 with heap:=hh,toks:=s3.toks}
 rw [etk];generalize eX:xy X N' scope (cellsFrom (s3.heap.objs.size+1) scope.names []++cl) s3.heap.objs.size s3 (upd H s.heap.objs.size (.lst [])) fp=X' at I4;have hg':PG X' tg g:=by rw [<- eX];exact hg _ _ _ _ _
 have hcs':wy X' ifs tc:=by rw [<- eX];exact hcs _ _ _ _ _
 have he':PE X' elt te:=by rw [<- eX];exact he _ _ _ _ _
 have eenv:X'.env=compEnvC scope (cellsFrom (s3.heap.objs.size+1) scope.names []++cl) s3.heap.objs.size X.env:=by rw [<- eX]
 have exe:X'.xe=fun _ _=>False:=by rw [<- eX]
 have eex:X'.ex=fp:=by rw [<- eX]
 have eprog:X'.prog=X.prog:=by rw [<- eX]
 have ew:X'.w=X.w:=by rw [<- eX]
 have eK:X'.K=X.K:=by rw [<- eX]
 have eA:X'.A=X.A:=by rw [<- eX]
 have ecalm:X'.calm=true:=by rw [<- eX];exact hc
 have epn:X'.pn=[]:=by rw [<- eX]
 have eloc:X'.env.locals=s3.heap.objs.size:=by rw [eenv];rfl
 have ok':=I4.ok;have stat:∀ {H':Hp},(∀b∈fp,H' b=none)->∀b∈fp,yf X' [] H' b:=fun hn b hb=>by
  have hbx:b∈X'.ex:=by rw [eex];exact hb
  exact⟨hn b hb,(ok'.exf b hbx).1,ok'.exfs b hbx,.inl hbx,(ok'.exf b hbx).2,fun p hp=>by rw [epn] at hp;cases hp⟩
 have back:∀ {σ':St} {H':Hp} {s':Shared},Inv X' [] σ' H' s'->K s.heap.objs.size H'->RR (.ref s.heap.objs.size) s3.heap.objs.size (.ok .next) s':=fun {σ' H' s'} J' k=>by
  refine hRR _ _ _ H' hle ?_ (fun h' hs'=>?_) ?_ k
  ·obtain⟨m,hm,_⟩:=J'.loc
   exact⟨m,by rw [<- eloc];exact hm⟩
  ·rw [<- eX] at J'
   exact qef I3 hf3 J' hs'
  ·rw [<- eloc];exact J'.free
 have loop:codeAny (model X.prog X.w) X.A (.compLoop (.ListComp elt [⟨tg,iter,ifs,0⟩] scope pos) 0 (.ref it) (.ref s.heap.objs.size) (compEnvC scope (cellsFrom (s3.heap.objs.size+1) scope.names []++cl) s3.heap.objs.size X.env)) (RR (.ref s.heap.objs.size) s3.heap.objs.size)
   {s3 with heap:=hh,toks:=s.toks}:=by
  refine q71 (fun n s'=>∃i σ' H',Inv X' [] σ' H' s'/\tn i s'.heap/\(∀b∈fp,H' b=none)/\W i n σ' H') ?_ m0 ⟨0,_,_,I4,st4,fun b hb=>(hf3 b hb).1,w0⟩
  rintro n s5 ⟨i, σ5,H5,I5,st5,fr5,w5⟩
  rw [<- eenv];rcases turn i n σ5 H5 w5 with⟨stop,qn⟩|⟨go,step⟩
  ·have:=T.done X' eprog ew eK ecalm i [] s5 σ5 H5 (fun _ _=>False) I5 (stat fr5) st5 stop
   rw [eA] at this;refine thn this fun r s6 ⟨hr,I6⟩=>?_;subst hr;exact back I6 qn
  ·have:=T.item X' eprog ew eK ecalm i [] s5 σ5 H5 (fun _ _=>False) I5 (stat fr5) st5 go
   rw [eA] at this;refine thn this fun r s6 ⟨u,hr,h6⟩=>?_;subst hr;refine thn h6 fun _ s7 ⟨x,H7,I7,r7,y7,st7,fr7⟩=>?_;have I7':=I7.pinned (stat fr7) (T.obj _ _ st7);have hg2:=hg' _ s7 σ5 H7 x u _ I7' r7 (step x H7 y7);rw [exe,eprog,ew,eA] at hg2;refine thn hg2 fun _ s8 ⟨σ8,H8,I8,q8⟩=>?_;have hc2:=hcs' _ s8 σ8 H8 _ I8 q8;rw [exe,eprog,ew,eA] at hc2;refine thn hc2 fun ok s9 ⟨H9,I9,q9⟩=>?_;have again:∀ {H':Hp} {s':Shared} {m':Nat},Inv X' ([]++q1j fp s7.heap) σ8 H' s'->m'<n->W (i+1) m' σ8 H'->∃m,m<n/\∃i σ' H',Inv X' [] σ' H' s'/\tn i s'.heap/\(∀b∈fp,H' b=none)/\W i m σ' H':=fun {H' s' m'} J' hm w'=>by
    refine⟨m',hm,i+1, σ8,H',J'.unpinned,T.keep _ _ _ st7 fun b hb o e=>(J'.pin (b,o) (mw _ (mw _ (wd hb e)))).1,fun b hb=>?_,w'⟩;obtain⟨o,e,d⟩:=T.obj _ _ st7 b hb;exact(J'.pin (b,o) (mw _ (mw _ (wd hb e)))).2.1
   cases ok with
   | false=>
    rw [mj m9] at q9 ⊢;obtain⟨m',hm,w'⟩:=q9;exact again I9 hm w'
   | true=>
    rw [mq rfl] at q9 ⊢;have he2:=he' _ s9 σ8 H9 _ I9 q9;rw [exe,eprog,ew,eA] at he2;refine thn he2 fun y s10 ⟨yv,H10,I10,r10,xs,hp,hz,m',hm,w'⟩=>?_;have ha2:=q5d (X:=X') ([]++q1j fp s7.heap) s10 σ8 H10 (.ref s.heap.objs.size) [yv] (.ref s.heap.objs.size) [y] (fun _ H'=>H'=upd H10 s.heap.objs.size (.lst (xs++[yv]))) I10 rfl (.cons r10 .nil) ⟨_,xs,yv,rfl,rfl,hp,hz,rfl⟩;rw [exe,eprog,ew,eA] at ha2;refine thn ha2 fun _ s11 ⟨_,H11,I11,_,e11⟩=>?_;subst e11;exact again I11 hm w'
 exact codeAny_compStart_list loop (T.self _ 0 _ _ _ st4 loop)
theorem ql0(hc:X.calm=true)(co:CapOkC X N' scope cap)(hi:PI X tg iter wi)
  (hg:∀cl C s₀ H₀ fp,PG (xy X N' scope cl C s₀ H₀ fp) tg g) (hcs:∀cl C s₀ H₀ fp,wy (xy X N' scope cl C s₀ H₀ fp) ifs tc) (he:∀cl C s₀ H₀ fp,PE (xy X N' scope cl C s₀ H₀ fp) elt te)
  (hs:∀x,foldedSetIterable iter X.env x=pure x:=by intro _;rfl):PE X (.ListComp elt [⟨tg,iter,ifs,0⟩] scope pos) (qbk wi cap g tc te):=by
 intro pins s σ H Q I h;obtain⟨cl,ecl,c1,c2⟩:=q4d (scope:=scope) (env:=X.env) fun y hy hf=>I.ok.has y.1 (co.frees y hy hf);rw [eval_ListComp];refine g2i (use:=none) rfl hs ecl co.kind co.names (tf (hi pins s σ H _ I h) (fun v s1 h1=>tf h1 (fun itv s2 h2=>?_) fun _ _ e=>e) fun _ _ e=>e);obtain⟨it,fp,tn,J,H2,rfl,I2,T,st2,f2,h2⟩:=h2;refine qgh (K:=fun p=>Q (.ref p)) (RR:=fun acc C=>compPost (model X.prog X.w) X.A X.xe none (EP X pins σ Q) acc C) hc co c1 c2 hg hcs he I2 T st2 f2 h2 ?_;intro D C s' H' hle ⟨m,hm⟩ hI hC q;exact⟨m,hm,fun h' hs'=>⟨.ref D,H',hI h' hs',rfl,q⟩⟩
end
end L2
namespace DL
open PySem PySem.Spec PyProof.Rows L2
structure ExcC(K:PySem.W.Frag)(D:Addr): Prop where
 ga:PySem.W.findIn K (.ref D) "__getattribute__" = some (some (.builtin "BaseException.__getattribute__"))
 gk:PySem.W.findIn K (.ref D) "__getattr__" = some none
 cc:PySem.W.findIn K (.ref D) "__class__" = some (some (.builtin "object.__class__"))
 cs:PySem.W.specialIn K (.builtin "object.__class__") "__get__" = some (some (.builtin "getset_descriptor.__get__"))
 ct:PySem.W.takesIn K (.builtin "object.__class__")=some true
 cm:PySem.W.mroIn K D (.type "object")=some true
 cb:PySem.W.mroIn K D (.type "BaseException")=some true
section
variable{prog:Program}{w:World}{A:Around}{E:Value->Shared->Prop}{K:PySem.W.Frag}{s:Shared}{x D:Addr}{ox:Obj}
open PySem.W in
theorem qfb(c:ExcC K D): (clsIn K D).isSome=true:=by
 have:=c.cm;unfold mroIn at this;cases q:clsIn K D with
 | none=>rw [q] at this;cases this
 | some cd=>rfl
def XE(a C:Addr)(h:Heap): Prop:=∃o vs,h.get? a=some o/\o.cls=.ref C/\o.data=.fields vs
open PySem.W in
theorem q3u{M:Model}{a C:Addr}{h:Heap}(e:XE a C h): Looks M h (typeOf (.ref a)) (.ref C):=by
 obtain⟨o,vs,e1,e2,e3⟩:=e;exact e2 ▸ (Looks.ld e1).andThen .now
open PySem.W Builtin.ObjectAttr in
theorem qob{M:Model}{h:Heap}(c:ExcC K D)(X:K.In h): Looks M h (find (.ref x) (.ref D) "__class__") (.bind (.builtin "getset_descriptor.__get__") (.builtin "object.__class__")):=by
 refine(looks_findIn (M:=M) X c.cc).andThen ((looks_specialIn (M:=M) X c.cs).andThen ?_);exact(show Looks M h (dataDescriptor? (some (.builtin "object.__class__")) (some (.builtin "getset_descriptor.__get__"))) (some (.builtin "getset_descriptor.__get__",.builtin "object.__class__")) from(looks_takesIn (M:=M) X c.ct).andThen .now).andThen (Looks.tag .now)
open PySem.W Builtin Builtin.ObjectAttr Builtin.Getset_descriptor in
theorem qr7{tp:Value}{R:Result->Shared->Prop}(c:ExcC K D)(X:K.In s.heap)(I:XE x D s.heap)(h:R (.ok (.ret (.ref D))) s):
  codeAny (model prog w) A (.call (.builtin "getset_descriptor.__get__") ⟨[.builtin "object.__class__",.ref x,tp],[]⟩) R s:=by
 obtain⟨hh,g,dr,t,os⟩:=s;have L0:=q3u (M:=model prog w) I;have L1:=looks_mroIn (M:=model prog w) X c.cm;refine g25 KF.slot_gs.plain KF.entry_gs (KF.slot_gs.check _ _ _ _ _ _ _ _ KF.type_class (KF.args_gs _ _ _) ?_);unfold Builtin.«getset_descriptor.__get__» descrGet;rw [dga_obj];refine g9 (gc ?_);unfold descrGetter descrCheckInstance descrNameAndClass isInstance;simp only [KF.owner_class]
 repeat lk
 refine⟨Code.quiet_builtin _ (by decide +kernel),g0q KF.entry_class ?_⟩;unfold Builtin.«object.__class__» shownTypeOf
 repeat lk
 exact h
open PySem.W in
theorem ql1{tk:Tok}{Q:Fin->Shared->Prop}(c:ExcC K D)(X:K.In s.heap)(I:XE x D s.heap)(hq:Q (.done (.ret (.ref D))) s):
  wpAny (model prog w) A (Builtin.«object.__getattribute__» ⟨[.ref x,.str "__class__" tk],[]⟩) Q E s:=by
 obtain⟨hh,g,dr,t,os⟩:=s;have L0:=q3u (M:=model prog w) I;have L1:=qob (x:=x) (M:=model prog w) c X;unfold Builtin.«object.__getattribute__»;refine g9 (gc (g9 (gc (g9 (L0.at (g9 (L1.at ?_)))))));show wpAny _ _ (Builtin.ObjectAttr.bindTo _ _ _ _) _ _ _;unfold Builtin.ObjectAttr.bindTo;refine g9 (ug (g3c (qr7 c X I ?_)));exact gc hq
open PySem.W in
theorem ql2{M:Model}{nameV:Value}{Q:Unit->Shared->Prop}(c:ExcC K D)(X:K.In s.heap)(I:XE x D s.heap)(hq:Q () s): wpAny M A (checkBuiltinCall "BaseException.__getattribute__" ⟨[.ref x,nameV],[]⟩) Q E s:=by
 obtain⟨hh,g,dr,t,os⟩:=s;have L0:=q3u (M:=M) I;have L1:=looks_mroIn (M:=M) X c.cb;have hk:builtinKind "BaseException.__getattribute__" = some .slot:=by decide +kernel
 have hsplit:splitId "BaseException.__getattribute__" = some ("BaseException","__getattribute__"):=by decide +kernel
 have ha:=F.args_bexc_ga (.ref x) nameV;simp only [checkBuiltinCall,hk,hsplit];refine g9 ?_;unfold isInstance;refine g9 (L0.at (L1.at ?_))
 repeat (first|wp_step)
 exact hq
open PySem.W in
theorem ql3{Q:Option Value->Shared->Prop}(c:ExcC K D)(X:K.In s.heap)(I:XE x D s.heap)(h:Q (some (.ref D)) {s with toks:=s.toks+1}): wpAny (model prog w) A (getAttr? (.ref x) "__class__") Q E s:=by
 obtain⟨hh,g,dr,t,os⟩:=s;have L0:=q3u (M:=model prog w) I;have L1:=looks_findIn (M:=model prog w) X c.ga;have L2:=looks_findIn (M:=model prog w) X c.gk;have f3:=g3z.ga.bind (.ref x);unfold getAttr? getAttrBy? getAttrBy;refine g9 (wpAny_mkText (g9 (g0t (ug (g9 (L0.at (g9 (L1.at ?_))))))));show wpAny _ _ (getAttrByItsOwn _ _ _ _ _ _) _ _ _;unfold getAttrByItsOwn hookBefore;rw [mq (show onTheHeap (Value.ref D)=true from rfl)];refine g9 (L2.at ?_);refine g9 (g0t (ug ?_));unfold callGetattribute boundAndCalled;rw [mj (by decide)];rw [f3];refine g9 (gc ?_);refine g3c (g25 g3z.ga.plain F.entry_bexc_ga (ql2 c X I (ql1 c X I ?_)));dsimp only;exact handed_on rfl (gc h)
theorem ql4(c:ExcC K D): PySem.W.KitX K (.ref x) (.ref D) (XE x D) where
 ty:=fun M h _ e=>q3u e
 it:=fun _ _ X _=>by
  obtain⟨cdD,hcD⟩:=g0v.mp (qfb c);unfold PySem.W.clsIn at hcD
  split at hcD
  ·rename_i c' d' cd' sl' ho
   intro A' Q' E' s' k q;unfold isType loadHead;exact g9 (wpAny_loadPart (k _ _ (X _ _ ho)) (gc q))
  ·cases hcD
 ne:=fun h tp dd its n sl X htp=>by
  obtain⟨cdD,hcD⟩:=g0v.mp (qfb c);refine Bool.eq_false_iff.mpr fun q=>?_;have e:D=tp:=Value.ref.inj (g24.mp q);subst e;unfold PySem.W.clsIn at hcD
  split at hcD
  ·rename_i c' d' cd' sl' ho
   have z:=(X _ _ ho).symm.trans htp;cases z
  ·cases hcD
 ca:=fun X e k=>ql3 c X e k
end
def qr8(K:PySem.W.Frag)(C:Addr): Prop:=ExcC K C/\∀T:String,T∈["int","bool","tuple","list","str","dict"]->PySem.W.kitOne K (.ref C) (.type T)=some false
inductive D where
 | non
 | bl (b:Bool)
 | int (i:Int)
 | str (x:Str)
 | tup (ds:List D)
 | lst (ds:List D)
 | dct (ks:List Key) (vs:List D)
 | dtt (ks:List (List Int)) (vs:List D)
 | obj (x:Str)
 | exc (x:Str)
abbrev Frag:=PySem.W.Frag
abbrev St:=L2.St
def ql5(K:Frag)(C:Addr): Prop:=PySem.W.plainGet K C "__class__" = true/\PySem.W.hasDictIn K C=true/\PySem.W.findIn K (.ref C) "__class__" = some (some (.builtin "object.__class__")) /\
 PySem.W.specialIn K (.builtin "object.__class__") "__get__" = some (some (.builtin "getset_descriptor.__get__"))/\PySem.W.takesIn K (.builtin "object.__class__")=some true/\PySem.W.mroIn K C (.type "object")=some true /\
 ∀T:String,T∈["int","bool","tuple","list","str","dict"]->PySem.W.kitOne K (.ref C) (.type T)=some false
def qul(x:List Int×Addr×Value): DictEntry:=⟨reduceHash (Builtin.Tuple.tupleHashOf (x.1.map hashInt)),.ref x.2.1,x.2.2⟩
def DE(a:Addr)(xs:List (List Int×Addr×Value))(ep:Nat)(h:Heap): Prop:=∃o es,h.get? a=some o/\o.ExactDict/\o.data=.dict es ep/\es.toList=xs.map qul
mutual
/-- v stands for the datum in the heap H -/
def Rep(K:Frag)(H:Hp): D->V->Prop
 | .non,v=>v=.non
 | .bl b,v=>v=.bl b
 | .int i,v=>v=.int i
 | .str x,v=>v=.str x
 | .tup ds,v=>∃a xs,v=.ref a/\SqT K H a xs/\RepL K H ds xs
 | .lst ds,v=>∃a xs,v=.ref a/\SqL K H a xs/\RepL K H ds xs
 | .dct ks vs,v=>∃a xs,v=.ref a/\H a=some (.dK (ks.zip xs))/\ks.length=xs.length/\RepL K H vs xs
 | .dtt ks vs,v=>∃a xs ys ep,v=.ref a/\H a=some (.ext (DE a xs ep))/\xs.map (·.1)=ks/\ks.Nodup/\xs.length<=sizeLine/\(a==sysModules)=false/\(∀x∈xs,SqT K H x.2.1 (x.1.map V.int))/\Vals ys (xs.map fun x=>x.2.2)/\RepL K H vs ys
 | .obj x,v=>∃a dx C,v=.ref a/\H a=some (.ins C dx [])/\PySem.W.nsIn K mainGlobals x=some (some (.ref C))/\ql5 K C
 | .exc x,v=>∃a C,v=.ref a/\H a=some (.ext (XE a C))/\PySem.W.nsIn K mainGlobals x=some (some (.ref C))/\qr8 K C
def RepL(K:Frag)(H:Hp): List D->List V->Prop
 | [],xs=>xs=[]
 | d :: ds,xs=>∃x r,xs=x :: r/\Rep K H d x/\RepL K H ds r
end
theorem ql{K:Frag}{H H':Hp}{a:Addr}{xs:List V}(e:Same H H')(h:SqT K H a xs): SqT K H' a xs:=by
 rcases h with(h|⟨o,h⟩)|h
 ·exact .inl (.inl (e _ _ h))
 ·exact .inl (.inr ⟨o,e _ _ h⟩)
 ·exact .inr h
mutual
theorem Rep.mono{K:Frag}{H H':Hp}(e:Same H H'): ∀ {d:D} {v:V},Rep K H d v->Rep K H' d v
 | .non,v,h=>by simpa only [Rep] using h
 | .bl b,v,h=>by simpa only [Rep] using h
 | .int i,v,h=>by simpa only [Rep] using h
 | .str x,v,h=>by simpa only [Rep] using h
 | .tup ds,v,h=>by
  simp only [Rep] at h ⊢;obtain⟨a,xs,e1,e2,e3⟩:=h;exact⟨a,xs,e1,ql e e2,RepL.mono e e3⟩
 | .lst ds,v,h=>by
  simp only [Rep] at h ⊢;obtain⟨a,xs,e1,e2,e3⟩:=h;exact⟨a,xs,e1,e.seq e2,RepL.mono e e3⟩
 | .dct ks vs,v,h=>by
  simp only [Rep] at h ⊢;obtain⟨a,xs,e1,e2,e3,e4⟩:=h;exact⟨a,xs,e1,e _ _ e2,e3,RepL.mono e e4⟩
 | .dtt ks vs,v,h=>by
  simp only [Rep] at h ⊢;obtain⟨a,xs,ys,ep,e1,e2,e3,e4,e5,e6,e7,e8,e9⟩:=h;exact⟨a,xs,ys,ep,e1,e _ _ e2,e3,e4,e5,e6,fun x hx=>ql e (e7 x hx),e8,RepL.mono e e9⟩
 | .obj x,v,h=>by
  simp only [Rep] at h ⊢;obtain⟨a,dx,C,e1,e2,e3⟩:=h;exact⟨a,dx,C,e1,e _ _ e2,e3⟩
 | .exc x,v,h=>by
  simp only [Rep] at h ⊢;obtain⟨a,C,e1,e2,e3⟩:=h;exact⟨a,C,e1,e _ _ e2,e3⟩
theorem RepL.mono{K:Frag}{H H':Hp}(e:Same H H'): ∀ {ds:List D} {xs:List V},RepL K H ds xs->RepL K H' ds xs
 | [],xs,h=>by simpa only [RepL] using h
 | d :: ds,xs,h=>by
  simp only [RepL] at h ⊢;obtain⟨x,r,e1,e2,e3⟩:=h;exact⟨x,r,e1,Rep.mono e e2,RepL.mono e e3⟩
end
section
variable{K:Frag}{H:Hp}
theorem RepL.nil:RepL K H [] []:=by simp only [RepL]
theorem RepL.cons{d:D}{ds:List D}{x:V}{xs:List V}(h:Rep K H d x)(t:RepL K H ds xs): RepL K H (d :: ds) (x :: xs):=by
 simp only [RepL];exact⟨x,xs,rfl,h,t⟩
theorem RepL.nil_inv{xs:List V}(h:RepL K H [] xs): xs=[]:=by simpa only [RepL] using h
theorem RepL.cons_inv{d:D}{ds:List D}{xs:List V}(h:RepL K H (d :: ds) xs): ∃x r,xs=x :: r/\Rep K H d x/\RepL K H ds r:=by simpa only [RepL] using h
theorem RepL.length:∀ {ds:List D} {xs:List V},RepL K H ds xs->ds.length=xs.length
 | [],xs,h=>by rw [h.nil_inv];rfl
 | d :: ds,xs,h=>by
  obtain⟨x,r,rfl,_,t⟩:=h.cons_inv;simp [RepL.length t]
theorem RepL.append:∀ {ds es:List D} {xs ys:List V},RepL K H ds xs->RepL K H es ys->RepL K H (ds++es) (xs++ys)
 | [],es,xs,ys,h,t=>by rw [h.nil_inv];exact t
 | d :: ds,es,xs,ys,h,t=>by
  obtain⟨x,r,rfl,h1,h2⟩:=h.cons_inv;exact .cons h1 (RepL.append h2 t)
theorem RepL.get:∀ {ds:List D} {xs:List V} {i:Nat} {d:D},RepL K H ds xs->ds[i]? = some d->∃x,xs[i]? = some x/\Rep K H d x
 | [],xs,i,d,h,e=>by simp at e
 | d :: ds,xs,0,d',h,e=>by
  obtain⟨x,r,rfl,h1,h2⟩:=h.cons_inv;simp at e;subst e;exact⟨x,rfl,h1⟩
 | d :: ds,xs,i+1,d',h,e=>by
  obtain⟨x,r,rfl,h1,h2⟩:=h.cons_inv;obtain⟨y,e1,e2⟩:=RepL.get (i:=i) h2 (by simpa using e);exact⟨y,by simpa using e1,e2⟩
theorem RepL.take:∀ {ds:List D} {xs:List V} (n:Nat),RepL K H ds xs->RepL K H (ds.take n) (xs.take n)
 | _,_,0,_=>by simp only [List.take_zero];exact .nil
 | [],xs,n+1,h=>by rw [h.nil_inv];exact .nil
 | d :: ds,xs,n+1,h=>by
  obtain⟨x,r,rfl,h1,h2⟩:=h.cons_inv;exact .cons h1 (RepL.take n h2)
theorem RepL.drop:∀ {ds:List D} {xs:List V} (n:Nat),RepL K H ds xs->RepL K H (ds.drop n) (xs.drop n)
 | ds,xs,0,h=>by simpa only [g3s] using h
 | [],xs,n+1,h=>by rw [h.nil_inv];exact .nil
 | d :: ds,xs,n+1,h=>by
  obtain⟨x,r,rfl,h1,h2⟩:=h.cons_inv;exact RepL.drop n h2
theorem RepL.ints:∀ {ns:List Int} {xs:List V},RepL K H (ns.map D.int) xs↔xs=ns.map V.int
 | [],xs=>by simp only [g0i,RepL]
 | n :: ns,xs=>by
  simp only [gu,RepL]
  constructor
  ·rintro⟨x,r,rfl,h1,h2⟩
   simp only [Rep] at h1;rw [h1,RepL.ints.mp h2]
  ·rintro rfl
   exact⟨_,_,rfl,by simp only [Rep],RepL.ints.mpr rfl⟩
theorem rep_int{i:Int}{v:V}: Rep K H (.int i) v↔v=.int i:=by simp only [Rep]
theorem rep_bl{i:Bool}{v:V}: Rep K H (.bl i) v↔v=.bl i:=by simp only [Rep]
theorem rep_str{i:Str}{v:V}: Rep K H (.str i) v↔v=.str i:=by simp only [Rep]
theorem rep_non{v:V}: Rep K H .non v↔v=.non:=by simp only [Rep]
theorem rep_tup{ds:List D}{v:V}: Rep K H (.tup ds) v↔∃a xs,v=.ref a/\SqT K H a xs/\RepL K H ds xs:=by simp only [Rep]
theorem rep_lst{ds:List D}{v:V}: Rep K H (.lst ds) v↔∃a xs,v=.ref a/\SqL K H a xs/\RepL K H ds xs:=by simp only [Rep]
theorem rep_dct{ks:List Key}{vs:List D}{v:V}: Rep K H (.dct ks vs) v↔∃a xs,v=.ref a/\H a=some (.dK (ks.zip xs))/\ks.length=xs.length/\RepL K H vs xs:=by simp only [Rep]
theorem rep_dtt{ks:List (List Int)}{vs:List D}{v:V}: Rep K H (.dtt ks vs) v↔∃a xs ys ep,v=.ref a/\H a=some (.ext (DE a xs ep))/\xs.map (·.1)=ks/\ks.Nodup/\xs.length<=sizeLine/\(a==sysModules)=false/\(∀x∈xs,SqT K H x.2.1 (x.1.map V.int))/\Vals ys (xs.map fun x=>x.2.2)/\RepL K H vs ys:=by simp only [Rep]
theorem rep_exc{x:Str}{v:V}: Rep K H (.exc x) v↔∃a C,v=.ref a/\H a=some (.ext (XE a C))/\PySem.W.nsIn K mainGlobals x=some (some (.ref C))/\qr8 K C:=by simp only [Rep]
theorem rep_obj{x:Str}{v:V}: Rep K H (.obj x) v↔∃a dx C,v=.ref a/\H a=some (.ins C dx [])/\PySem.W.nsIn K mainGlobals x=some (some (.ref C))/\ql5 K C:=by simp only [Rep]
end
class Lam where
 tab:List (Addr×Str)
variable[Lam]
def Tab(H:Hp): Prop:=∀p∈Lam.tab,∃ps,H p.1=some (.tbl ps)/\TriplesOk ps.toList/\∀pos cv,codeAmong pos ps.toList=some cv->∃c φ,cv=.ref c/\H c=some (.ext φ)/\∀h, φ h->h.CodeRec (.ref c) p.2
def ql6(F:Hp): Prop:=∀p∈Lam.tab,F p.1=none
theorem Tab.updG{H:Hp}(t:Tab H){p:Addr}{o:HO}(h:∀u,H p=some u->(∀ps,u ≠ .tbl ps)/\∀ φ,u ≠ .ext φ): Tab (upd H p o):=fun q hq=>by
 obtain⟨ps,e,ht,k⟩:=t q hq;refine⟨ps,by rw [qk (fun z=>by subst z;exact(h _ e).1 ps rfl)];exact e,ht,fun pos cv z=>?_⟩;obtain⟨c, φ,e1,e2,e3⟩:=k pos cv z;exact⟨c, φ,e1,by rw [qk (fun z=>by subst z;exact(h _ e2).2 φ rfl)];exact e2,e3⟩
theorem Tab.upd{H:Hp}(t:Tab H){p:Addr}{o:HO}(h:H p=none\/∃xs,H p=some (.lst xs)): Tab (upd H p o):=t.updG fun u e=>by
 rcases h with h|⟨xs,h⟩
 ·rw [h] at e;cases e
 ·rw [h] at e;cases e;exact⟨nofun,nofun⟩
structure Kept(H H':Hp): Prop where
 lst:∀b xs,H b=some (.lst xs)->H' b=some (.lst xs)
 ext:∀b φ,H b=some (.ext φ)->H' b=some (.ext φ)
 free:∀ {b},H' b=none->H b=none
 tb:Tab H->Tab H'
 dk:∀b kvs,H b=some (.dK kvs)->H' b=some (.dK kvs)
theorem Kept.refl(H:Hp): Kept H H:=⟨fun _ _ e=>e,fun _ _ e=>e,fun e=>e,fun t=>t,fun _ _ e=>e⟩
theorem Kept.trans{H H1 H2:Hp}(a:Kept H H1)(b:Kept H1 H2): Kept H H2:=⟨fun c xs e=>b.lst c xs (a.lst c xs e),fun c φ e=>b.ext c φ (a.ext c φ e),fun e=>a.free (b.free e),fun t=>b.tb (a.tb t),fun c kvs e=>b.dk c kvs (a.dk c kvs e)⟩
theorem Kept.new{H:Hp}{p:Addr}{o:HO}(hp:H p=none): Kept H (upd H p o):=⟨fun b xs e=>by rw [qk (jc e hp)];exact e,fun b φ e=>by rw [qk (jc e hp)];exact e,fun {b} e=>by
 by_cases z:b=p
 ·subst z;exact hp
 ·rw [qk z] at e;exact e,fun t=>t.upd (.inl hp),fun b kvs e=>by rw [qk (jc e hp)];exact e⟩
structure SameT(F H:Hp): Prop where
 s:Same F H
 t:Tab H
 f:ql6 F
structure Grow(F H F' H':Hp): Prop where
 ff:Same F F'
 hh:Kept H H'
 fh:Same F' H'
 nw:∀b,F' b≠none->F b≠none\/H b=none
theorem Grow.refl{F H:Hp}(h:Same F H): Grow F H F H:=⟨.refl _,.refl _,h,fun _ h=>.inl h⟩
theorem Grow.trans{F H F1 H1 F2 H2:Hp}(a:Grow F H F1 H1)(b:Grow F1 H1 F2 H2): Grow F H F2 H2:=
 ⟨a.ff.trans b.ff,a.hh.trans b.hh,b.fh,fun c h=>(b.nw c h).elim (fun z=>a.nw c z) fun z=>.inr (a.hh.free z)⟩
theorem q4e{H:Hp}{p:Addr}{o:HO}(h:H p=none): Same H (upd H p o):=fun b u q=>by rw [qk (jc q h)];exact q
theorem qif{F H:Hp}{p:Addr}{o:HO}(h:Same F H): Same (upd F p o) (upd H p o):=fun b u q=>by
 unfold upd at q ⊢
 split
 ·rename_i z;rw [mq z] at q;exact q
 ·rename_i z;rw [mj z] at q;exact h _ _ q
theorem Grow.new{F H:Hp}{p:Addr}{o:HO}(h:Same F H)(hp:H p=none): Grow F H (upd F p o) (upd H p o):=
 ⟨q4e (h.free hp),.new hp,qif h,fun b hb=>by
  by_cases e:b=p
  ·subst e;exact .inr hp
  ·rw [qk e] at hb;exact .inl hb⟩
theorem Grow.own{F H:Hp}{p:Addr}{o:HO}(h:Same F H)(hp:H p=none): Grow F H F (upd H p o):=
 ⟨.refl _,.new hp,h.trans (q4e hp),fun _ h=>.inl h⟩
inductive B where
 | fz (d:D)
 | ow (ds:List D)
 | od (kvs:List (Int×List D))
abbrev Rho:=List (Option B)
def qum(ks:List Int)(bs:List Addr): List (Key×V):=(ks.map Sum.inl).zip (bs.map V.ref)
structure ODt(K:Frag)(F H H0:Hp)(a:Addr)(bs:List Addr)(kvs:List (Int×List D)): Prop where
 h:H a=some (.dK (qum (kvs.map (·.1)) bs))
 f:F a=none
 z:H0 a=none
 len:bs.length=kvs.length
 nd:bs.Nodup
 b:∀(j:Nat) (b:Addr) (k:Int) (ds:List D),bs[j]? = some b->kvs[j]? = some (k,ds)->∃xs,H b=some (.lst xs)/\F b=none/\H0 b=none/\RepL K F ds xs
structure RS(K:Frag)(F0 H0 F H:Hp)(σ : St)(ρ : Rho): Prop where
 t0:Tab H0/\ql6 F0
 g:Grow F0 H0 F H
 len : σ.length = ρ.length
 fz:∀(i:Nat) (d:D), ρ[i]? = some (some (.fz d))->∃v, σ[i]? = some (some v)/\Rep K F d v
 ow:∀(i:Nat) (ds:List D), ρ[i]? = some (some (.ow ds))->∃a xs, σ[i]? = some (some (.ref a))/\H a=some (.lst xs)/\F a=none/\H0 a=none/\RepL K F ds xs
 dj:∀(i j:Nat) (ds es:List D) (a:Addr),i≠j -> ρ[i]? = some (some (.ow ds)) -> ρ[j]? = some (some (.ow es)) -> σ[i]? = some (some (.ref a)) -> σ[j]? ≠ some (some (.ref a))
 od:∀(i:Nat) (kvs:List (Int×List D)), ρ[i]? = some (some (.od kvs))->∃a bs, σ[i]? = some (some (.ref a))/\ODt K F H H0 a bs kvs/\∀(j:Nat) (es:List D) (b:Addr), ρ[j]? = some (some (.ow es))->b∈bs -> σ[j]? ≠ some (some (.ref b))
 o1:∀(i j:Nat) (k1 k2:List (Int×List D)), ρ[i]? = some (some (.od k1)) -> ρ[j]? = some (some (.od k2))->i=j
theorem qfc{F H F' H':Hp}{a:Addr}{o:HO}(g:Grow F H F' H')(h1:F a=none)(h2:H a=some o): F' a=none:=by
 cases q:F' a with
 | none=>rfl
 | some o=>
  rcases g.nw a (by rw [q];simp) with z|z
  ·exact absurd h1 z
  ·rw [h2] at z;cases z
theorem ODt.mem{K:Frag}{F H H0:Hp}{a:Addr}{bs:List Addr}{kvs:List (Int×List D)}(o:ODt K F H H0 a bs kvs){b:Addr}(h:b∈bs): ∃xs,H b=some (.lst xs)/\F b=none/\H0 b=none:=by
 obtain⟨j,hj⟩:=g5f.mp h;have hl:j<kvs.length:=by rw [<- o.len];exact(ni.mp hj).1
 obtain⟨xs,e1,e2,e3,_⟩:=o.b j b _ _ hj (ng hl);exact⟨xs,e1,e2,e3⟩
theorem ODt.grow{K:Frag}{F H F' H' H0:Hp}{a:Addr}{bs:List Addr}{kvs:List (Int×List D)}(o:ODt K F H H0 a bs kvs)(g:Grow F H F' H'): ODt K F' H' H0 a bs kvs where
 h:=g.hh.dk _ _ o.h
 f:=qfc g o.f o.h
 z:=o.z
 len:=o.len
 nd:=o.nd
 b:=fun j b k ds e1 e2=>by
  obtain⟨xs,z1,z2,z3,z4⟩:=o.b j b k ds e1 e2;exact⟨xs,g.hh.lst _ _ z1,qfc g z2 z1,z3,z4.mono g.ff⟩
theorem ODt.other{K:Frag}{F H H0:Hp}{a p:Addr}{bs:List Addr}{kvs:List (Int×List D)}{u:HO}(o:ODt K F H H0 a bs kvs)(h1:p≠a)(h2:p∉bs): ODt K F (upd H p u) H0 a bs kvs where
 h:=by rw [qk (nh h1)];exact o.h
 f:=o.f
 z:=o.z
 len:=o.len
 nd:=o.nd
 b:=fun j b k ds e1 e2=>by
  obtain⟨xs,z1,z2,z3,z4⟩:=o.b j b k ds e1 e2;have ne:b≠p:=fun q=>h2 (by rw [<- q];exact g0b e1);exact⟨xs,by rw [qk ne];exact z1,z2,z3,z4⟩
theorem ODt.otherF{K:Frag}{F H H0:Hp}{a p:Addr}{bs:List Addr}{kvs:List (Int×List D)}{u:HO}(o:ODt K F H H0 a bs kvs)(hs:Same F (upd F p u))(h1:p≠a)(h2:p∉bs): ODt K (upd F p u) H H0 a bs kvs where
 h:=o.h
 f:=by rw [qk (nh h1)];exact o.f
 z:=o.z
 len:=o.len
 nd:=o.nd
 b:=fun j b k ds e1 e2=>by
  obtain⟨xs,z1,z2,z3,z4⟩:=o.b j b k ds e1 e2;have ne:b≠p:=fun q=>h2 (by rw [<- q];exact g0b e1);exact⟨xs,z1,by rw [qk ne];exact z2,z3,z4.mono hs⟩
section
variable{K:Frag}{F0 H0 F H F' H':Hp}{σ : St}{ρ : Rho}
theorem RS.fh(r:RS K F0 H0 F H σ ρ): Same F H:=r.g.fh
theorem RS.tab(r:RS K F0 H0 F H σ ρ): Tab H:=r.g.hh.tb r.t0.1
theorem RS.tabF(r:RS K F0 H0 F H σ ρ): ql6 F:=fun p hp=>by
 cases q:F p.1 with
 | none=>rfl
 | some o=>
  rcases r.g.nw p.1 (by rw [q];simp) with z|z
  ·exact absurd (r.t0.2 p hp) z
  ·obtain⟨ps,e,_⟩:=r.t0.1 p hp
   rw [e] at z;cases z
theorem RS.grow(r:RS K F0 H0 F H σ ρ)(g:Grow F H F' H'): RS K F0 H0 F' H' σ ρ where
 t0:=r.t0
 g:=r.g.trans g
 len:=r.len
 fz:=fun i d e=>let⟨v,e1,e2⟩:=r.fz i d e; ⟨v,e1,e2.mono g.ff⟩
 ow:=fun i ds e=>by
  obtain⟨a,xs,e1,e2,e3,e4,e5⟩:=r.ow i ds e;refine⟨a,xs,e1,g.hh.lst _ _ e2,?_,e4,e5.mono g.ff⟩;cases q:F' a with
  | none=>rfl
  | some o=>
   rcases g.nw a (by rw [q];simp) with z|z
   ·exact absurd e3 z
   ·rw [e2] at z;cases z
 dj:=r.dj
 od:=fun i kvs e=>let⟨a,bs,e1,e2,e3⟩:=r.od i kvs e; ⟨a,bs,e1,e2.grow g,e3⟩
 o1:=r.o1
theorem RS.sameT(r:RS K F0 H0 F H σ ρ)(g:Grow F H F' H'): SameT F' H':=⟨g.fh,(r.grow g).tab,(r.grow g).tabF⟩
theorem qw{α : Type}{l:List α}{i:Nat}{x y : α}(h:(l.set i x)[i]? = some y): y=x/\i<l.length:=by
 rw [g4e] at h;simp only [ny] at h
 split at h
 ·exact⟨(mh h).symm,by assumption⟩
 ·cases h
theorem RS.set(r:RS K F0 H0 F H σ ρ){d:D}{v:V}(i:Nat)(h:Rep K F d v): RS K F0 H0 F H (σ.set i (some v)) (ρ.set i (some (.fz d))) where
 t0:=r.t0
 g:=r.g
 len:=by rw [g0w,g0w];exact r.len
 fz:=fun j e h1=>by
  by_cases q:j=i
  ·subst q
   obtain⟨z,l⟩:=qw h1;cases z;exact⟨v,by rw [g4e];simp [r.len,l],h⟩
  ·rw [ma (nh q)] at h1 ⊢
   exact r.fz j e h1
 ow:=fun j ds h1=>by
  by_cases q:j=i
  ·subst q
   obtain⟨z,l⟩:=qw h1;cases z
  ·rw [ma (nh q)] at h1 ⊢
   exact r.ow j ds h1
 dj :=fun j k ds es a hjk h1 h2 h3=>by
  by_cases q:j=i
  ·subst q
   obtain⟨z,l⟩:=qw h1;cases z
  ·by_cases q2:k=i
   ·subst q2
    obtain⟨z,l⟩:=qw h2;cases z
   ·rw [ma (nh q)] at h1 h3
    rw [ma (nh q2)] at h2 ⊢;exact r.dj j k ds es a hjk h1 h2 h3
 od :=fun j kvs h1=>by
  by_cases q:j=i
  ·subst q
   obtain⟨z,l⟩:=qw h1;cases z
  ·rw [ma (nh q)] at h1 ⊢
   obtain⟨a,bs,e1,e2,e3⟩:=r.od j kvs h1;refine⟨a,bs,e1,e2,fun k es b h2 h3=>?_⟩
   by_cases q2:k=i
   ·subst q2
    obtain⟨z,l⟩:=qw h2;cases z
   ·rw [ma (nh q2)] at h2 ⊢
    exact e3 k es b h2 h3
 o1 :=fun j k k1 k2 h1 h2=>by
  by_cases q:j=i
  ·subst q
   obtain⟨z,l⟩:=qw h1;cases z
  ·by_cases q2:k=i
   ·subst q2
    obtain⟨z,l⟩:=qw h2;cases z
   ·rw [ma (nh q)] at h1
    rw [ma (nh q2)] at h2;exact r.o1 j k k1 k2 h1 h2
theorem RS.setO(r:RS K F0 H0 F H σ ρ){ds:List D}{xs:List V}{a:Addr}(i:Nat)(h1:H a=some (.lst xs))(h2:F a=none)(h3:H0 a=none)(h4:RepL K F ds xs)
  (h5:∀(j:Nat) (es:List D), ρ[j]? = some (some (.ow es)) -> σ[j]? ≠ some (some (.ref a)))
  (h6:∀(j:Nat) (kvs:List (Int×List D)), ρ[j]? = some (some (.od kvs))->∃a' bs, σ[j]? = some (some (.ref a'))/\ODt K F H H0 a' bs kvs/\a∉bs/\∀(j':Nat) (es:List D) (b:Addr), ρ[j']? = some (some (.ow es))->b∈bs -> σ[j']? ≠ some (some (.ref b))):RS K F0 H0 F H (σ.set i (some (.ref a))) (ρ.set i (some (.ow ds))) where
 t0:=r.t0
 g:=r.g
 len:=by rw [g0w,g0w];exact r.len
 fz:=fun j e q1=>by
  by_cases q:j=i
  ·subst q
   obtain⟨z,l⟩:=qw q1;cases z
  ·rw [ma (nh q)] at q1 ⊢
   exact r.fz j e q1
 ow:=fun j es q1=>by
  by_cases q:j=i
  ·subst q
   obtain⟨z,l⟩:=qw q1;cases z;exact⟨a,xs,by rw [g4e];simp [r.len,l],h1,h2,h3,h4⟩
  ·rw [ma (nh q)] at q1 ⊢
   exact r.ow j es q1
 dj :=fun j k ds' es b hjk q1 q2 q3=>by
  by_cases q:j=i
  ·subst q
   have e3:=qw q3;have eb:b=a:=by have:=e3.1;simpa using this
   subst eb;rw [ma hjk] at q2 ⊢;exact h5 k es q2
  ·rw [ma (nh q)] at q1 q3
   by_cases q4:k=i
   ·subst q4
    intro z;have eb:b=a:=by have:=(qw z).1;simpa using this
    subst eb;exact h5 j ds' q1 q3
   ·rw [ma (nh q4)] at q2 ⊢
    exact r.dj j k ds' es b hjk q1 q2 q3
 od :=fun j kvs q1=>by
  by_cases q:j=i
  ·subst q
   obtain⟨z,l⟩:=qw q1;cases z
  ·rw [ma (nh q)] at q1 ⊢
   obtain⟨a',bs,e1,e2,e3,e4⟩:=h6 j kvs q1;refine⟨a',bs,e1,e2,fun k es b p1 p2 p3=>?_⟩
   by_cases q2:k=i
   ·subst q2
    have eb:b=a:=by have:=(qw p3).1;simpa using this
    exact e3 (eb ▸ p2)
   ·rw [ma (nh q2)] at p1 p3
    exact e4 k es b p1 p2 p3
 o1 :=fun j k k1 k2 p1 p2=>by
  by_cases q:j=i
  ·subst q
   obtain⟨z,l⟩:=qw p1;cases z
  ·by_cases q2:k=i
   ·subst q2
    obtain⟨z,l⟩:=qw p2;cases z
   ·rw [ma (nh q)] at p1
    rw [ma (nh q2)] at p2;exact r.o1 j k k1 k2 p1 p2
theorem RS.wrt(r:RS K F0 H0 F H σ ρ){ds es:List D}{ys:List V}{a:Addr}{i:Nat}(h1 : ρ[i]? = some (some (.ow ds)))(h2 : σ[i]? = some (some (.ref a)))(h4:RepL K F es ys):
  RS K F0 H0 F (upd H a (.lst ys)) σ (ρ.set i (some (.ow es))):=by
 obtain⟨a',xs,e1,e2,e3,e4,e5⟩:=r.ow i ds h1;rw [h2] at e1;obtain rfl:a=a':=by simpa using e1
 have nF:∀b o,F b=some o->b≠a:=fun b o e z=>by subst z;rw [e3] at e;cases e
 exact {
  t0:=r.t0
  g :=⟨r.g.ff,⟨fun b o e=>by rw [qk (fun z=>by subst z;rw [e4] at e;cases e)];exact r.g.hh.lst b o e,fun b o e=>by rw [qk (fun z=>by subst z;rw [e4] at e;cases e)];exact r.g.hh.ext b o e,fun {b} e=>by
    by_cases z:b=a
    ·subst z;exact e4
    ·rw [qk z] at e;exact r.g.hh.free e,fun t=>(r.g.hh.tb t).upd (.inr ⟨_,e2⟩),fun b o e=>by rw [qk (fun z=>by subst z;rw [e4] at e;cases e)];exact r.g.hh.dk b o e⟩,fun b o e=>by rw [qk (nF b o e)];exact r.g.fh b o e,r.g.nw⟩
  len:=by rw [g0w];exact r.len
  fz:=fun j e q1=>by
   by_cases q:j=i
   ·subst q
    obtain⟨z,l⟩:=qw q1;cases z
   ·rw [ma (nh q)] at q1
    exact r.fz j e q1
  ow :=fun j es' q1=>by
   by_cases q:j=i
   ·subst q
    obtain⟨z,l⟩:=qw q1;cases z;exact⟨a,ys,h2,qt,e3,e4,h4⟩
   ·rw [ma (nh q)] at q1
    obtain⟨b,zs,f1,f2,f3,f4,f5⟩:=r.ow j es' q1;have hb:b≠a:=fun z=>by
     subst z;exact r.dj i j ds es' b (nh q) h1 q1 h2 f1
    exact⟨b,zs,f1,by rw [qk hb];exact f2,f3,f4,f5⟩
  dj:=fun j k ds' es' b hjk q1 q2 q3=>by
   have back:∀(l:Nat) (us:List D),(ρ.set i (some (.ow es)))[l]? = some (some (.ow us))->∃ws, ρ[l]? = some (some (.ow ws)):=fun l us z=>by
    by_cases q:l=i
    ·subst q;exact⟨ds,h1⟩
    ·rw [ma (nh q)] at z;exact⟨us,z⟩
   obtain⟨w1,z1⟩:=back j ds' q1;obtain⟨w2,z2⟩:=back k es' q2;exact r.dj j k w1 w2 b hjk z1 z2 q3
  od:=fun j kvs q1=>by
   by_cases q:j=i
   ·subst q
    obtain⟨z,l⟩:=qw q1;cases z
   ·rw [ma (nh q)] at q1
    obtain⟨a',bs,f1,f2,f3⟩:=r.od j kvs q1;refine⟨a',bs,f1,f2.other (fun z=>by subst z;have:=f2.h;rw [e2] at this;cases this) fun z=>f3 i ds a h1 z h2,fun k es' b p1 p2=>?_⟩
    by_cases q2:k=i
    ·subst q2;exact f3 k ds b h1 p2
    ·rw [ma (nh q2)] at p1;exact f3 k es' b p1 p2
  o1 :=fun j k k1 k2 p1 p2=>by
   have back:∀(l:Nat) (us),(ρ.set i (some (.ow es)))[l]? = some (some (.od us)) -> ρ[l]? = some (some (.od us)):=fun l us z=>by
    by_cases q:l=i
    ·subst q
     obtain⟨z',_⟩:=qw z;cases z'
    ·rw [ma (nh q)] at z;exact z
   exact r.o1 j k k1 k2 (back _ _ p1) (back _ _ p2)}
theorem RS.freeze(r:RS K F0 H0 F H σ ρ){ds:List D}{i:Nat}(h1 : ρ[i]? = some (some (.ow ds))): ∃F',Same F F'/\RS K F0 H0 F' H σ (ρ.set i (some (.fz (.lst ds)))):=by
 obtain⟨a,xs,e1,e2,e3,e4,e5⟩:=r.ow i ds h1;have sF:Same F (upd F a (.lst xs)):=q4e e3;refine⟨upd F a (.lst xs),sF,?_⟩;exact {
  t0:=r.t0
  g :=⟨r.g.ff.trans sF,r.g.hh,fun b o e=>by
    by_cases q:b=a
    ·subst q;rw [qt] at e;cases e;exact e2
    ·rw [qk q] at e;exact r.g.fh b o e,fun b hb=>by
    by_cases q:b=a
    ·subst q;exact .inr e4
    ·rw [qk q] at hb;exact r.g.nw b hb⟩
  len:=by rw [g0w];exact r.len
  fz:=fun j e q1=>by
   by_cases q:j=i
   ·subst q
    obtain⟨z,l⟩:=qw q1;cases z;exact⟨_,e1,rep_lst.mpr ⟨a,xs,rfl,SqL.of qt,e5.mono sF⟩⟩
   ·rw [ma (nh q)] at q1
    obtain⟨v,z1,z2⟩:=r.fz j e q1;exact⟨v,z1,z2.mono sF⟩
  ow :=fun j es' q1=>by
   by_cases q:j=i
   ·subst q
    obtain⟨z,l⟩:=qw q1;cases z
   ·rw [ma (nh q)] at q1
    obtain⟨b,zs,f1,f2,f3,f4,f5⟩:=r.ow j es' q1;have hb:b≠a:=fun z=>by
     subst z;exact r.dj i j ds es' b (nh q) h1 q1 e1 f1
    exact⟨b,zs,f1,f2,by rw [qk hb];exact f3,f4,f5.mono sF⟩
  dj :=fun j k ds' es' b hjk q1 q2 q3=>by
   have back:∀(l:Nat) (us:List D),(ρ.set i (some (.fz (.lst ds))))[l]? = some (some (.ow us)) -> ρ[l]? = some (some (.ow us)):=fun l us z=>by
    by_cases q:l=i
    ·subst q
     obtain⟨z',_⟩:=qw z;cases z'
    ·rw [ma (nh q)] at z;exact z
   exact r.dj j k ds' es' b hjk (back _ _ q1) (back _ _ q2) q3
  od:=fun j kvs q1=>by
   by_cases q:j=i
   ·subst q
    obtain⟨z,l⟩:=qw q1;cases z
   ·rw [ma (nh q)] at q1
    obtain⟨a',bs,f1,f2,f3⟩:=r.od j kvs q1;refine⟨a',bs,f1,f2.otherF sF (fun z=>by subst z;have:=f2.h;rw [e2] at this;cases this) fun z=>f3 i ds a h1 z e1,fun k es' b p1 p2=>?_⟩
    by_cases q2:k=i
    ·subst q2;exact f3 k ds b h1 p2
    ·rw [ma (nh q2)] at p1;exact f3 k es' b p1 p2
  o1 :=fun j k k1 k2 p1 p2=>by
   have back:∀(l:Nat) (us),(ρ.set i (some (.fz (.lst ds))))[l]? = some (some (.od us)) -> ρ[l]? = some (some (.od us)):=fun l us z=>by
    by_cases q:l=i
    ·subst q
     obtain⟨z',_⟩:=qw z;cases z'
    ·rw [ma (nh q)] at z;exact z
   exact r.o1 j k k1 k2 (back _ _ p1) (back _ _ p2)}
end
end DL
namespace DL
open PySem PySem.Spec PyProof.Rows L2
variable[Lam]
abbrev lim:Nat:=1000000
theorem va{n:Nat}(h:n<=lim): n<=sizeLine:=mx h (by decide)
theorem qaf{n:Nat}(h:n<lim): n<sizeLine:=m8 h (by decide)
abbrev FE:=Rho->Option D
abbrev FT:=Rho->Option Bool
abbrev FA:=Rho->Option (List D)
inductive Fl where
 | nx|bk|ct
 | rt (d:D)
abbrev FS:=Rho->Option (Fl×Rho)
def tD(K:Frag)(f:FE): TE:=fun σ H Q=>∃F0 H0 F ρ d,RS K F0 H0 F H σ ρ /\ f ρ = some d/\∀v F' H',Grow F H F' H'->Rep K F' d v->Q v H'
def tL(K:Frag)(f:FA): TE:=fun σ H Q=>∃F0 H0 F ρ ds,RS K F0 H0 F H σ ρ /\ f ρ = some ds/\∀a xs F' H',Grow F H F' H'->F' a=none->H a=none->H' a=some (.lst xs)->RepL K F' ds xs->Q (.ref a) H'
def tDT(K:Frag)(f:FT): TT:=fun σ H Q=>∃F0 H0 F ρ b,RS K F0 H0 F H σ ρ /\ f ρ = some b/\∀F' H',Grow F H F' H'->Q b H'
def tDA(K:Frag)(f:FA): TA:=fun σ H Q=>∃F0 H0 F ρ ds,RS K F0 H0 F H σ ρ /\ f ρ = some ds/\∀vs F' H',Grow F H F' H'->RepL K F' ds vs->Q vs H'
def qgi(K:Frag)(F0 H0 F:Hp)(D:Ends)(fl:Fl)(ρ':Rho): Prop:=match fl with
 | .nx=>∀ σ' F' H',Same F F'->RS K F0 H0 F' H' σ' ρ'->D.nx σ' H'
 | .bk=>∀ σ' F' H',Same F F'->RS K F0 H0 F' H' σ' ρ'->D.bk σ' H'
 | .ct=>∀ σ' F' H',Same F F'->RS K F0 H0 F' H' σ' ρ'->D.ct σ' H'
 | .rt d=>∀v F' H',Grow F0 H0 F' H'->Rep K F' d v->D.rt v H'
def tDS(K:Frag)(f:FS): TS:=fun D σ H=>∃F0 H0 F ρ fl ρ',RS K F0 H0 F H σ ρ /\ f ρ = some (fl, ρ')/\qgi K F0 H0 F D fl ρ'
section
variable{X:Cx}{e:Expr}{pos:Pos}
theorem zx{t t':TE}(h:PE X e t)(i:∀ σ H Q,t' σ H Q->t σ H Q): PE X e t':=fun pins s σ H Q I q=>h pins s σ H Q I (i σ H Q q)
theorem qc3{t t':TT}(h:PT X e t)(i:∀ σ H Q,t' σ H Q->t σ H Q): PT X e t':=fun pins s σ H Q I q=>h pins s σ H Q I (i σ H Q q)
theorem qig{es:List Expr}{t t':TA}(h:PA X es t)(i:∀ σ H Q,t' σ H Q->t σ H Q): PA X es t':=fun pos pins s σ H Q I q=>h pos pins s σ H Q I (i σ H Q q)
theorem q0u{st:Stmt}{t t':TS}(h:PS X st t)(i:∀D σ H,t' D σ H->t D σ H): PS X st t':=fun pins s σ H D I q=>h pins s σ H D I (i D σ H q)
theorem q9h{st:List Stmt}{t t':TS}(h:PSs X st t)(i:∀D σ H,t' D σ H->t D σ H): PSs X st t':=fun pins s σ H D I q=>h pins s σ H D I (i D σ H q)
def eV(i:Nat): FE:=fun ρ =>match ρ[i]? with
 | some (some (.fz d))=>some d
 | _=>none
def eC(d:D): FE:=fun _=>some d
theorem qoc{i:Nat}{ρ : Rho}{d:D}(h:eV i ρ = some d): ρ[i]? = some (some (.fz d)):=by
 unfold eV at h
 split at h
 ·rename_i e;rw [e,mh h]
 ·cases h
theorem q0{K:Frag}{i:Nat}(h:PE X e (qbu i)): PE X e (tD K (eV i)):=zx h fun σ H Q ⟨F0,H0,F, ρ,d,r,hf,q⟩=>by
 obtain⟨v,e1,e2⟩:=r.fz i d (qoc hf);exact⟨v,e1,q v F H (.refl r.fh) e2⟩
theorem q7e{K:Frag}{v:V}{d:D}(h:PE X e (tC v))(hd:∀H,Rep K H d v): PE X e (tD K (eC d)):=zx h fun σ H Q ⟨F0,H0,F, ρ,d',r,hf,q⟩=>by
 cases hf;exact q v F H (.refl r.fh) (hd F)
theorem qg{K:Frag}{i j}: PE X (.Constant (.int i) j pos) (tD K (eC (.int i))):=q7e qqe fun _=>rep_int.mpr rfl
theorem q26{K:Frag}{b j}: PE X (.Constant (.bool b) j pos) (tD K (eC (.bl b))):=q7e qsq fun _=>rep_bl.mpr rfl
theorem q5g{K:Frag}{j}: PE X (.Constant .none j pos) (tD K (eC .non)):=q7e qqf fun _=>rep_non.mpr rfl
def rD(K:Frag)(op:D->D->Option D): R2:=fun x y H Q=>∃F d1 d2 d,Same F H/\Rep K F d1 x/\Rep K F d2 y/\op d1 d2=some d/\∀v F' H',Grow F H F' H'->Rep K F' d v->Q v H'
def eOp(op:D->D->Option D)(f g:FE): FE:=fun ρ =>(f ρ).bind fun x=>(g ρ).bind fun y=>op x y
theorem two{K:Frag}{f g:FE}{op:D->D->Option D}{σ : St}{H:Hp}{Q:VK}(h:tD K (eOp op f g) σ H Q): tD K f σ H fun x H1=>tD K g σ H1 fun y H2=>rD K op x y H2 Q:=by
 obtain⟨F0,H0,F, ρ,d,r,hf,q⟩:=h;obtain⟨d1,h1,hf⟩:=gh.mp hf;obtain⟨d2,h2,h3⟩:=gh.mp hf;refine⟨F0,H0,F, ρ,d1,r,h1,fun v F1 H1 g1 r1=>⟨F0,H0,F1, ρ,d2,r.grow g1,h2,fun u F2 H2 g2 r2=>?_⟩⟩;exact⟨F2,d1,d2,d,g2.fh,r1.mono g2.ff,r2,h3,fun w F3 H3 g3 r3=>q w F3 H3 (g1.trans (g2.trans g3)) r3⟩
variable{a b:Expr}{f g:FE}
theorem qm{op:Operator}{o:D->D->Option D}(ho:OpR X (binaryOp op) (rD X.K o))(ha:PE X a (tD X.K f))(hb:PE X b (tD X.K g)): PE X (.BinOp a op b pos) (tD X.K (eOp o f g)):=
 zx (qnf ho ha hb) fun σ H Q h=>two h
theorem q16{f:Value->Value->Sem Value}{r r':R2}(h:OpR X f r)(i:∀x y H Q,r' x y H Q->r x y H Q): OpR X f r':=fun pins s σ H x y v u Q I rx ry q=>h pins s σ H x y v u Q I rx ry (i x y H Q q)
theorem q5h{f:Value->Value->Sem Value}{K:Frag}{o o':D->D->Option D}(h:OpR X f (rD K o))(h':OpR X f (rD K o')): OpR X f (rD K fun x y=>(o x y).or (o' x y)):=fun pins s σ H x y v u Q I rx ry q=>by
 obtain⟨F,d1,d2,d,q1,q2,q3,q4,q5⟩:=q;have q4:(o d1 d2).or (o' d1 d2)=some d:=q4;cases e:o d1 d2 with
 | some d'=>rw [e] at q4;cases q4;exact h pins s σ H x y v u Q I rx ry ⟨F,d1,d2,_,q1,q2,q3,e,q5⟩
 | none=>rw [e] at q4;exact h' pins s σ H x y v u Q I rx ry ⟨F,d1,d2,d,q1,q2,q3,q4,q5⟩
def oI(C:Int->Int->Bool)(z:Int->Int->Int): D->D->Option D
 | .int i,.int j=>if C i j then some (.int (z i j)) else none
 | _,_=>none
def oB(z:Int->Int->Bool): D->D->Option D
 | .int i,.int j=>some (.bl (z i j))
 | _,_=>none
theorem qfd{C:Int->Int->Bool}{z:Int->Int->Int}{d1 d2 d:D}(h:oI C z d1 d2=some d): ∃i j,d1=.int i/\d2=.int j/\C i j=true/\d=.int (z i j):=by
 cases d1 <;> cases d2 <;> simp only [oI] at h <;> first|(cases h;done)|skip
 split at h
 ·exact⟨_,_,rfl,rfl,by assumption,(mh h).symm⟩
 ·cases h
theorem qod{z:Int->Int->Bool}{d1 d2 d:D}(h:oB z d1 d2=some d): ∃i j,d1=.int i/\d2=.int j/\d=.bl (z i j):=by
 cases d1 <;> cases d2 <;> simp only [oB] at h <;> first|(cases h;done)|skip
 exact⟨_,_,rfl,rfl,(mh h).symm⟩
theorem q6h{fv:Value->Value->Sem Value}{P:Int->Int->Prop}{C:Int->Int->Bool}{z:Int->Int->Int}(h:OpR X fv (rI P fun i j=>.int (z i j)))(hC:∀i j,C i j=true->P i j): OpR X fv (rD X.K (oI C z)):=
 q16 h fun x y H Q ⟨F,d1,d2,d,q1,q2,q3,q4,q5⟩=>by
  obtain⟨i,j,rfl,rfl,c,rfl⟩:=qfd q4;exact⟨i,j,rep_int.mp q2,rep_int.mp q3,hC i j c,q5 _ F H (.refl q1) (rep_int.mpr rfl)⟩
theorem qc4{fv:Value->Value->Sem Value}{z:Int->Int->Int}(h:OpR X fv (rI0 fun i j=>.int (z i j))): OpR X fv (rD X.K (oI (fun _ _=>true) z)):=
 q16 h fun x y H Q ⟨F,d1,d2,d,q1,q2,q3,q4,q5⟩=>by
  obtain⟨i,j,rfl,rfl,c,rfl⟩:=qfd q4;exact⟨i,j,rep_int.mp q2,rep_int.mp q3,q5 _ F H (.refl q1) (rep_int.mpr rfl)⟩
theorem q8a{fv:Value->Value->Sem Value}{z:Int->Int->Bool}(h:OpR X fv (rI0 fun i j=>.bl (z i j))): OpR X fv (rD X.K (oB z)):=
 q16 h fun x y H Q ⟨F,d1,d2,d,q1,q2,q3,q4,q5⟩=>by
  obtain⟨i,j,rfl,rfl,rfl⟩:=qod q4;exact⟨i,j,rep_int.mp q2,rep_int.mp q3,q5 _ F H (.refl q1) (rep_bl.mpr rfl)⟩
abbrev oAdd:=oI (fun _ _=>true) fun i j=>i+j
abbrev oSub:=oI (fun _ _=>true) fun i j=>i-j
abbrev oMul:=oI (fun i j=>(decide (-(2 ^ 64)<i)&&decide (i<2 ^ 64)) || (decide (-(2 ^ 64)<j)&&decide (j<2 ^ 64))) fun i j=>i*j
abbrev oDiv:=oI (fun _ j=>decide (0<j)&&decide (j<1073741824)) fun i j=>i / j
abbrev oMod:=oI (fun _ j=>decide (0<j)) fun i j=>i%j
theorem q17{p q:Prop}[Decidable p][Decidable q](h:(decide p&&decide q)=true): p/\q:=by simpa using h
theorem qr9:OpR X (binaryOp .Add) (rD X.K oAdd):=qc4 qqr
theorem q3v:OpR X (binaryOp .Sub) (rD X.K oSub):=qc4 qqs
theorem qra:OpR X (binaryOp .Mult) (rD X.K oMul):=q6h qqt fun i j h=>by
 rcases g0r _ _ ▸ h with z|z
 ·exact .inl (q17 z)
 ·exact .inr (q17 z)
theorem q3w:OpR X (binaryOp .FloorDiv) (rD X.K oDiv):=q6h qo1 fun i j h=>q17 h
theorem j9:OpR X (binaryOp .Mod) (rD X.K oMod):=q6h qqu fun i j h=>uk h
abbrev oShl:=oI (fun i j=>decide (0<=j)&&(decide (j<=1000000)&&decide (i.natAbs<2 ^ 64))) fun i j=>i*2 ^ j.toNat
abbrev oPow:=oI (fun i j=>decide (0<=j)&&(decide (j<=1000000)&&decide (i.natAbs<2 ^ 64))) fun i j=>i ^ j.toNat
theorem qc5{p q r:Prop}[Decidable p][Decidable q][Decidable r](h:(decide p&&(decide q&&decide r))=true): p/\q/\r:=by simpa using h
theorem qrb:OpR X (binaryOp .LShift) (rD X.K oShl):=q6h qqw fun i j h=>qc5 h
theorem qc6:OpR X (binaryOp .Pow) (rD X.K oPow):=q6h qqv fun i j h=>qc5 h
abbrev oLt:=oB fun i j=>decide (i<j)
abbrev oLe:=oB fun i j=>decide (i<=j)
abbrev oGt:=oB fun i j=>decide (j<i)
abbrev oGe:=oB fun i j=>decide (j<=i)
theorem qte:OpR X (compareOp .Lt) (rD X.K oLt):=q8a qt2
theorem qni:OpR X (compareOp .LtE) (rD X.K oLe):=q8a qt3
theorem qtf:OpR X (compareOp .Gt) (rD X.K oGt):=q8a qt4
theorem qgj:OpR X (compareOp .GtE) (rD X.K oGe):=q8a qt5
def flD:D->Option V
 | .non=>some .non
 | .bl b=>some (.bl b)
 | .int i=>some (.int i)
 | .str x=>some (.str x)
 | _=>none
theorem q6i{K:Frag}{H:Hp}{d:D}{v u:V}(h:flD d=some u)(r:Rep K H d v): v=u:=by
 cases d <;> simp only [flD] at h <;> first|(cases h;done)|skip
 ·cases h;exact rep_non.mp r
 ·cases h;exact rep_bl.mp r
 ·cases h;exact rep_int.mp r
 ·cases h;exact rep_str.mp r
def ql7:D->D->Option D:=fun d e=>(flD d).bind fun x=>(flD e).bind fun y=>if q9f x y then some (.bl (decide (x=y))) else none
def q7f:D->D->Option D:=fun d e=>(flD d).bind fun x=>(flD e).bind fun y=>if q9f x y then some (.bl (!decide (x=y))) else none
theorem qrc:OpR X (compareOp .Eq) (rD X.K ql7):=q16 qt0 fun x y H Q ⟨F,d1,d2,d,q1,q2,q3,q4,q5⟩=>by
 obtain⟨u,h1,q4⟩:=gh.mp q4;obtain⟨w,h2,q4⟩:=gh.mp q4;cases q6i h1 q2;cases q6i h2 q3
 split at q4
 ·rename_i z
  cases q4;exact⟨z,q5 _ F H (.refl q1) (rep_bl.mpr rfl)⟩
 ·cases q4
theorem qc7:OpR X (compareOp .NotEq) (rD X.K q7f):=q16 qt1 fun x y H Q ⟨F,d1,d2,d,q1,q2,q3,q4,q5⟩=>by
 obtain⟨u,h1,q4⟩:=gh.mp q4;obtain⟨w,h2,q4⟩:=gh.mp q4;cases q6i h1 q2;cases q6i h2 q3
 split at q4
 ·rename_i z
  cases q4;exact⟨z,q5 _ F H (.refl q1) (rep_bl.mpr rfl)⟩
 ·cases q4
theorem q5i{op:CmpOp}{o:D->D->Option D}(ho:OpR X (compareOp op) (rD X.K o))(ha:PE X a (tD X.K f))(hb:PE X b (tD X.K g))(hm:behindInMarks op b=false:=by first|exact qbv _ (by decide) (by decide)|rfl):
  PE X (.Compare a [op] [b] pos) (tD X.K (eOp o f g)):=zx (qo2 ho ha hb hm) fun σ H Q h=>two h
def qc8:D->Option Bool
 | .non=>some false
 | .bl b=>some b
 | .int i=>some (i != 0)
 | .tup ds=>some (!ds.isEmpty)
 | .lst ds=>some (!ds.isEmpty)
 | .str x=>if x.length<=lim then some ((x.length:Int) != 0) else none
 | _=>none
def bT(f:FE): FT:=fun ρ =>(f ρ).bind qc8
theorem qrd{K:Frag}{F H:Hp}{d:D}{b:Bool}{v:V}(h:qc8 d=some b)(fh:Same F H)(r:Rep K F d v): qko K v H b:=by
 cases d with
 | non=>cases h;rw [rep_non.mp r];rfl
 | bl c=>cases h;rw [rep_bl.mp r];rfl
 | int i=>cases h;rw [rep_int.mp r];rfl
 | str x=>
  simp only [qc8] at h
  split at h
  ·rename_i z
   cases h;rw [rep_str.mp r];exact⟨va z,rfl⟩
  ·cases h
 | tup ds=>
  cases h;obtain⟨p,xs,rfl,q1,q2⟩:=rep_tup.mp r;refine .inr (.inl ⟨xs,ql fh q1,?_⟩);cases ds with
  | nil=>rw [q2.nil_inv];rfl
  | cons d ds=>obtain⟨y,r',rfl,_⟩:=q2.cons_inv;rfl
 | lst ds=>
  cases h;obtain⟨p,xs,rfl,q1,q2⟩:=rep_lst.mp r;refine .inl ⟨xs,fh.seq q1,?_⟩;cases ds with
  | nil=>rw [q2.nil_inv];rfl
  | cons d ds=>obtain⟨y,r',rfl,_⟩:=q2.cons_inv;rfl
 | dct _ _=>cases h
 | dtt _ _=>cases h
 | obj _=>cases h
 | exc _=>cases h
theorem ky(ha:PE X a (tD X.K f))(he:∀whole,isTrue a X.env whole=(do let v <- whole;standAt a.pos;holding [v] (truthy v)):=by intro _;rfl): PT X a (tDT X.K (bT f)):=
 qc3 (qkp ha he) fun σ H Q ⟨F0,H0,F, ρ,b,r,hf,q⟩=>by
  obtain⟨d,h1,h2⟩:=gh.mp hf;exact⟨F0,H0,F, ρ,d,r,h1,fun v F' H' g' r'=>⟨b,qrd h2 g'.fh r',q F' H' g'⟩⟩
def isB:D->Option Bool
 | .bl b=>some b
 | _=>none
def zy(o:D->D->Option D)(f g:FE): FT:=fun ρ =>(eOp o f g ρ).bind isB
theorem jq{op:CmpOp}{o:D->D->Option D}(ho:OpR X (compareOp op) (rD X.K o))(ha:PE X a (tD X.K f))(hb:PE X b (tD X.K g))(hm:behindInMarks op b=false:=by first|exact qbv _ (by decide) (by decide)|rfl):
  PT X (.Compare a [op] [b] pos) (tDT X.K (zy o f g)):=qc3 (qo3 ho ha hb hm) fun σ H Q ⟨F0,H0,F, ρ,c,r,hf,q⟩=>by
 obtain⟨d,h1,h2⟩:=gh.mp hf;refine two ⟨F0,H0,F, ρ,d,r,h1,fun v F' H' g' r'=>?_⟩;cases d <;> simp only [isB] at h2 <;> first|(cases h2;done)|skip
 cases h2;exact⟨_,rep_bl.mp r',q F' H' g'⟩
def q5j(t:FT): FT:=fun ρ =>(t ρ).map not
def qun(t u:FT): FT:=fun ρ =>(t ρ).bind fun c=>if c then u ρ else some false
def bOr(t u:FT): FT:=fun ρ =>(t ρ).bind fun c=>if c then some true else u ρ
variable{t u:FT}{rest:List Expr}
theorem q3x(ha:PT X a (tDT X.K t)): PT X (.UnaryOp .Not a pos) (tDT X.K (q5j t)):=qc3 (qqh ha) fun σ H Q ⟨F0,H0,F, ρ,c,r,hf,q⟩=>by
 obtain⟨d,h1,h2⟩:=ml.mp hf;subst h2;exact⟨F0,H0,F, ρ,d,r,h1,fun F' H' g'=>q F' H' g'⟩
theorem qre{t t':TT}(h:PW X a t)(i:∀ σ H Q,t' σ H Q->t σ H Q): PW X a t':=fun wh pins s σ H Q I q=>h wh pins s σ H Q I (i σ H Q q)
theorem qih(ha:PT X a (tDT X.K t)): PW X (.BoolOp .Or [a] pos) (tDT X.K t):=qqg ha
theorem qnj(ha:PT X a (tDT X.K t))(hb:PW X (.BoolOp .Or (b :: rest) pos) (tDT X.K u)): PW X (.BoolOp .Or (a :: b :: rest) pos) (tDT X.K (bOr t u)):=qre (qsr ha hb) fun σ H Q ⟨F0,H0,F, ρ,c,r,hf,q⟩=>by
 obtain⟨d,h1,h2⟩:=gh.mp hf;refine⟨F0,H0,F, ρ,d,r,h1,fun F' H' g'=>?_⟩;cases d with
 | false=>rw [mj m9] at h2 ⊢;exact⟨F0,H0,F', ρ,c,r.grow g',h2,fun F2 H2 g2=>q F2 H2 (g'.trans g2)⟩
 | true=>rw [mq rfl] at h2 ⊢;cases h2;exact q F' H' g'
def q7g(f g:FE): FE:=fun ρ =>(f ρ).bind fun x=>(isB x).bind fun c=>if c then g ρ else some (.bl false)
def eOr(f g:FE): FE:=fun ρ =>(f ρ).bind fun x=>(isB x).bind fun c=>if c then some (.bl true) else g ρ
def qgk(f:FE): FE:=fun ρ =>(f ρ).bind fun x=>(isB x).map fun c=>.bl (!c)
def eIf(t:FT)(f g:FE): FE:=fun ρ =>(t ρ).bind fun c=>if c then f ρ else g ρ
theorem q4f{d:D}{c:Bool}(h:isB d=some c): d=.bl c:=by
 cases d <;> simp only [isB] at h <;> first|(cases h;done)|skip
 rw [mh h]
theorem q8b{op}(h:PE X a (tD X.K f)): PE X (.BoolOp op [a] pos) (tD X.K f):=qqi h
theorem q5k(ha:PE X a (tD X.K f))(hb:PE X (.BoolOp .And (b :: rest) pos) (tD X.K g)): PE X (.BoolOp .And (a :: b :: rest) pos) (tD X.K (q7g f g)):=zx (qqj ha hb) fun σ H Q ⟨F0,H0,F, ρ,d,r,hf,q⟩=>by
 obtain⟨x,h1,hf⟩:=gh.mp hf;obtain⟨c,h2,h3⟩:=gh.mp hf;refine⟨F0,H0,F, ρ,x,r,h1,fun v F' H' g' r'=>?_⟩;rw [q4f h2] at r';refine⟨c,rep_bl.mp r',?_⟩;cases c with
 | true=>rw [mq rfl] at h3 ⊢;exact⟨F0,H0,F', ρ,d,r.grow g',h3,fun w F2 H2 g2 r2=>q w F2 H2 (g'.trans g2) r2⟩
 | false=>rw [mj m9] at h3 ⊢;cases h3;exact q _ F' H' g' (rep_bl.mpr rfl)
theorem qtg(ha:PE X a (tD X.K f))(hb:PE X (.BoolOp .Or (b :: rest) pos) (tD X.K g)): PE X (.BoolOp .Or (a :: b :: rest) pos) (tD X.K (eOr f g)):=zx (qsu ha hb) fun σ H Q ⟨F0,H0,F, ρ,d,r,hf,q⟩=>by
 obtain⟨x,h1,hf⟩:=gh.mp hf;obtain⟨c,h2,h3⟩:=gh.mp hf;refine⟨F0,H0,F, ρ,x,r,h1,fun v F' H' g' r'=>?_⟩;rw [q4f h2] at r';refine⟨c,rep_bl.mp r',?_⟩;cases c with
 | false=>rw [mj m9] at h3 ⊢;exact⟨F0,H0,F', ρ,d,r.grow g',h3,fun w F2 H2 g2 r2=>q w F2 H2 (g'.trans g2) r2⟩
 | true=>rw [mq rfl] at h3 ⊢;cases h3;exact q _ F' H' g' (rep_bl.mpr rfl)
theorem qii(ha:PE X a (tD X.K f)): PE X (.UnaryOp .Not a pos) (tD X.K (qgk f)):=zx (qqk ha) fun σ H Q ⟨F0,H0,F, ρ,d,r,hf,q⟩=>by
 obtain⟨x,h1,hf⟩:=gh.mp hf;obtain⟨c,h2,h3⟩:=ml.mp hf;subst h3;refine⟨F0,H0,F, ρ,x,r,h1,fun v F' H' g' r'=>?_⟩;rw [q4f h2] at r';exact⟨c,rep_bl.mp r',q _ F' H' g' (rep_bl.mpr rfl)⟩
theorem qth{c:Expr}(hc:PT X c (tDT X.K t))(ha:PE X a (tD X.K f))(hb:PE X b (tD X.K g)): PE X (.IfExp c a b pos) (tD X.K (eIf t f g)):=zx (qkh hc ha hb) fun σ H Q ⟨F0,H0,F, ρ,d,r,hf,q⟩=>by
 obtain⟨x,h1,h2⟩:=gh.mp hf;refine⟨F0,H0,F, ρ,x,r,h1,fun F' H' g'=>?_⟩;cases x with
 | true=>rw [mq rfl] at h2 ⊢;exact⟨F0,H0,F', ρ,d,r.grow g',h2,fun w F2 H2 g2 r2=>q w F2 H2 (g'.trans g2) r2⟩
 | false=>rw [mj m9] at h2 ⊢;exact⟨F0,H0,F', ρ,d,r.grow g',h2,fun w F2 H2 g2 r2=>q w F2 H2 (g'.trans g2) r2⟩
end
section
variable{X:Cx}{e:Expr}{es:List Expr}{pos:Pos}{f g:FE}{fa:FA}
def notStar:Expr->Bool
 | .Starred _ _=>false
 | _=>true
theorem q6j{e:Expr}{es:List Expr}{env:Env}(h:notStar e=true): starEach (e :: es) env=(false,eval e env) :: starEach es env:=by
 cases e <;> first|rfl|cases h
def qe:FA:=fun _=>some []
def qa(f:FE)(fa:FA): FA:=fun ρ =>(f ρ).bind fun d=>(fa ρ).map fun ds=>d :: ds
theorem qd:PA X [] (tDA X.K qe):=qig q2j fun σ H Q ⟨F0,H0,F, ρ,ds,r,hf,q⟩=>by
 cases hf;exact q [] F H (.refl r.fh) .nil
theorem qfe(ha:PE X e (tD X.K f))(hr:PA X es (tDA X.K fa))(hs:starEach (e :: es) X.env=(false,eval e X.env) :: starEach es X.env:=by first|exact q6j rfl|rfl): PA X (e :: es) (tDA X.K (qa f fa)):=
 qig (q0m ha hr hs) fun σ H Q ⟨F0,H0,F, ρ,ds,r,hf,q⟩=>by
  obtain⟨d,h1,hf⟩:=gh.mp hf;obtain⟨ds',h2,h3⟩:=ml.mp hf;subst h3;refine⟨F0,H0,F, ρ,d,r,h1,fun v F1 H1 g1 r1=>⟨F0,H0,F1, ρ,ds',r.grow g1,h2,fun vs F2 H2 g2 r2=>?_⟩⟩;exact q _ F2 H2 (g1.trans g2) (.cons (r1.mono g2.ff) r2)
def j7(fa:FA): FE:=fun ρ =>(fa ρ).bind fun ds=>if ds.length<=lim then some (.tup ds) else none
def yu(fa:FA): FA:=fun ρ =>(fa ρ).bind fun ds=>if ds.length<=lim then some ds else none
theorem jz{x1}(h:PA X es (tDA X.K fa)): PE X (.Tuple es x1 pos) (tD X.K (j7 fa)):=zx (qqz h) fun σ H Q ⟨F0,H0,F, ρ,d,r,hf,q⟩=>by
 obtain⟨ds,h1,h2⟩:=gh.mp hf
 split at h2
 ·rename_i hl
  cases h2;refine⟨F0,H0,F, ρ,ds,r,h1,fun vs F1 H1 g1 r1=>⟨va (by rw [<- r1.length];exact hl),fun p hp=>?_⟩⟩;have gn:Grow F1 H1 (upd F1 p (.tup vs)) (upd H1 p (.tup vs)):=Grow.new g1.fh hp;exact q _ _ _ (g1.trans gn) (rep_tup.mpr ⟨p,vs,rfl,SqT.of qt,r1.mono gn.ff⟩)
 ·cases h2
theorem vb(h:PA X es (tDA X.K fa)): PE X (.List es pos) (tL X.K (yu fa)):=zx (qr0 h) fun σ H Q ⟨F0,H0,F, ρ,ds,r,hf,q⟩=>by
 obtain⟨ds',h1,h2⟩:=gh.mp hf
 split at h2
 ·rename_i hl
  cases h2;refine⟨F0,H0,F, ρ,ds,r,h1,fun vs F1 H1 g1 r1=>⟨va (by rw [<- r1.length];exact hl),fun p hp=>?_⟩⟩;exact q p vs F1 (upd H1 p (.lst vs)) (g1.trans (Grow.own g1.fh hp)) (g1.fh.free hp) (g1.hh.free hp) qt r1
 ·cases h2
def eL(fa:FA): FE:=fun ρ =>(fa ρ).map .lst
theorem ju(h:PE X e (tL X.K fa)): PE X e (tD X.K (eL fa)):=zx h fun σ H Q ⟨F0,H0,F, ρ,d,r,hf,q⟩=>by
 obtain⟨ds,h1,h2⟩:=ml.mp hf;subst h2;refine⟨F0,H0,F, ρ,ds,r,h1,fun a xs F1 H1 g1 fa' ha' hl r1=>?_⟩;have sF:Same F1 (upd F1 a (.lst xs)):=q4e fa';refine q _ (upd F1 a (.lst xs)) H1 ⟨g1.ff.trans sF,g1.hh,fun b o z=>?_,fun b hb=>?_⟩ (rep_lst.mpr ⟨a,xs,rfl,SqL.of qt,r1.mono sF⟩)
 ·by_cases q':b=a
  ·subst q';rw [qt] at z;cases z;exact hl
  ·rw [qk q'] at z;exact g1.fh b o z
 ·by_cases q':b=a
  ·subst q';exact .inr ha'
  ·rw [qk q'] at hb;exact g1.nw b hb
def rC(K:Frag)(op:List D->Option D): List V->Hp->VK->Prop:=fun xs H Q=>∃F ds d,Same F H/\RepL K F ds xs/\op ds=some d/\∀v F' H',Grow F H F' H'->Rep K F' d v->Q v H'
def qf(op:List D->Option D)(fa:FA): FE:=fun ρ =>(fa ρ).bind op
theorem q0n{f:Value}{r r':List V->Hp->VK->Prop}(h:j6 X f r)(i:∀xs H Q,r' xs H Q->r xs H Q): j6 X f r':=fun pins s σ H xs us Q I rv q=>h pins s σ H xs us Q I rv (i xs H Q q)
theorem qij{K:Frag}{op:List D->Option D}{σ : St}{H:Hp}{Q:VK}(h:tD K (qf op fa) σ H Q): tDA K fa σ H fun vs H1=>rC K op vs H1 Q:=by
 obtain⟨F0,H0,F, ρ,d,r,hf,q⟩:=h;obtain⟨ds,h1,h2⟩:=gh.mp hf;exact⟨F0,H0,F, ρ,ds,r,h1,fun vs F1 H1 g1 r1=>⟨F1,ds,d,g1.fh,r1,h2,fun v F2 H2 g2 r2=>q v F2 H2 (g1.trans g2) r2⟩⟩
theorem zi{x:Str}{p:Pos}{id:String}{op:List D->Option D}(hc:j6 X (.builtin id) (rC X.K op))(hg:Gl X x)(hm:X.mg x=none)(hv:bootBuiltins x=some (.builtin id))(ha:PA X (e :: es) (tDA X.K fa))
  (hn:x≠"__name__" :=by decide) (hdb:(x==("__debug__" : Str))=false:=by decide)
  (he:starEach (e :: es) X.env=(false,eval e X.env) :: starEach es X.env:=by rfl) (hpl:(backTo pos (starEach es X.env)).any (·.1)=false:=by rfl):PE X (.Call (.Name x p) (e :: es) [] pos) (tD X.K (qf op fa)):=
 zx (q7d hc hg hm hv ha hn hdb he hpl) fun σ H Q h=>qij h
theorem ja{x:Str}{p:Pos}{T:String}{op:List D->Option D}(hc:j6 X (.type T) (rC X.K op))(hg:Gl X x)(hm:X.mg x=none)(hv:bootBuiltins x=some (.type T))(ha:PA X (e :: es) (tDA X.K fa))
  (hn:x≠"__name__" :=by decide) (hdb:(x==("__debug__" : Str))=false:=by decide)
  (he:starEach (e :: es) X.env=(false,eval e X.env) :: starEach es X.env:=by rfl) (hpl:(backTo pos (starEach es X.env)).any (·.1)=false:=by rfl):PE X (.Call (.Name x p) (e :: es) [] pos) (tD X.K (qf op fa)):=
 zx (q38 hc hg hm hv ha hn hdb he hpl) fun σ H Q h=>qij h
def spD(K:Frag)(ar:Nat)(op:List D->Option D): Sp:=fun vs H Q _=>∃F ds d,SameT F H/\RepL K F ds vs/\ds.length=ar/\op ds=some d/\∀v F' H',Grow F H F' H'->Rep K F' d v->Q v H'
theorem SameT.grow{F H F' H':Hp}(s:SameT F H)(g:Grow F H F' H'): SameT F' H':=⟨g.fh,g.hh.tb s.t,fun p hp=>by
 cases q:F' p.1 with
 | none=>rfl
 | some o=>
  rcases g.nw p.1 (by rw [q];simp) with z|z
  ·exact absurd (s.f p hp) z
  ·obtain⟨ps,e,_⟩:=s.t p hp
   rw [e] at z;cases z⟩
def qo(ar:Nat)(dds:List D)(op:List D->Option D): List D->Option D:=fun ds=>if(ds++dds).length=ar then op (ds++dds) else none
theorem qoe{k ar:Nat}{fn:Addr}{fd:FuncData}{ps:List Str}{op:List D->Option D}{x:Str}{p:Pos}{dvs:List V}{dds:List D}{dv:List Value}(F:FnOk X.prog X.w X.K X.mg X.base CX0 k fn fd ps (spD X.K ar op))(hr:Room k X.A)(hg:Gl X x)(hm:X.mg x=some (.ref fn))(hk:PySem.W.keepIn X.K (.ref fn)=true)
  (hb:Binds X.K fd ps dv) (hd:Vals dvs dv) (hdd:∀H,RepL X.K H dds dvs) (ha:PA X (e :: es) (tDA X.K fa)) (hdb:(x==("__debug__" : Str))=false:=by decide)
  (he:starEach (e :: es) X.env=(false,eval e X.env) :: starEach es X.env:=by rfl) (hpl:(backTo pos (starEach es X.env)).any (·.1)=false:=by rfl) :
  PE X (.Call (.Name x p) (e :: es) [] pos) (tD X.K (qf (qo ar dds op) fa)):=
 zx (qo4 F hr hg hm hk hb hd qnh ha hdb he hpl) fun σ H Q ⟨F0,H0,Fz, ρ,d,r,hf,q⟩=>by
  obtain⟨ds,h1,h2⟩:=gh.mp hf;unfold qo at h2
  split at h2
  ·rename_i hl
   exact⟨F0,H0,Fz, ρ,ds,r,h1,fun vs F1 H1 g1 r1=>⟨F1,ds++dds,d,r.sameT g1,r1.append (hdd F1),hl,h2,fun v F2 H2 g2 r2=>q v F2 H2 (g1.trans g2) r2⟩⟩
  ·cases h2
end
section
variable{X:Cx}{st:Stmt}{rest:List Stmt}{e:Expr}{pos:Pos}{f:FE}{fa:FA}{t:FT}{u w:FS}
def yk:FS:=fun ρ =>some (.nx, ρ)
def qz(u w:FS): FS:=fun ρ =>(u ρ).bind fun r=>match r with
 | (.nx, ρ')=>w ρ'
 | (fl, ρ')=>some (fl, ρ')
def sIf(t:FT)(u w:FS): FS:=fun ρ =>(t ρ).bind fun c=>if c then u ρ else w ρ
def zp(i:Nat)(f:FE): FS:=fun ρ =>(f ρ).map fun d=>(.nx, ρ.set i (some (.fz d)))
def q0e(i:Nat)(fa:FA): FS:=fun ρ =>(fa ρ).map fun ds=>(.nx, ρ.set i (some (.ow ds)))
def zb(f:FE): FS:=fun ρ =>(f ρ).map fun d=>(.rt d, ρ)
def qti:FS:=fun ρ =>some (.rt .non, ρ)
def quo:FS:=fun ρ =>some (.bk, ρ)
def qup:FS:=fun ρ =>some (.ct, ρ)
def qtj(f:FE): FS:=fun ρ =>(f ρ).map fun _=>(.nx, ρ)
theorem x9:PSs X [] (tDS X.K yk):=q9h qnx fun D σ H ⟨F0,H0,F, ρ,fl, ρ',r,hf,q⟩=>by
 cases hf;exact q σ F H (.refl _) r
theorem q4g{K:Frag}{F0 H0 F F':Hp}{D:Ends}{fl:Fl}{ρ':Rho}(s:Same F F')(h:qgi K F0 H0 F D fl ρ'): qgi K F0 H0 F' D fl ρ':=by
 cases fl with
 | nx=>exact fun σ' F2 H2 s2 r=>h σ' F2 H2 (s.trans s2) r
 | bk=>exact fun σ' F2 H2 s2 r=>h σ' F2 H2 (s.trans s2) r
 | ct=>exact fun σ' F2 H2 s2 r=>h σ' F2 H2 (s.trans s2) r
 | rt d=>exact h
theorem qh(h1:PS X st (tDS X.K u))(h2:PSs X rest (tDS X.K w)): PSs X (st :: rest) (tDS X.K (qz u w)):=q9h (qki h1 h2) fun D σ H ⟨F0,H0,F, ρ,fl, ρ',r,hf,q⟩=>by
 obtain⟨⟨fl1, ρ1⟩,h3,h4⟩:=gh.mp hf;refine⟨F0,H0,F, ρ,fl1, ρ1,r,h3,?_⟩;cases fl1 with
 | nx=>exact fun σ' F' H' s r'=>⟨F0,H0,F', ρ1,fl, ρ',r',h4,q4g s q⟩
 | bk=>cases h4;exact q
 | ct=>cases h4;exact q
 | rt d=>cases h4;exact q
theorem qj(h1:PS X st (tDS X.K u)): PSs X [st] (tDS X.K u):=qny h1
theorem vw{c:Expr}{a b:List Stmt}(hc:PT X c (tDT X.K t))(ha:PSs X a (tDS X.K u))(hb:PSs X b (tDS X.K w)): PS X (.If c a b pos) (tDS X.K (sIf t u w)):=q0u (qsw hc ha hb) fun D σ H ⟨F0,H0,F, ρ,fl, ρ',r,hf,q⟩=>by
 obtain⟨c,h1,h2⟩:=gh.mp hf;refine⟨F0,H0,F, ρ,c,r,h1,fun F' H' g'=>?_⟩;cases c with
 | true=>rw [mq rfl] at h2 ⊢;exact⟨F0,H0,F', ρ,fl, ρ',r.grow g',h2,q4g g'.ff q⟩
 | false=>rw [mj m9] at h2 ⊢;exact⟨F0,H0,F', ρ,fl, ρ',r.grow g',h2,q4g g'.ff q⟩
theorem z0(he:PE X e (tD X.K f)): PS X (.Return (some e) pos) (tDS X.K (zb f)):=q0u (qql he) fun D σ H ⟨F0,H0,F, ρ,fl, ρ',r,hf,q⟩=>by
 obtain⟨d,h1,h2⟩:=ml.mp hf;cases h2;exact⟨F0,H0,F, ρ,d,r,h1,fun v F' H' g' r'=>q v F' H' (r.g.trans g') r'⟩
theorem qtk{K:Frag}{i:Nat}{D:Ends}{σ : St}{H:Hp}(h:tDS K (zp i f) D σ H): tD K f σ H fun x H1=>q6g i x σ H1 D.nx:=by
 obtain⟨F0,H0,F, ρ,fl, ρ',r,hf,q⟩:=h;obtain⟨d,h1,h2⟩:=ml.mp hf;cases h2;exact⟨F0,H0,F, ρ,d,r,h1,fun v F' H' g' r'=>q _ F' H' g'.ff ((r.grow g').set i r')⟩
theorem qnk{K:Frag}{i:Nat}{D:Ends}{σ : St}{H:Hp}(h:tDS K (q0e i fa) D σ H): tL K fa σ H fun x H1=>q6g i x σ H1 D.nx:=by
 obtain⟨F0,H0,F, ρ,fl, ρ',r,hf,q⟩:=h;obtain⟨ds,h1,h2⟩:=ml.mp hf;cases h2;refine⟨F0,H0,F, ρ,ds,r,h1,fun a xs F' H' g' fa' ha' hl r'=>q _ F' H' g'.ff ((r.grow g').setO i hl fa' (r.g.hh.free ha') r' (fun j es z1 z2=>?_) fun j kvs z1=>?_)⟩
 ·obtain⟨b,ys,e1,e2,_⟩:=r.ow j es z1
  rw [z2] at e1;obtain rfl:a=b:=by simpa using e1
  rw [ha'] at e2;cases e2
 ·obtain⟨b,bs,e1,e2,e3⟩:=r.od j kvs z1
  refine⟨b,bs,e1,e2.grow g',fun z=>?_,e3⟩;obtain⟨xs,f,_⟩:=e2.mem z;rw [ha'] at f;cases f
theorem z9{i:Nat}{x:Str}{px:Pos}(hN:X.N.Nodup)(hi:X.N[i]? = some x)(hx:Loc X.env.scope x)(he:PE X e (tD X.K f))(hs:swapsWith e (some (.Name x px)) pos.line X.env=pure false:=by rfl)(hf:X.fn x=true\/X.env.scope.names.lookup x=some .local:=by first|exact .inl rfl|exact .inr rfl|assumption):
  PS X (.Assign [.Name x px] e pos) (tDS X.K (zp i f)):=q0u (qhv hN hi hx he hs hf) fun D σ H h=>qtk h
theorem q1l{i:Nat}{x:Str}{px:Pos}(hN:X.N.Nodup)(hi:X.N[i]? = some x)(hx:Loc X.env.scope x)(he:PE X e (tL X.K fa))(hs:swapsWith e (some (.Name x px)) pos.line X.env=pure false:=by rfl)(hf:X.fn x=true\/X.env.scope.names.lookup x=some .local:=by first|exact .inl rfl|exact .inr rfl|assumption):
  PS X (.Assign [.Name x px] e pos) (tDS X.K (q0e i fa)):=q0u (qhv hN hi hx he hs hf) fun D σ H h=>qnk h
def q7h(i:Nat)(ρ : Rho): Option (List D):=match ρ[i]? with
 | some (some (.ow ds))=>some ds
 | _=>none
theorem qag{i:Nat}{ρ : Rho}{ds:List D}(h:q7h i ρ = some ds): ρ[i]? = some (some (.ow ds)):=by
 unfold q7h at h
 split at h
 ·rename_i e;rw [e,mh h]
 ·cases h
def wz(i:Nat)(f:FE): FS:=fun ρ =>(q7h i ρ).bind fun ds=>(f ρ).bind fun d=>if ds.length<lim then some (.nx, ρ.set i (some (.ow (ds++[d])))) else none
theorem q2n{i:Nat}{x:Str}{px apos cpos:Pos}(hv:PE X (.Name x px) (qbu i))(he:PE X e (tD X.K f))
  (hbase:attributeBase (.Name x px) "append" X.env (eval (.Name x px) X.env)=eval (.Name x px) X.env:=by rfl)
  (hfew:((backTo cpos (starEach [e] X.env)).all (fun x=> !x.1)&&(backToKw cpos (keywordEach [] X.env)).all (fun x=>x.1.isSome)&&decide ([e].length+([]:List Keyword).length+(if([]:List Keyword).isEmpty then 0 else 1)<30))=true:=by rfl)
  (hline:(apos.endLine==cpos.line)=true:=by rfl) (hse:starEach [e] X.env=(false,eval e X.env) :: starEach [] X.env:=by rfl)
  (hs:swapsWith (.Call (.Attribute (.Name x px) "append" apos) [e] [] cpos) none pos.line X.env=pure false:=by rfl):PS X (.Expr (.Call (.Attribute (.Name x px) "append" apos) [e] [] cpos) pos) (tDS X.K (wz i f)):=
 q0u (qf4 (qng g52 PySem.F.slot_list_append PySem.F.type_list_append q5d hv (q0m he q2j hse) hbase hfew hline hse rfl) hs) fun D σ H ⟨F0,H0,F, ρ,fl, ρ',r,hf,q⟩=>by
  obtain⟨ds,h1,hf⟩:=gh.mp hf;obtain⟨d,h2,h3⟩:=gh.mp hf;have h1:=qag h1
  split at h3
  ·rename_i hl
   cases h3;obtain⟨a,xs,e1,e2,e3,e4,e5⟩:=r.ow i ds h1;refine⟨.ref a,e1,.inl ⟨rfl,xs,SqL.of e2⟩,F0,H0,F, ρ,d,r,h2,fun v F' H' g' r'=>?_⟩;have r2:=r.grow g';refine⟨a,xs,v,rfl,rfl,g'.hh.lst _ _ e2,qaf (by rw [<- e5.length];exact hl),?_⟩;exact q _ F' _ g'.ff (r2.wrt h1 e1 ((e5.mono g'.ff).append (.cons r' .nil)))
  ·cases h3
def frz(i:Nat)(ρ : Rho): Rho:=match ρ[i]? with
 | some (some (.ow ds))=> ρ.set i (some (.fz (.lst ds)))
 | _=> ρ
def q0f(i:Nat)(u:FS): FS:=fun ρ =>u (frz i ρ)
theorem qrf{K:Frag}{F0 H0 F H:Hp}{σ : St}{ρ : Rho}(i:Nat)(r:RS K F0 H0 F H σ ρ): ∃F',Same F F'/\RS K F0 H0 F' H σ (frz i ρ):=by
 unfold frz
 split
 ·rename_i ds h
  exact r.freeze h
 ·exact⟨F,.refl _,r⟩
theorem yl(i:Nat){sts:List Stmt}(h:PSs X sts (tDS X.K u)): PSs X sts (tDS X.K (q0f i u)):=q9h h fun D σ H ⟨F0,H0,F, ρ,fl, ρ',r,hf,q⟩=>by
 obtain⟨F',s',r'⟩:=qrf i r;exact⟨F0,H0,F',frz i ρ,fl, ρ',r',hf,q4g s' q⟩
end
def z7(n:Nat)(u:FS)(ds:List D): Option D:=match u (ds.map (fun d=>some (.fz d))++List.replicate (n-ds.length) none) with
 | some (.rt d,_)=>some d
 | some (.nx,_)=>some .non
 | _=>none
theorem qik{N:List Str}{vs:List V}{i:Nat}{v:V}(h:vs[i]? = some v): (L2.start N vs)[i]? = some (some v):=by
 unfold L2.start;have hi:i<vs.length:=(ni.mp h).1;rw [p9 (by simpa using hi),n9,h];rfl
theorem qil{P:Program}{w:World}{K:Frag}{H:Hp}{vs:List V}{Q:VK}{N:List Str}{u:FS}{ar:Nat}{E:XK}(hl:ar<=N.length)(h:spD K ar (z7 N.length u) vs H Q E): tDS K u {nx:=fun _ H'=>Q .non H',rt:=Q} (L2.start N vs) H:=by
 obtain⟨F,ds,d,fh,rl,el,hd,q⟩:=h;have hlen:=rl.length;have r:RS K F H F H (L2.start N vs) (ds.map (fun d=>some (.fz d))++List.replicate (N.length-ds.length) none):={
  t0:=⟨fh.t,fh.f⟩
  g:=.refl fh.s
  len:=by unfold L2.start;simp only [nj,mv,g39];omega
  fz :=fun i e h1=>by
   by_cases hi:i<ds.length
   ·rw [p9 (by simpa using hi),n9] at h1
    cases z:ds[i]? with
    | none=>rw [z] at h1;cases h1
    | some d'=>
     rw [z] at h1;cases h1;obtain⟨v,e1,e2⟩:=rl.get z;exact⟨v,qik e1,e2⟩
   ·rw [p6 (by simpa using hi),ui] at h1
    split at h1 <;> cases h1
  ow:=fun i es h1=>by
   by_cases hi:i<ds.length
   ·rw [p9 (by simpa using hi),n9] at h1
    cases z:ds[i]? with
    | none=>rw [z] at h1;cases h1
    | some d'=>rw [z] at h1;cases h1
   ·rw [p6 (by simpa using hi),ui] at h1
    split at h1 <;> cases h1
  dj:=fun i j us es a _ h1=>by
   by_cases hi:i<ds.length
   ·rw [p9 (by simpa using hi),n9] at h1
    cases z:ds[i]? with
    | none=>rw [z] at h1;cases h1
    | some d'=>rw [z] at h1;cases h1
   ·rw [p6 (by simpa using hi),ui] at h1
    split at h1 <;> cases h1
  od:=fun i kvs h1=>by
   by_cases hi:i<ds.length
   ·rw [p9 (by simpa using hi),n9] at h1
    cases z:ds[i]? with
    | none=>rw [z] at h1;cases h1
    | some d'=>rw [z] at h1;cases h1
   ·rw [p6 (by simpa using hi),ui] at h1
    split at h1 <;> cases h1
  o1:=fun i j k1 k2 h1=>by
   by_cases hi:i<ds.length
   ·rw [p9 (by simpa using hi),n9] at h1
    cases z:ds[i]? with
    | none=>rw [z] at h1;cases h1
    | some d'=>rw [z] at h1;cases h1
   ·rw [p6 (by simpa using hi),ui] at h1
    split at h1 <;> cases h1}
 unfold z7 at hd;cases z:u (ds.map (fun d=>some (.fz d))++List.replicate (N.length-ds.length) none) with
 | none=>rw [z] at hd;cases hd
 | some p=>
  obtain⟨fl, ρ'⟩:=p;rw [z] at hd;refine⟨F,H,F,_,fl, ρ',r,z,?_⟩;cases fl with
  | nx=>cases hd;exact fun σ' F' H' s' r'=>q .non F' H' r'.g (rep_non.mpr rfl)
  | bk=>cases hd
  | ct=>cases hd
  | rt d'=>cases hd;exact fun v F' H' g' r'=>q v F' H' g' r'
theorem qnl{P:Program}{w:World}{K:Frag}{mg:Str->Option Value}{base:Heap}{k:Nat}{f:Addr}{name qual:Str}{params:Arguments}{body:List Stmt}{scope:Scope}{dV kV doc pm cdv ct oc:Value}{an od:Option Addr}
  {osl:Array (Option Value)} {N ps:List Str} {u:FS} (lk:K.lookup f=some ⟨oc,od,.func (PySem.W.fnOf name qual params body scope dV kV doc pm an cdv ct),osl⟩) (hcd:PySem.W.codeIn K cdv qual=true) (S:FnScope N ps scope)
  (hb:∀(A:Around) (outer:List Env) (s:Shared) (H:Hp) (E:XK),Room k (A.deeper (envOfC qual scope s.heap.objs.size f cdv))->PSs (zg CX0 P w K mg base N qual scope f cdv A outer s H E).nox body (tDS K u)) :
  FnOk P w K mg base CX0 (k+1) f (PySem.W.fnOf name qual params body scope dV kV doc pm an cdv ct) ps (spD K ps.length (z7 N.length u)):=by
 have hpl:ps.length<=N.length:=by have:=g06 List.length S.pre;rw [tx] at this;omega
 refine qta lk hcd S (fun vs H Q E h=>?_) fun A outer s H vs Q E hr hsp=>⟨_,(hb A outer s H E hr).nox,qil (P:=P) (w:=w) hpl hsp⟩
 obtain⟨F,ds,d,_,rl,el,_⟩:=h;rw [<- rl.length];exact el
structure ItD(K:Frag)(F:Hp)(ds:List D)(J:It): Prop where
 go:∀(i:Nat) (F' H:Hp),Same F F'->Same F' H->i<ds.length->J.go i H
 yld:∀(i:Nat) (d:D) (F' H:Hp) (x:V) (H':Hp),Same F F'->Same F' H->ds[i]? = some d->J.yld i H x H'->∃F'',Grow F' H F'' H'/\Rep K F'' d x
 stop:∀(i:Nat) (F' H:Hp),Same F F'->Same F' H->ds.length<=i->J.stop i H
def tDI(K:Frag)(f:FA): TI:=fun σ H R=>∃F0 H0 F ρ ds,RS K F0 H0 F H σ ρ /\ f ρ = some ds/\∀J F' H',Grow F H F' H'->ItD K F' ds J->R J H'
abbrev FB:=D->Rho->Option Rho
abbrev FBs:=List D->Rho->Option Rho
def tDG(K:Frag)(b:FB): TG:=fun v σ H Q=>∃F0 H0 F ρ d ρ',RS K F0 H0 F H σ ρ /\ Rep K F d v/\b d ρ = some ρ'/\∀ σ',RS K F0 H0 F H σ' ρ'->Q σ' H
def qgl(K:Frag)(b:FBs): TGs:=fun vs σ H Q=>∃F0 H0 F ρ ds ρ',RS K F0 H0 F H σ ρ /\ RepL K F ds vs/\b ds ρ = some ρ'/\∀ σ',RS K F0 H0 F H σ' ρ'->Q σ' H
section
variable{X:Cx}{tg e:Expr}{es:List Expr}{pos:Pos}
theorem q5l{t t':TI}(h:PI X tg e t)(i:∀ σ H R,t' σ H R->t σ H R): PI X tg e t':=fun pins s σ H R I q=>h pins s σ H R I (i σ H R q)
theorem qim{t t':TG}(h:PG X e t)(i:∀v σ H Q,t' v σ H Q->t v σ H Q): PG X e t':=fun pins s σ H v u Q I r q=>h pins s σ H v u Q I r (i v σ H Q q)
theorem qff{t t':TGs}(h:PGs X es t)(i:∀v σ H Q,t' v σ H Q->t v σ H Q): PGs X es t':=fun pins s σ H v u Q I r q=>h pins s σ H v u Q I r (i v σ H Q q)
def bN(i:Nat): FB:=fun d ρ =>some (ρ.set i (some (.fz d)))
def yg:FBs:=fun ds ρ =>if ds.isEmpty then some ρ else none
def zh(b:FB)(bs:FBs): FBs:=fun ds ρ =>match ds with
 | d :: r=>(b d ρ).bind fun ρ'=>bs r ρ'
 | []=>none
def yh(n:Nat)(bs:FBs): FB:=fun d ρ =>match d with
 | .tup ds=>if ds.length=n then bs ds ρ else none
 | _=>none
theorem qu{i:Nat}{x:Str}(hN:X.N.Nodup)(hi:X.N[i]? = some x)(hx:Loc X.env.scope x)(hf:X.fn x=true\/X.env.scope.names.lookup x=some .local:=by first|exact .inl rfl|exact .inr rfl|assumption): PG X (.Name x pos) (tDG X.K (bN i)):=
 qim (qnz hN hi hx hf) fun v σ H Q ⟨F0,H0,F, ρ,d, ρ',r,hr,hb,q⟩=>by
  cases hb;exact q _ (r.set i hr)
theorem q1m:PGs X [] (qgl X.K yg):=qff qo0 fun vs σ H Q ⟨F0,H0,F, ρ,ds, ρ',r,hr,hb,q⟩=>by
 unfold yg at hb
 split at hb
 ·rename_i z
  cases hb;have z':ds=[]:=by simpa using z
  subst z';exact⟨hr.nil_inv,q σ r⟩
 ·cases hb
theorem jk{b:FB}{bs:FBs}(h1:PG X e (tDG X.K b))(h2:PGs X es (qgl X.K bs))(hs:(assignEach (e :: es) X.env).map (·.2)=assign e X.env :: (assignEach es X.env).map (·.2):=by rfl): PGs X (e :: es) (qgl X.K (zh b bs)):=
 qff (qkj h1 h2 hs) fun vs σ H Q ⟨F0,H0,F, ρ,ds, ρ',r,hr,hb,q⟩=>by
  cases ds with
  | nil=>cases hb
  | cons d ds=>
   obtain⟨v,vr,rfl,h3,h4⟩:=hr.cons_inv;obtain⟨ρ1,h5,h6⟩:=gh.mp hb;exact⟨v,vr,rfl,F0,H0,F, ρ,d, ρ1,r,h3,h5,fun σ' r'=>⟨F0,H0,F, ρ1,ds, ρ',r',h4,h6,q⟩⟩
theorem q1n{k n:Nat}{bs:FBs}(hc:X.calm=true)(h:PGs X es (qgl X.K bs))(hn:(assignEach es X.env).length=n:=by rfl)(hst:(assignEach es X.env).findIdx? (·.1)=none:=by rfl): PG X (.Tuple es k pos) (tDG X.K (yh n bs)):=
 qim (qqm hc h hn hst) fun v σ H Q ⟨F0,H0,F, ρ,d, ρ',r,hr,hb,q⟩=>by
  cases d <;> simp only [yh] at hb <;> first|(cases hb;done)|skip
  rename_i ds
  split at hb
  ·rename_i hl
   obtain⟨a,xs,rfl,h1,h2⟩:=rep_tup.mp hr;exact⟨a,xs,rfl,ql r.fh h1,by rw [<- h2.length];exact hl,F0,H0,F, ρ,ds, ρ',r,h2,hb,q⟩
  ·cases hb
def qtl(f:FE)(b:FB): FS:=fun ρ =>(f ρ).bind fun d=>(b d ρ).map fun ρ'=>(.nx, ρ')
theorem ql8{K:Frag}{F:Hp}{a:Addr}{xs:List V}{ds:List D}(h:SqL K F a xs)(hd:RepL K F ds xs): ItD K F ds (Itl K a) where
 go:=fun i F' H s1 s2 hi=>⟨xs,xs[i]'(by rw [<- hd.length];exact hi),(s1.trans s2).seq h,by simp⟩
 yld:=fun i d F' H x H' s1 s2 hi ⟨e,y⟩=>by
  subst e;obtain⟨z,h1,h2⟩:=hd.get hi;have:=y xs ((s1.trans s2).seq h);rw [h1] at this;cases this;exact⟨F',.refl s2,h2.mono s1⟩
 stop:=fun i F' H s1 s2 hi=>⟨xs,(s1.trans s2).seq h,by rw [<- hd.length];exact hi⟩
theorem qof{K:Frag}{F:Hp}{a:Addr}{xs:List V}{ds:List D}(h:SqT K F a xs)(hd:RepL K F ds xs): ItD K F ds (Itt K a) where
 go:=fun i F' H s1 s2 hi=>⟨xs,xs[i]'(by rw [<- hd.length];exact hi),ql (s1.trans s2) h,by simp⟩
 yld:=fun i d F' H x H' s1 s2 hi ⟨e,y⟩=>by
  subst e;obtain⟨z,h1,h2⟩:=hd.get hi;have:=y xs (ql (s1.trans s2) h);rw [h1] at this;cases this;exact⟨F',.refl s2,h2.mono s1⟩
 stop:=fun i F' H s1 s2 hi=>⟨xs,ql (s1.trans s2) h,by rw [<- hd.length];exact hi⟩
def z5(lo:Int)(n:Nat): List D:=(List.range n).map fun i:Nat=>.int (lo+i)
theorem qah{K:Frag}{F:Hp}(lo:Int)(n:Nat): ItD K F (z5 lo n) (Itr lo n) where
 go:=fun i F' H s1 s2 hi=>by show i<n;simpa [z5] using hi
 yld:=fun i d F' H x H' s1 s2 hi ⟨e,y⟩=>by
  subst e y;simp only [z5,n9] at hi;cases q:(List.range n)[i]? with
  | none=>rw [q] at hi;cases hi
  | some j=>
   rw [q] at hi;cases hi;have:j=i:=by
    have h2:=ni.mp q;obtain⟨h3,h4⟩:=h2;rw [List.getElem_range] at h4;exact h4.symm
   subst this;exact⟨F',.refl s2,rep_int.mpr rfl⟩
 stop:=fun i F' H s1 s2 hi=>by show n<=i;simpa [z5] using hi
def q5m:D->Option (List D)
 | .tup ds=>some ds
 | .lst ds=>some ds
 | _=>none
def jo(f:FE): FA:=fun ρ =>(f ρ).bind q5m
theorem qtm{l:Expr}{tl:TE}(hl:PE X l tl): PI X tg l (fun σ H R=>tl σ H fun x H1=>(∃a,x=.ref a/\(∃xs,SqL X.K H1 a xs)/\R (Itl X.K a) H1)\/(∃a,x=.ref a/\(∃xs,SqT X.K H1 a xs)/\R (Itt X.K a) H1)):=by
 intro pins s σ H R I h;refine thn (hl pins s σ H _ I h) fun v s1 ⟨x,H1,I1,r1,q1⟩=>?_;rcases q1 with⟨a,e,⟨xs,hq⟩,q⟩|⟨a,e,⟨xs,hq⟩,q⟩
 ·subst e
  cases r1;obtain⟨its,rv,p,hz⟩:=I1.list hq;refine g2z p.isList ?_;refine⟨s1.heap.objs.size,[s1.heap.objs.size],_,_,H1,rfl,I1.kept (t':=s1.toks) fun b o e=>gf _ e,qhw a _,⟨_,m4 _ rfl,rfl,rfl⟩,fun b hb=>?_,q⟩;have e:b=s1.heap.objs.size:=by simpa using hb
  subst e;exact I1.fpOk (gv _) (I1.hok.fresh (gv _))
 ·subst e
  cases r1;obtain⟨its,rv,p,hz⟩:=I1.tuple hq;refine g40 (show s1.heap.IsTuple a its.toArray from p) ?_;refine⟨s1.heap.objs.size,[s1.heap.objs.size],_,_,H1,rfl,I1.kept (t':=s1.toks) fun b o e=>gf _ e,qg8 a _,⟨_,m4 _ rfl,rfl,rfl⟩,fun b hb=>?_,q⟩;have e:b=s1.heap.objs.size:=by simpa using hb
  subst e;exact I1.fpOk (gv _) (I1.hok.fresh (gv _))
theorem j0{f:FE}(h:PE X e (tD X.K f)): PI X tg e (tDI X.K (jo f)):=q5l (qtm h) fun σ H R ⟨F0,H0,F, ρ,ds,r,hf,q⟩=>by
 obtain⟨d,h1,h2⟩:=gh.mp hf;refine⟨F0,H0,F, ρ,d,r,h1,fun v F' H' g' r'=>?_⟩;cases d <;> simp only [q5m] at h2 <;> first|(cases h2;done)|skip
 ·cases h2
  obtain⟨a,xs,rfl,h3,h4⟩:=rep_tup.mp r';exact .inr ⟨a,rfl,⟨xs,ql g'.fh h3⟩,q _ F' H' g' (qof h3 h4)⟩
 ·cases h2
  obtain⟨a,xs,rfl,h3,h4⟩:=rep_lst.mp r';exact .inl ⟨a,rfl,⟨xs,g'.fh.seq h3⟩,q _ F' H' g' (ql8 h3 h4)⟩
def iR1(fa:FA): FA:=fun ρ =>(fa ρ).bind fun ds=>match ds with
 | [.int j]=>if decide (-(2 ^ 62)<=j)&&decide (j<2 ^ 62) then some (z5 0 j.toNat) else none
 | _=>none
def iR2(fa:FA): FA:=fun ρ =>(fa ρ).bind fun ds=>match ds with
 | [.int i,.int j]=>if(decide (-(2 ^ 62)<=i)&&decide (i<2 ^ 62))&&(decide (-(2 ^ 62)<=j)&&decide (j<2 ^ 62)) then some (z5 i (j-i).toNat) else none
 | _=>none
theorem q0o{a:Expr}{fa:FA}{p:Pos}(hg:Gl X "range")(hm:X.mg "range" = none)(ha:PA X [a] (tDA X.K fa))(hs:starEach [a] X.env=[(false,eval a X.env)]:=by rfl): PI X tg (.Call (.Name "range" p) [a] [] pos) (tDI X.K (iR1 fa)):=
 q5l (qhx hg hm ha hs) fun σ H R ⟨F0,H0,F, ρ,ds,r,hf,q⟩=>by
  obtain⟨es,h1,h2⟩:=gh.mp hf;refine⟨F0,H0,F, ρ,es,r,h1,fun vs F' H' g' r'=>?_⟩
  split at h2
  ·rename_i j
   split at h2
   ·rename_i z
    cases h2;obtain⟨x,t,rfl,h3,h4⟩:=r'.cons_inv;cases h4.nil_inv;obtain⟨z1,z2⟩:=q17 z;exact⟨j,by rw [rep_int.mp h3],z1,z2,q _ F' H' g' (qah 0 _)⟩
   ·cases h2
  ·cases h2
theorem qin{a b:Expr}{fa:FA}{p:Pos}(hg:Gl X "range")(hm:X.mg "range" = none)(ha:PA X [a,b] (tDA X.K fa))(hs:starEach [a,b] X.env=[(false,eval a X.env),(false,eval b X.env)]:=by rfl)(hs2:starEach [b] X.env=[(false,eval b X.env)]:=by rfl):
  PI X tg (.Call (.Name "range" p) [a,b] [] pos) (tDI X.K (iR2 fa)):=
 q5l (qhy hg hm ha hs hs2) fun σ H R ⟨F0,H0,F, ρ,ds,r,hf,q⟩=>by
  obtain⟨es,h1,h2⟩:=gh.mp hf;refine⟨F0,H0,F, ρ,es,r,h1,fun vs F' H' g' r'=>?_⟩
  split at h2
  ·rename_i i j
   split at h2
   ·rename_i z
    cases h2;obtain⟨x,t,rfl,h3,h4⟩:=r'.cons_inv;obtain⟨x2,t2,rfl,h5,h6⟩:=h4.cons_inv;cases h6.nil_inv;rw [mi] at z;obtain⟨z1,z2⟩:=q17 z.1;obtain⟨z3,z4⟩:=q17 z.2;exact⟨i,j,by rw [rep_int.mp h3,rep_int.mp h5],⟨z1,z2,z3,z4⟩,q _ F' H' g' (qah _ _)⟩
   ·cases h2
  ·cases h2
def runFor(b:FB)(body:FS): List D->Rho->Option (Fl×Rho)
 | [], ρ =>some (.nx, ρ)
 | d :: ds, ρ =>(b d ρ).bind fun ρ1=>(body ρ1).bind fun r=>match r with
  | (.nx, ρ2)=>runFor b body ds ρ2
  | (.ct, ρ2)=>runFor b body ds ρ2
  | (.bk, ρ2)=>some (.nx, ρ2)
  | (.rt v, ρ2)=>some (.rt v, ρ2)
def xm(it:FA)(b:FB)(body:FS): FS:=fun ρ =>(it ρ).bind fun ds=>runFor b body ds ρ
theorem k6{iter:Expr}{body:List Stmt}{it:FA}{b:FB}{u:FS}(hp:PassesOwn (model X.prog X.w) X.A X.env X.xe)(hc:X.calm=true)(hi:PI X tg iter (tDI X.K it))(hg:PG X tg (tDG X.K b))(hb:PSs X body (tDS X.K u))
  (hs:∀x,foldedSetIterable iter X.env x=pure x:=by intro _;rfl):PS X (.For tg iter body [] pos) (tDS X.K (xm it b u)):=q0u (qqp hp hc hi hg hb hs) fun D σ H ⟨F0,H0,F, ρ,fl, ρ',r,hf,q⟩=>by
 obtain⟨ds,h1,h2⟩:=gh.mp hf;refine⟨F0,H0,F, ρ,ds,r,h1,fun J F1 H1 g1 itd=>?_⟩;refine⟨fun i m σ H=>m=ds.length-i/\i<=ds.length/\∃F' ρi,Same F1 F'/\RS X.K F0 H0 F' H σ ρi/\runFor b u (ds.drop i) ρi=some (fl, ρ'),⟨ds.length,by simp,g03 _,F1, ρ,.refl _,r.grow g1,by simpa using h2⟩,?_⟩
 rintro i m σ H ⟨rfl,hi,F', ρi,s1,r1,h3⟩
 by_cases hlt:i<ds.length
 ·have hd:ds.drop i=ds[i] :: ds.drop (i+1):=pk hlt
  rw [hd] at h3;obtain⟨ρ1,h4,h5⟩:=gh.mp h3;obtain⟨⟨fl1, ρ2⟩,h6,h7⟩:=gh.mp h5;refine .inr ⟨itd.go i F' H s1 r1.fh hlt,fun σ' H'=>∃F',Same F1 F'/\RS X.K F0 H0 F' H' σ' ρ2/\runFor b u (ds.drop (i+1)) ρ2=some (fl, ρ'),fun σ' H' ⟨F',z1,z2,z3⟩=>⟨ds.length-(i+1),by omega,rfl,hlt,F', ρ2,z1,z2,z3⟩,fun x H' y=>?_⟩;obtain⟨F2,g2,r2⟩:=itd.yld i ds[i] F' H x H' s1 r1.fh (by simp [hlt]) y;refine⟨F0,H0,F2, ρi,ds[i], ρ1,r1.grow g2,r2,h4,fun σ' r3=>⟨F0,H0,F2, ρ1,fl1, ρ2,r3,h6,?_⟩⟩;cases fl1 with
  | nx=>exact fun σ2 F3 H3 s3 r4=>⟨F3,(s1.trans g2.ff).trans s3,r4,h7⟩
  | ct=>exact fun σ2 F3 H3 s3 r4=>⟨F3,(s1.trans g2.ff).trans s3,r4,h7⟩
  | bk=>cases h7;exact fun σ2 F3 H3 s3 r4=>q σ2 F3 H3 ((g1.ff.trans (s1.trans g2.ff)).trans s3) r4
  | rt d=>cases h7;exact q
 ·have e:i=ds.length:=by omega
  subst e;rw [g4r] at h3;cases h3;exact .inl ⟨itd.stop _ F' H s1 r1.fh (gv _),q σ F' H (g1.ff.trans s1) r1⟩
def jf(t:FT)(body:FS): Nat->Rho->Option (Fl×Rho)
 | 0,_=>none
 | n+1, ρ =>(t ρ).bind fun c=>if c then(body ρ).bind fun r=>match r with
   | (.nx, ρ2)=>jf t body n ρ2
   | (.ct, ρ2)=>jf t body n ρ2
   | (.bk, ρ2)=>some (.nx, ρ2)
   | (.rt v, ρ2)=>some (.rt v, ρ2)
  else some (.nx, ρ)
theorem qc9{c:Expr}{body:List Stmt}{t:FT}{u:FS}(n:Nat)(hp:PassesOwn (model X.prog X.w) X.A X.env X.xe)(hc:PT X c (tDT X.K t))(hb:PSs X body (tDS X.K u)): PS X (.While c body [] pos) (tDS X.K (jf t u n)):=
 q0u (qkk hp hc hb) fun D σ H ⟨F0,H0,F, ρ,fl, ρ',r,hf,q⟩=>by
  refine⟨fun m σ H=>∃F' ρi,Same F F'/\RS X.K F0 H0 F' H σ ρi/\jf t u m ρi=some (fl, ρ'),⟨n,F, ρ,.refl _,r,hf⟩,?_⟩
  rintro m σ H ⟨F', ρi,s1,r1,h1⟩
  cases m with
  | zero=>cases h1
  | succ m=>
   obtain⟨c,h2,h3⟩:=gh.mp h1;refine⟨F0,H0,F', ρi,c,r1,h2,fun F2 H2 g2=>?_⟩;cases c with
   | false=>rw [mj m9] at h3 ⊢;cases h3;exact q σ F2 H2 (s1.trans g2.ff) (r1.grow g2)
   | true=>
    rw [mq rfl] at h3 ⊢;obtain⟨⟨fl1, ρ2⟩,h6,h7⟩:=gh.mp h3;refine⟨fun σ' H'=>∃F',Same F F'/\RS X.K F0 H0 F' H' σ' ρ2/\jf t u m ρ2=some (fl, ρ'),fun σ' H' ⟨F',z1,z2,z3⟩=>⟨m,tw _,F', ρ2,z1,z2,z3⟩,F0,H0,F2, ρi,fl1, ρ2,r1.grow g2,h6,?_⟩;cases fl1 with
    | nx=>exact fun σ2 F3 H3 s3 r4=>⟨F3,(s1.trans g2.ff).trans s3,r4,h7⟩
    | ct=>exact fun σ2 F3 H3 s3 r4=>⟨F3,(s1.trans g2.ff).trans s3,r4,h7⟩
    | bk=>cases h7;exact fun σ2 F3 H3 s3 r4=>q σ2 F3 H3 ((s1.trans g2.ff).trans s3) r4
    | rt d=>cases h7;exact q
end
def qrg:Option B->Option B
 | some (.fz d)=>some (.fz d)
 | _=>none
def q00(cap:List (Option Nat))(ρ : Rho): Rho:=cap.map fun o=>o.bind fun j=>qrg (ρ[j]?).join
structure Sub(ρ ρ':Rho): Prop where
 len : ρ.length = ρ'.length
 sub:∀(i:Nat) (b:B), ρ[i]? = some (some b) -> ρ'[i]? = some (some b)
theorem RS.weak{K:Frag}{F0 H0 F H:Hp}{σ : St}{ρ ρ':Rho}(r:RS K F0 H0 F H σ ρ')(s:Sub ρ ρ'): RS K F0 H0 F H σ ρ where
 t0:=r.t0
 g:=r.g
 len:=by rw [s.len];exact r.len
 fz:=fun i d e=>r.fz i d (s.sub i _ e)
 ow:=fun i ds e=>r.ow i ds (s.sub i _ e)
 dj:=fun i j ds es a h e1 e2=>r.dj i j ds es a h (s.sub i _ e1) (s.sub j _ e2)
 od:=fun i kvs e=>let⟨a,bs,e1,e2,e3⟩:=r.od i kvs (s.sub i _ e); ⟨a,bs,e1,e2,fun j es b h=>e3 j es b (s.sub j _ h)⟩
 o1:=fun i j k1 k2 e1 e2=>r.o1 i j k1 k2 (s.sub i _ e1) (s.sub j _ e2)
def q27(ρ : Rho): Prop:=∀(i:Nat) (b:B), ρ[i]? = some (some b)->∃d,b=.fz d
theorem q4h{ρ : Rho}(no:q27 ρ){i:Nat}{ds:List D}(h : ρ[i]? = some (some (.ow ds))): False:=let⟨_,e⟩:=no i _ h;nomatch e
theorem q4i{ρ : Rho}(no:q27 ρ){i:Nat}{ds}(h : ρ[i]? = some (some (.od ds))): False:=let⟨_,e⟩:=no i _ h;nomatch e
theorem yt(cap:List (Option Nat))(ρ : Rho): q27 (q00 cap ρ):=fun i ds h=>by
 unfold q00 at h;rw [n9] at h;cases q:cap[i]? with
 | none=>rw [q] at h;cases h
 | some o=>
  rw [q] at h;cases o with
  | none=>cases h
  | some j=>
   simp only [pb,mm,g1t] at h;generalize (ρ[j]?).join=z at h;cases z with
   | none=>cases h
   | some b=>cases b with
    | fz d=>cases h;exact⟨d,rfl⟩
    | ow _=>cases h
    | od _=>cases h
theorem qrh{K:Frag}{F0 H0 F H:Hp}{σ : St}{ρ : Rho}(cap:List (Option Nat))(r:RS K F0 H0 F H σ ρ): RS K F H F H (q5e cap σ) (q00 cap ρ) where
 t0:=⟨r.tab,r.tabF⟩
 g:=.refl r.fh
 len:=by unfold q5e q00;rw [mv,mv]
 fz := fun i d h=>by
  unfold q00 at h;rw [n9] at h;cases q:cap[i]? with
  | none=>rw [q] at h;cases h
  | some o=>
   rw [q] at h;cases o with
   | none=>cases h
   | some j=>
    simp only [pb,mm,g1t] at h;have e : ρ[j]? = some (some (.fz d)):=by
     cases z : ρ[j]? with
     | none=>rw [z] at h;cases h
     | some b=>
      rw [z] at h;cases b with
      | none=>cases h
      | some b=>cases b with
       | fz d'=>cases h;rfl
       | ow _=>cases h
       | od _=>cases h
    obtain⟨v,e1,e2⟩:=r.fz j d e;refine⟨v,?_,e2⟩;unfold q5e;rw [n9,q];simp only [pb,mm,e1,g04]
 ow:=fun i ds h=>(q4h (yt cap ρ) h).elim
 dj:=fun i j ds es a _ h=>(q4h (yt cap ρ) h).elim
 od:=fun i ds h=>(q4i (yt cap ρ) h).elim
 o1:=fun i j ds es h=>(q4i (yt cap ρ) h).elim
theorem RS.other{K:Frag}{F0 H0 F H:Hp}{σ : St}{ρ : Rho}(r:RS K F0 H0 F H σ ρ)(no:q27 ρ){p:Addr}{o:HO}(h1:F p=none)(h2:H0 p=none)(h3:H p=none\/∃xs,H p=some (.lst xs)): RS K F0 H0 F (upd H p o) σ ρ where
 t0:=r.t0
 g :=⟨r.g.ff,⟨fun b u e=>by rw [qk (fun z=>by subst z;rw [h2] at e;cases e)];exact r.g.hh.lst b u e,fun b u e=>by rw [qk (fun z=>by subst z;rw [h2] at e;cases e)];exact r.g.hh.ext b u e,fun {b} e=>by
   by_cases z:b=p
   ·subst z;exact h2
   ·rw [qk z] at e;exact r.g.hh.free e,fun t=>(r.g.hh.tb t).upd h3,fun b u e=>by rw [qk (fun z=>by subst z;rw [h2] at e;cases e)];exact r.g.hh.dk b u e⟩,fun b u e=>by rw [qk (fun z=>by subst z;rw [h1] at e;cases e)];exact r.g.fh b u e,r.g.nw⟩
 len:=r.len
 fz:=r.fz
 ow:=fun i ds h=>(q4h no h).elim
 dj:=fun i j ds es a _ h=>(q4h no h).elim
 od:=fun i ds h=>(q4i no h).elim
 o1:=fun i j ds es h=>(q4i no h).elim
theorem q5n{F H F' H':Hp}{p:Addr}(g:Grow F H F' H')(h1:F p=none){o:HO}(h2:H p=some o): F' p=none:=by
 cases q:F' p with
 | none=>rfl
 | some u=>
  rcases g.nw p (by rw [q];simp) with z|z
  ·exact absurd h1 z
  ·rw [h2] at z;cases z
def qv(b:FB)(c:FT)(f:FE)(ρ : Rho): List D->Option (List D)
 | []=>some []
 | d :: ds=>(b d ρ).bind fun ρ1=>(c ρ1).bind fun t=>if t then(f ρ1).bind fun y=>(qv b c f ρ ds).map fun ys=>y :: ys else qv b c f ρ ds
def zc:FT:=fun _=>some true
def z6(it:FA)(cap:List (Option Nat))(b:FB)(c:FT)(f:FE): FA:=fun ρ =>(it ρ).bind fun ds=>if ds.length<=lim then qv b c f (q00 cap ρ) ds else none
def q6k(b:FB)(cap:List (Option Nat)): Prop:=∀ ρ d ρ',b d (q00 cap ρ)=some ρ'->Sub (q00 cap ρ) ρ'/\q27 ρ'
section
variable{X:Cx}
theorem ql9{ifs:List Expr}{t t':TT}(h:wy X ifs t)(i:∀ σ H Q,t' σ H Q->t σ H Q): wy X ifs t':=fun pins s σ H Q I q=>h pins s σ H Q I (i σ H Q q)
theorem ym:wy X [] (tDT X.K zc):=ql9 qkv fun σ H Q ⟨F0,H0,F, ρ,b,r,hf,q⟩=>by cases hf;exact q F H (.refl r.fh)
theorem q2o{c:Expr}{t:FT}(h:PT X c (tDT X.K t)): wy X [c] (tDT X.K t):=qkw h
theorem qca{K:Frag}{it:FA}{cap:List (Option Nat)}{b:FB}{c:FT}{f:FE}{σ : St}{H:Hp}{Q:VK}(fr:q6k b cap)(h:tL K (z6 it cap b c f) σ H Q): qbk (tDI K it) cap (tDG K b) (tDT K c) (tD K f) σ H Q:=by
 obtain⟨F0,H0,F, ρ,zs,r,hf,q⟩:=h;obtain⟨ds,h1,h2⟩:=gh.mp hf;have hlim:ds.length<=lim:=Decidable.byContradiction fun z=>by rw [mj z] at h2;cases h2
 rw [mq hlim] at h2;refine⟨F0,H0,F, ρ,ds,r,h1,fun J F1 H1 g1 itd p hp=>?_⟩;have rc:=qrh cap (r.grow g1);have hF1:F1 p=none:=g1.fh.free hp;refine⟨fun i m σ H=>m=ds.length-i/\i<=ds.length/\∃F' xs ys us,Same F1 F'/\RS K F1 H1 F' H σ (q00 cap ρ)/\H p=some (.lst xs)/\F' p=none/\RepL K F' ys xs/\qv b c f (q00 cap ρ) (ds.drop i)=some us/\ys++us=zs/\ys.length<=i,
  ⟨ds.length,by simp,g03 _,F1,[],[],zs,.refl _,rc.other (yt cap ρ) hF1 hp (.inl hp),qt,hF1,.nil,by simpa using h2,rfl,gv _⟩,?_⟩
 rintro i m σ' H' ⟨rfl,hi,F',xs,ys,us,s1,r1,hl,hn,ry,h3,h4,hyi⟩
 by_cases hlt:i<ds.length
 ·have hd:ds.drop i=ds[i] :: ds.drop (i+1):=pk hlt
  rw [hd] at h3;obtain⟨ρ1,h5,h3⟩:=gh.mp h3;obtain⟨t,h6,h3⟩:=gh.mp h3;obtain⟨sb,no1⟩:=fr ρ _ _ h5;refine .inr ⟨itd.go i F' H' s1 r1.fh hlt,fun x H'' y=>?_⟩;obtain⟨F2,g2,r2⟩:=itd.yld i ds[i] F' H' x H'' s1 r1.fh (by simp [hlt]) y;refine⟨F1,H1,F2,q00 cap ρ,ds[i], ρ1,r1.grow g2,r2,h5,fun σ2 r3=>⟨F1,H1,F2, ρ1,t,r3,h6,fun F3 H3 g3=>?_⟩⟩;have r4:=r3.grow g3;have hl2:=g2.hh.lst _ _ hl;have hn2:=q5n g2 hn hl;have hl3:=g3.hh.lst _ _ hl2;have hn3:=q5n g3 hn2 hl2;cases t with
  | false=>
   rw [mj m9] at h3;exact quj ⟨ds.length-(i+1),by omega,rfl,hlt,F3,xs,ys,us,(s1.trans g2.ff).trans g3.ff,r4.weak sb,hl3,hn3,ry.mono (g2.ff.trans g3.ff),h3,h4,Nat.le_succ_of_le hyi⟩
  | true=>
   rw [mq rfl] at h3;obtain⟨yd,h7,h3⟩:=gh.mp h3;obtain⟨us',h8,h9⟩:=ml.mp h3;refine quk ⟨F1,H1,F3, ρ1,yd,r4,h7,fun v F4 H4 g4 r5=>?_⟩;have hl4:=g4.hh.lst _ _ hl3;have hn4:=q5n g4 hn3 hl3;have ss:Same F' F4:=(g2.ff.trans g3.ff).trans g4.ff;refine⟨xs,hl4,qaf (by have:=ry.length;omega),ds.length-(i+1),by omega,rfl,hlt,F4,xs++[v],ys++[yd],us',(s1.trans ss),?_,qt,hn4,(ry.mono ss).append (.cons r5 .nil),h8,?_,?_⟩
   ·exact((r4.grow g4).weak sb).other (yt cap ρ) hn4 hp (.inr ⟨_,hl4⟩)
   ·rw [mr,g5g,h9];exact h4
   ·rw [nj,g3a];omega
 ·have e:i=ds.length:=by omega
  subst e;rw [g4r] at h3;cases h3;rw [g2b] at h4;subst h4;have gg:Grow F1 H1 F' H':=r1.g;exact .inl ⟨itd.stop _ F' H' s1 r1.fh (gv _),q p xs F' H' (g1.trans gg) hn (g1.hh.free hp) hl ry⟩
variable{N':List Str}{scope:Scope}{cap:List (Option Nat)}{tg iter elt:Expr}{ifs:List Expr}{it:FA}{b:FB}{c:FT}{f:FE}{pos:Pos}
theorem jl(hc:X.calm=true)(co:CapOk X N' scope cap)(fr:q6k b cap)(hi:PI X tg iter (tDI X.K it))
  (hg:∀cl C s₀ H₀ fp,PG (jd X N' scope cl C s₀ H₀ fp) tg (tDG X.K b)) (hcs:∀cl C s₀ H₀ fp,wy (jd X N' scope cl C s₀ H₀ fp) ifs (tDT X.K c)) (he:∀cl C s₀ H₀ fp,PE (jd X N' scope cl C s₀ H₀ fp) elt (tD X.K f))
  (hs:∀x,foldedSetIterable iter X.env x=pure x:=by intro _;rfl):PE X (.ListComp elt [⟨tg,iter,ifs,0⟩] scope pos) (tL X.K (z6 it cap b c f)):=
 zx (qoa hc co hi hg hcs he hs) fun σ H Q h=>qca fr h
theorem q9i{i:Nat}{x:Str}{px pe:Pos}(hc:X.calm=true)(hN:X.N.Nodup)(hx0:X.N[i]? = some x)(hx:X.env.scope.names.lookup x=some .local)(co:CapOk X N' scope cap)(fr:q6k b cap)(hi:PI X tg iter (tDI X.K it))
  (hg:∀cl C s₀ H₀ fp,PG (jd X N' scope cl C s₀ H₀ fp) tg (tDG X.K b)) (hcs:∀cl C s₀ H₀ fp,wy (jd X N' scope cl C s₀ H₀ fp) ifs (tDT X.K c)) (he:∀cl C s₀ H₀ fp,PE (jd X N' scope cl C s₀ H₀ fp) elt (tD X.K f))
  (hsw:swapsWith (.ListComp elt [⟨tg,iter,ifs,0⟩] scope pe) (some (.Name x px)) pos.line X.env=pure true:=by rfl)
  (hs:∀x,foldedSetIterable iter X.env x=pure x:=by intro _;rfl):PS X (.Assign [.Name x px] (.ListComp elt [⟨tg,iter,ifs,0⟩] scope pe) pos) (tDS X.K (q0e i (z6 it cap b c f))):=
 q0u (qgg hc hN hx0 hx co hi hg hcs he hsw hs) fun D σ H h=>qca fr (qnk h)
end
theorem qcb{cap:List (Option Nat)}{ρ : Rho}{i:Nat}(h:cap[i]? = some none): (q00 cap ρ)[i]? = some none:=by
 unfold q00;rw [n9,h];rfl
theorem qfg{ρ ρ':Rho}{i:Nat}{b:Option B}(s:Sub ρ ρ')(h : ρ[i]? = some none): Sub ρ (ρ'.set i b):=
 ⟨by rw [g0w];exact s.len,fun j c e=>by
  by_cases q:j=i
  ·subst q;rw [h] at e;cases e
  ·rw [ma (nh q)];exact s.sub j c e⟩
theorem qai{ρ : Rho}{i:Nat}{d:D}(h:q27 ρ): q27 (ρ.set i (some (.fz d))):=fun j ds e=>by
 by_cases q:j=i
 ·subst q
  obtain⟨z,_⟩:=qw e;cases z;exact⟨d,rfl⟩
 ·rw [ma (nh q)] at e;exact h j ds e
theorem Sub.refl(ρ : Rho): Sub ρ ρ :=⟨rfl,fun _ _ h=>h⟩
theorem j4{cap:List (Option Nat)}{i:Nat}(h:cap[i]? = some none): q6k (bN i) cap:=fun ρ d ρ' e=>by
 cases e;exact⟨qfg (.refl _) (qcb h),qai (yt cap ρ)⟩
def q8c(bs:FBs)(cap:List (Option Nat)): Prop:=∀ ρ ds ρ1 ρ',Sub (q00 cap ρ) ρ1->q27 ρ1->bs ds ρ1=some ρ'->Sub (q00 cap ρ) ρ'/\q27 ρ'
theorem yw{cap:List (Option Nat)}: q8c yg cap:=fun ρ ds ρ1 ρ' s n e=>by
 unfold yg at e
 split at e
 ·cases e;exact⟨s,n⟩
 ·cases e
theorem zl{cap:List (Option Nat)}{i:Nat}{bs:FBs}(h:cap[i]? = some none)(t:q8c bs cap): q8c (zh (bN i) bs) cap:=fun ρ ds ρ1 ρ' s n e=>by
 cases ds with
 | nil=>cases e
 | cons d ds=>exact t ρ ds _ ρ' (qfg s (qcb h)) (qai n) e
theorem w8{cap:List (Option Nat)}{n:Nat}{bs:FBs}(t:q8c bs cap): q6k (yh n bs) cap:=fun ρ d ρ' e=>by
 cases d <;> simp only [yh] at e <;> first|(cases e;done)|skip
 split at e
 ·exact t ρ _ _ ρ' (.refl _) (yt cap ρ) e
 ·cases e
def qri (outer:List (Str×NameKind)) (N N':List Str) (scope:Scope) (cap:List (Option Nat)):Bool:=
 scope.names.all (fun y=> !(y.2 == .cell))&&(scope.names.all (fun y=> !(y.2 == .local) || (scope.names.lookup y.1==some .local))&&(scope.names.all (fun y=> !(y.2 == .free) || (outer.lookup y.1==some .cell) || (outer.lookup y.1==some .free)) &&
  (cap.length==N'.length&&(List.range cap.length).all fun i=>match(cap[i]?).join with
   | none=>true
   | some j=>match N'[i]? with
    | none=>false
    | some x=>N[j]? == some x&&scope.names.lookup x==some .free)))
theorem zm{X:Cx}{N':List Str}{scope:Scope}{cap:List (Option Nat)}(hk:scope.kind=.function)(h:qri X.env.scope.names X.N N' scope cap=true): CapOk X N' scope cap:=by
 unfold qri at h;simp only [mi,my] at h;obtain⟨h1,h2,h3,h4,h5⟩:=h;refine⟨hk,fun y hy e=>?_,fun y hy e=>?_,fun y hy e=>?_,by simpa using h4,fun i j e=>?_⟩
 ·have:=h1 y hy;rw [e] at this;cases this
 ·have:=h2 y hy;rw [e] at this;simpa using this
 ·have:=h3 y hy
  rw [e] at this;simp only [g4q,g0k,g35,g0r,g24] at this;exact this
 ·have hi:i<cap.length:=(ni.mp e).1
  have:=h5 i (g05.mpr hi);rw [e] at this;simp only [g04] at this
  split at this
  ·cases this
  ·rename_i x hx
   simp only [mi,g24] at this;exact⟨x,hx,this.1,this.2⟩
section
variable{X:Cx}{e:Expr}{es:List Expr}{pos:Pos}{f g:FE}{fa:FA}
inductive Ty where
 | int|bool|tuple|list|str|dict
def Ty.name:Ty->String
 | .int=>"int" | .bool=>"bool" | .tuple=>"tuple" | .list=>"list" | .str=>"str" | .dict=>"dict"
def za:Ty->D->Bool
 | .int,.int _=>true
 | .int,.bl _=>true
 | .bool,.bl _=>true
 | .tuple,.tup _=>true
 | .list,.lst _=>true
 | .str,.str _=>true
 | .dict,.dct _ _=>true
 | .dict,.dtt _ _=>true
 | _,_=>false
theorem qla{prog:Program}{w:World}{A:Around}{E:Value->Shared->Prop}{s:Shared}{Q:Value->Shared->Prop}{K:Frag}{T:String}{b:Bool}(hk:K.In s.heap)(h:∀tk,Q (.bool b) {s with toks:=tk})(hT:PySem.W.kitOne K (.type "NoneType") (.type T)=some b):
  wpAny (model prog w) A (call (.builtin "isinstance") [.none,.type T]) Q E s:=g56 PySem.W.kitx_none hk True.intro hT (fun z=>nomatch z) h
theorem qlb(T:Ty): j6 X (.builtin "isinstance") (fun xs H Q=>∃x F d,xs=[x,.ty T.name]/\Same F H/\Rep X.K F d x/\Q (.bl (za T d)) H):=by
 intro pins s σ H xs us Q I r h;obtain⟨x,F,d,rfl,fh,rd,q⟩:=h;obtain⟨u,w',rfl,rx,rt⟩:=r.two;obtain rfl:w'=Value.type T.name:=rt;have fin:∀ {b:Bool},Q (.bl b) H->EP X pins σ Q (.bool b) s:=fun q=>⟨.bl _,H,I,rfl,q⟩
 have fin1:∀ {b:Bool},Q (.bl b) H->EP X pins σ Q (.bool b) {s with toks:=s.toks+1}:=fun q=>⟨.bl _,H,I.tok _,rfl,q⟩
 cases d with
 | non=>
  cases rep_non.mp rd;cases rx;cases T <;> exact qla I.kIn (fun tk=>⟨.bl _,H,I.tok _,rfl,q⟩) (by rfl)
 | bl b=>
  cases rep_bl.mp rd;cases rx;cases T
  ·exact IsiPair.bool_int (fin q)
  ·exact IsiPair.bool_bool (fin q)
  ·exact IsiPair.bool_tuple (fin1 q)
  ·exact IsiPair.bool_list (fin1 q)
  ·exact IsiPair.bool_str (fin1 q)
  ·exact IsiPair.bool_dict (fin1 q)
 | int i=>
  cases rep_int.mp rd;obtain⟨t,rfl⟩:=rx;cases T
  ·exact IsiPair.int_int (fin q)
  ·exact IsiPair.int_bool (fin1 q)
  ·exact IsiPair.int_tuple (fin1 q)
  ·exact IsiPair.int_list (fin1 q)
  ·exact IsiPair.int_str (fin1 q)
  ·exact IsiPair.int_dict (fin1 q)
 | str z=>
  cases rep_str.mp rd;obtain⟨t,rfl⟩:=rx;cases T
  ·exact IsiPair.str_int (fin1 q)
  ·exact IsiPair.str_bool (fin1 q)
  ·exact IsiPair.str_tuple (fin1 q)
  ·exact IsiPair.str_list (fin1 q)
  ·exact IsiPair.str_str (fin q)
  ·exact IsiPair.str_dict (fin1 q)
 | tup ds=>
  obtain⟨a,ys,rfl,h1,h2⟩:=rep_tup.mp rd;cases rx;obtain⟨its,_,⟨o,ho,hc,_⟩,_⟩:=I.tuple (ql fh h1);cases T
  ·exact IsiPair.tuple_int ho hc (fin1 q)
  ·exact IsiPair.tuple_bool ho hc (fin1 q)
  ·exact IsiPair.tuple_tuple ho hc (fin q)
  ·exact IsiPair.tuple_list ho hc (fin1 q)
  ·exact IsiPair.tuple_str ho hc (fin1 q)
  ·exact IsiPair.tuple_dict ho hc (fin1 q)
 | lst ds=>
  obtain⟨a,ys,rfl,h1,h2⟩:=rep_lst.mp rd;cases rx;obtain⟨its,_,⟨o,n,ho,hc,_⟩,_⟩:=I.list (fh.seq h1);cases T
  ·exact IsiPair.list_int ho hc (fin1 q)
  ·exact IsiPair.list_bool ho hc (fin1 q)
  ·exact IsiPair.list_tuple ho hc (fin1 q)
  ·exact IsiPair.list_list ho hc (fin q)
  ·exact IsiPair.list_str ho hc (fin1 q)
  ·exact IsiPair.list_dict ho hc (fin1 q)
 | dct ks vs=>
  obtain⟨a,ys,rfl,h1,h2,h3⟩:=rep_dct.mp rd;cases rx;obtain⟨_,_,vs',_,o,es',ep,ho,hc,_⟩:=(show ObjOk X.prog X.w H s.heap a _ from I.hok a _ (fh _ _ h1))
  cases T
  ·exact IsiPair.dict_int ho hc.1 (fin1 q)
  ·exact IsiPair.dict_bool ho hc.1 (fin1 q)
  ·exact IsiPair.dict_tuple ho hc.1 (fin1 q)
  ·exact IsiPair.dict_list ho hc.1 (fin1 q)
  ·exact IsiPair.dict_str ho hc.1 (fin1 q)
  ·exact IsiPair.dict_dict ho hc.1 (fin q)
 | dtt ks vs=>
  obtain⟨a,xs',ys,ep,rfl,h1,_⟩:=rep_dtt.mp rd;cases rx;obtain⟨⟨o,es',ho,hc,_⟩,_,_⟩:=(show ObjOk X.prog X.w H s.heap a _ from I.hok a _ (fh _ _ h1))
  cases T
  ·exact IsiPair.dict_int ho hc.1 (fin1 q)
  ·exact IsiPair.dict_bool ho hc.1 (fin1 q)
  ·exact IsiPair.dict_tuple ho hc.1 (fin1 q)
  ·exact IsiPair.dict_list ho hc.1 (fin1 q)
  ·exact IsiPair.dict_str ho hc.1 (fin1 q)
  ·exact IsiPair.dict_dict ho hc.1 (fin q)
 | obj x=>
  obtain⟨a,dx,C,rfl,h1,_,c1,c2,c3,c4,c5,c6,c7⟩:=rep_obj.mp rd;cases rx;obtain⟨mA,O,_⟩:=qf8 I.hok (fh _ _ h1);obtain⟨od,J,_⟩:=O.look;cases T <;> exact g56 (PySem.W.kitx_own c1 c2 c3 c4 c5 c6) I.kIn J (c7 _ (by decide)) (fun z=>nomatch z) (fun tk=>⟨.bl _,H,I.tok _,rfl,q⟩)
 | exc x=>
  obtain⟨a,C,rfl,h1,_,c1,c2⟩:=rep_exc.mp rd;cases rx;obtain⟨J,_,_⟩:=(show ObjOk X.prog X.w H s.heap a _ from I.hok a _ (fh _ _ h1))
  cases T <;> exact g56 (ql4 c1) I.kIn J (c2 _ (by decide)) (fun z=>nomatch z) (fun tk=>⟨.bl _,H,I.tok _,rfl,q⟩)
def q4j(T:Ty)(f:FE): FE:=fun ρ =>(f ρ).map fun d=>.bl (za T d)
theorem qlc:bootBuiltins "isinstance" = some (.builtin "isinstance"):=by decide +kernel
theorem q2p{x:Str}{p px:Pos}(T:Ty)(hg:Gl X "isinstance")(hm:X.mg "isinstance" = none)(hgT:Gl X x)(hmT:X.mg x=none)(hvT:bootBuiltins x=some (.type T.name))(ha:PE X e (tD X.K f))
  (hnT:x≠"__name__" :=by decide) (hdT:(x==("__debug__" : Str))=false:=by decide) (he2:starEach [e,.Name x px] X.env=(false,eval e X.env) :: starEach [.Name x px] X.env:=by rfl) :
  PE X (.Call (.Name "isinstance" p) [e,.Name x px] [] pos) (tD X.K (q4j T f)):=
 zx (q7d (qlb T) hg hm qlc (q0m ha (q0m (qnw (v:=.ty T.name) hgT hmT hvT rfl hnT hdT) q2j) he2) (by decide) (by decide) he2 rfl) fun σ H Q ⟨F0,H0,F, ρ,d,r,hf,q⟩=>by
  obtain⟨d',h1,h2⟩:=ml.mp hf;subst h2;exact⟨F0,H0,F, ρ,d',r,h1,fun v F' H' g' r'=>⟨v,F',d',rfl,g'.fh,r',q _ F' H' g' (rep_bl.mpr rfl)⟩⟩
def we:List D->Option (List Int)
 | []=>some []
 | .int i :: r=>(we r).map fun is=>i :: is
 | _ :: _=>none
def q3y:List D->Option (List Bool)
 | []=>some []
 | .bl i :: r=>(q3y r).map fun is=>i :: is
 | _ :: _=>none
theorem q8d:∀ {ds:List D} {ns:List Int},we ds=some ns->ds=ns.map D.int
 | [],ns,h=>by cases h;rfl
 | d :: r,ns,h=>by
  cases d <;> simp only [we] at h <;> first|(cases h;done)|skip
  obtain⟨is,h1,h2⟩:=ml.mp h;subst h2;rw [q8d h1];rfl
omit [Lam] in
theorem q39:∀(ns:List Int),we (ns.map D.int)=some ns
 | []=>rfl
 | n :: r=>by simp only [gu,we,q39 r,pb]
theorem q72:∀ {ds:List D} {bs:List Bool},q3y ds=some bs->ds=bs.map D.bl
 | [],ns,h=>by cases h;rfl
 | d :: r,ns,h=>by
  cases d <;> simp only [q3y] at h <;> first|(cases h;done)|skip
  obtain⟨is,h1,h2⟩:=ml.mp h;subst h2;rw [q72 h1];rfl
omit [Lam] in
theorem q8e:∀(ns:List Bool),q3y (ns.map D.bl)=some ns
 | []=>rfl
 | n :: r=>by simp only [gu,q3y,q8e r,pb]
theorem RepL.bools{K:Frag}{H:Hp}: ∀ {bs:List Bool} {xs:List V},RepL K H (bs.map D.bl) xs->xs=bs.map V.bl
 | [],xs,h=>h.nil_inv
 | b :: bs,xs,h=>by
  obtain⟨x,r,rfl,h1,h2⟩:=h.cons_inv;rw [rep_bl.mp h1,RepL.bools h2];rfl
def o1L(z:List D->Option D): List D->Option D
 | [.lst ds]=>z ds
 | _=>none
theorem qcc{z:List D->Option D}{es:List D}{d:D}(h:o1L z es=some d): ∃ds,es=[.lst ds]/\z ds=some d:=by
 unfold o1L at h
 split at h
 ·exact⟨_,rfl,h⟩
 ·cases h
theorem rep1{K:Frag}{F:Hp}{d:D}{xs:List V}(h:RepL K F [d] xs): ∃x,xs=[x]/\Rep K F d x:=by
 obtain⟨x,r,rfl,h1,h2⟩:=h.cons_inv;cases h2.nil_inv;exact⟨x,rfl,h1⟩
abbrev q9j:List D->Option D:=o1L fun ds=>(we ds).map fun ns=>.int ns.sum
abbrev q7i:List D->Option D:=o1L fun ds=>(q3y ds).map fun bs=>.bl (bs.all id)
theorem qcd(hc:X.calm=true): j6 X (.builtin "sum") (rC X.K q9j):=by
 intro pins s σ H xs us Q I r h;obtain⟨F,ds,d,fh,rl,ho,q⟩:=h;obtain⟨es,rfl,h1⟩:=qcc ho;obtain⟨ns,h2,h3⟩:=ml.mp h1;subst h3;cases q8d h2;obtain⟨x,rfl,rx⟩:=rep1 rl;obtain⟨u,rfl,ru⟩:=r.one;obtain⟨a,ys,rfl,k1,k2⟩:=rep_lst.mp rx;cases ru;cases RepL.ints.mp k2;obtain⟨its,rv,pl,_⟩:=I.list (fh.seq k1);have hi:=intsAre_of rv;obtain⟨zs,hz⟩:=hi.allInts.items;have hl:s.heap.IsList a (intItems zs):=hz ▸ pl.isList;refine sum_intListG (I.ok.hd hc) hl fun h' tk t' hk=>?_;have e1:ns=zs.toList.map (·.1):=by
  rw [<- nums_intItems, <- hz];exact(show numsOf its.toArray.toList=ns from hi.numsOf).symm
 have e2:preSum (numAt zs) zs.size=ns.sum:=by
  rw [preSum_eq,g0s (by simp),e1]
 rw [e2];exact⟨.int ns.sum,H,I.kept hk,⟨_,rfl⟩,q _ F H (.refl fh) (rep_int.mpr rfl)⟩
theorem q8f:∀ {bs:List Bool} {us:List Value},Vals (bs.map V.bl) us->us=bs.map Value.bool
 | [],us,h=>by cases h;rfl
 | b :: bs,us,h=>by
  rw [gu] at h;cases h with
  | cons r t=>
   cases(show _=Value.bool b from r);rw [q8f t];rfl
theorem qio(hc:X.calm=true): j6 X (.builtin "all") (rC X.K q7i):=by
 intro pins s σ H xs us Q I r h;obtain⟨F,ds,d,fh,rl,ho,q⟩:=h;obtain⟨es,rfl,h1⟩:=qcc ho;obtain⟨bs,h2,h3⟩:=ml.mp h1;subst h3;cases q72 h2;obtain⟨x,rfl,rx⟩:=rep1 rl;obtain⟨u,rfl,ru⟩:=r.one;obtain⟨a,ys,rfl,k1,k2⟩:=rep_lst.mp rx;cases ru;cases k2.bools;obtain⟨its,rv,pl,_⟩:=I.list (fh.seq k1);cases q8f rv;have hlt:a<s.heap.objs.size:=by obtain⟨_,e,_⟩:=pl.isList;exact gz e
 refine call_all_walk (g2z pl.isList ?_);refine⟨s.heap.objs.size,[s.heap.objs.size,a],[s.heap.objs.size],(bs.map Value.bool).toArray.size,_,_,fun i=>(bs[i]?).getD true,rfl,Walks.list (A:=X.A.in1) (I.ok.hd hc) _ a (md hlt) (bs.map Value.bool).toArray,
  ⟨⟨_,m4 _ rfl,rfl,rfl⟩,pl.isList.push _⟩,fun i v s' Q' E' hP hQ=>?_,fun h' tk hk=>?_⟩
 ·have hP':(bs.map Value.bool)[i]? = some v:=by simpa using hP
  rw [n9] at hP';cases z:bs[i]? with
  | none=>rw [z] at hP';cases hP'
  | some b=>
   rw [z] at hP';cases hP';simp only [z,Option.getD_some] at hQ;exact g0z hQ
 ·have e:((List.range (bs.map Value.bool).toArray.size).all fun i=>(bs[i]?).getD true)=bs.all id:=by
   rw [gj,mv];exact LSm.range_all bs
  rw [e];exact⟨.bl _,H,I.kept (LSm.kept_iter hk),rfl,q _ F H (.refl fh) (rep_bl.mpr rfl)⟩
theorem boot_sum:bootBuiltins "sum" = some (.builtin "sum"):=by decide +kernel
theorem boot_all:bootBuiltins "all" = some (.builtin "all"):=by decide +kernel
theorem boot_min:bootBuiltins "min" = some (.builtin "min"):=by decide +kernel
theorem boot_max:bootBuiltins "max" = some (.builtin "max"):=by decide +kernel
theorem xu:bootBuiltins "len" = some (.builtin "len"):=by decide +kernel
theorem boot_tuple:bootBuiltins "tuple" = some (.type "tuple"):=by decide +kernel
theorem boot_list:bootBuiltins "list" = some (.type "list"):=by decide +kernel
theorem boot_int:bootBuiltins "int" = some (.type "int"):=by decide +kernel
theorem boot_bool:bootBuiltins "bool" = some (.type "bool"):=by decide +kernel
theorem boot_dict:bootBuiltins "dict" = some (.type "dict"):=by decide +kernel
def o2I(z:Int->Int->Int): List D->Option D
 | [.int i,.int j]=>some (.int (z i j))
 | _=>none
theorem qce{z:Int->Int->Int}{es:List D}{d:D}(h:o2I z es=some d): ∃i j,es=[.int i,.int j]/\d=.int (z i j):=by
 unfold o2I at h
 split at h
 ·cases h;exact⟨_,_,rfl,rfl⟩
 ·cases h
theorem qnm{K:Frag}{F:Hp}{i j:Int}{xs:List V}(h:RepL K F [.int i,.int j] xs): xs=[.int i,.int j]:=RepL.ints (ns:=[i,j]).mp h
abbrev oMin:=o2I fun i j=>if j<i then j else i
abbrev oMax:=o2I fun i j=>if j>i then j else i
theorem qip(hc:X.calm=true): j6 X (.builtin "min") (rC X.K oMin):=q0n (qi3 hc) fun xs H Q ⟨F,ds,d,fh,rl,ho,q⟩=>by
 obtain⟨i,j,rfl,rfl⟩:=qce ho;exact⟨i,j,qnm rl,q _ F H (.refl fh) (rep_int.mpr rfl)⟩
theorem q8g(hc:X.calm=true): j6 X (.builtin "max") (rC X.K oMax):=q0n (qi2 hc) fun xs H Q ⟨F,ds,d,fh,rl,ho,q⟩=>by
 obtain⟨i,j,rfl,rfl⟩:=qce ho;exact⟨i,j,qnm rl,q _ F H (.refl fh) (rep_int.mpr rfl)⟩
def ko:List D->Option D
 | [.tup ds]=>some (.int ds.length)
 | [.lst ds]=>some (.int ds.length)
 | [.str x]=>if x.length<=lim then some (.int x.length) else none
 | _=>none
theorem q04:j6 X (.builtin "len") (rC X.K ko):=q0n qkq fun xs H Q ⟨F,ds,d,fh,rl,ho,q⟩=>by
 unfold ko at ho
 split at ho
 ·cases ho
  obtain⟨x,rfl,rx⟩:=rep1 rl;obtain⟨a,ys,rfl,k1,k2⟩:=rep_tup.mp rx;exact⟨_,ys.length,rfl,.inr ⟨ys,ql fh k1,rfl⟩,by rw [<- k2.length];exact q _ F H (.refl fh) (rep_int.mpr rfl)⟩
 ·cases ho
  obtain⟨x,rfl,rx⟩:=rep1 rl;obtain⟨a,ys,rfl,k1,k2⟩:=rep_lst.mp rx;exact⟨_,ys.length,rfl,.inl ⟨ys,fh.seq k1,rfl⟩,by rw [<- k2.length];exact q _ F H (.refl fh) (rep_int.mpr rfl)⟩
 ·split at ho
  ·rename_i z
   cases ho;obtain⟨x,rfl,rx⟩:=rep1 rl;cases rep_str.mp rx;exact⟨_,_,rfl,⟨va z,rfl⟩,q _ F H (.refl fh) (rep_int.mpr rfl)⟩
  ·cases ho
 ·cases ho
def vc:List D->Option D
 | [.tup ds]=>some (.tup ds)
 | [.lst ds]=>some (.tup ds)
 | _=>none
theorem vd:j6 X (.type "tuple") (rC X.K vc):=q0n qb8 fun xs H Q ⟨F,ds,d,fh,rl,ho,q⟩=>by
 unfold vc at ho
 split at ho
 ·cases ho
  obtain⟨x,rfl,rx⟩:=rep1 rl;obtain⟨a,ys,rfl,k1,k2⟩:=rep_tup.mp rx;exact⟨a,ys,rfl,.inr ⟨ql fh k1,q _ F H (.refl fh) rx⟩⟩
 ·cases ho
  obtain⟨x,rfl,rx⟩:=rep1 rl;obtain⟨a,ys,rfl,k1,k2⟩:=rep_lst.mp rx;refine⟨a,ys,rfl,.inl ⟨fh.seq k1,fun l hl=>?_⟩⟩;have gn:Grow F H (upd F l (.tup ys)) (upd H l (.tup ys)):=Grow.new fh hl;exact q _ _ _ gn (rep_tup.mpr ⟨l,ys,rfl,SqT.of qt,k2.mono gn.ff⟩)
 ·cases ho
def qcf:List D->Option D
 | [.int i]=>some (.int i)
 | [.bl b]=>some (.int (if b then 1 else 0))
 | _=>none
theorem qrj:j6 X (.type "int") (rC X.K qcf):=q0n qi4 fun xs H Q ⟨F,ds,d,fh,rl,ho,q⟩=>by
 unfold qcf at ho
 split at ho
 ·cases ho
  obtain⟨x,rfl,rx⟩:=rep1 rl;exact .inl ⟨_,by rw [rep_int.mp rx],q _ F H (.refl fh) (rep_int.mpr rfl)⟩
 ·cases ho
  obtain⟨x,rfl,rx⟩:=rep1 rl;exact .inr ⟨_,by rw [rep_bl.mp rx],q _ F H (.refl fh) (rep_int.mpr rfl)⟩
 ·cases ho
def rCL(K:Frag)(op:List D->Option (List D)): List V->Hp->VK->Prop:=fun xs H Q=>∃F ds es,Same F H/\RepL K F ds xs/\op ds=some es/\∀a ys F' H',Grow F H F' H'->F' a=none->H a=none->H' a=some (.lst ys)->RepL K F' es ys->Q (.ref a) H'
def q6l(op:List D->Option (List D))(fa:FA): FA:=fun ρ =>(fa ρ).bind op
theorem qog{K:Frag}{op:List D->Option (List D)}{σ : St}{H:Hp}{Q:VK}(h:tL K (q6l op fa) σ H Q): tDA K fa σ H fun vs H1=>rCL K op vs H1 Q:=by
 obtain⟨F0,H0,F, ρ,d,r,hf,q⟩:=h;obtain⟨ds,h1,h2⟩:=gh.mp hf;exact⟨F0,H0,F, ρ,ds,r,h1,fun vs F1 H1 g1 r1=>⟨F1,ds,d,g1.fh,r1,h2,fun a ys F2 H2 g2 k1 k2 k3 k4=>q a ys F2 H2 (g1.trans g2) k1 (g1.hh.free k2) k3 k4⟩⟩
theorem qiq{x:Str}{p:Pos}{T:String}{op:List D->Option (List D)}(hc:j6 X (.type T) (rCL X.K op))(hg:Gl X x)(hm:X.mg x=none)(hv:bootBuiltins x=some (.type T))(ha:PA X (e :: es) (tDA X.K fa))
  (hn:x≠"__name__" :=by decide) (hdb:(x==("__debug__" : Str))=false:=by decide)
  (he:starEach (e :: es) X.env=(false,eval e X.env) :: starEach es X.env:=by rfl) (hpl:(backTo pos (starEach es X.env)).any (·.1)=false:=by rfl):PE X (.Call (.Name x p) (e :: es) [] pos) (tL X.K (q6l op fa)):=
 zx (q38 hc hg hm hv ha hn hdb he hpl) fun σ H Q h=>qog h
def q8h:List D->Option (List D)
 | [.tup ds]=>some ds
 | [.lst ds]=>some ds
 | _=>none
theorem qoh:j6 X (.type "list") (rCL X.K q8h):=q0n qc0 fun xs H Q ⟨F,ds,d,fh,rl,ho,q⟩=>by
 unfold q8h at ho
 split at ho
 ·cases ho
  obtain⟨x,rfl,rx⟩:=rep1 rl;obtain⟨a,ys,rfl,k1,k2⟩:=rep_tup.mp rx;exact⟨a,ys,rfl,.inr (ql fh k1),fun l hl=>q l ys F _ (Grow.own fh hl) (fh.free hl) hl qt k2⟩
 ·cases ho
  obtain⟨x,rfl,rx⟩:=rep1 rl;obtain⟨a,ys,rfl,k1,k2⟩:=rep_lst.mp rx;exact⟨a,ys,rfl,.inl (fh.seq k1),fun l hl=>q l ys F _ (Grow.own fh hl) (fh.free hl) hl qt k2⟩
 ·cases ho
theorem qfh{K:Frag}{H:Hp}{ds:List D}{xs:List V}{i:Int}{d:D}(h:RepL K H ds xs)(e:atI ds i=some d): ∃x,atI xs i=some x/\Rep K H d x:=by
 unfold atI at e ⊢;rw [<- h.length];cases q:ixN ds.length i with
 | none=>rw [q] at e;cases e
 | some j=>
  rw [q] at e;exact h.get e
def oIx:D->D->Option D
 | .tup ds,.int i=>atI ds i
 | .lst ds,.int i=>atI ds i
 | _,_=>none
theorem vx{a b:Expr}(ha:PE X a (tD X.K f))(hb:PE X b (tD X.K g))(hs:qfa b:=by intro _ _;rfl): PE X (.Subscript a b pos) (tD X.K (eOp oIx f g)):=zx (qtd qr5 ha hb hs) fun σ H Q h=>by
 have h':=two h;obtain⟨F0,H0,F, ρ,d,r,hf,q⟩:=h';refine⟨F0,H0,F, ρ,d,r,hf,fun v F1 H1 g1 r1=>?_⟩;obtain⟨F0',H0',F', ρ',d',r',hf',q'⟩:=q v F1 H1 g1 r1;refine⟨F0',H0',F', ρ',d',r',hf',fun v2 F2 H2 g2 r2=>?_⟩;obtain⟨F3,d1,d2,d3,fh,k1,k2,k3,k4⟩:=q' v2 F2 H2 g2 r2;unfold oIx at k3
 split at k3
 ·obtain⟨p,ys,rfl,z1,z2⟩:=rep_tup.mp k1
  obtain⟨y,z3,z4⟩:=qfh z2 k3;exact .inr (.inl ⟨p,ys,_,y,rfl,rep_int.mp k2,ql fh z1,z3,k4 y F3 H2 (.refl fh) z4⟩)
 ·obtain⟨p,ys,rfl,z1,z2⟩:=rep_lst.mp k1
  obtain⟨y,z3,z4⟩:=qfh z2 k3;exact .inl ⟨p,ys,_,y,rfl,rep_int.mp k2,fh.seq z1,z3,k4 y F3 H2 (.refl fh) z4⟩
 ·cases k3
def eUn(o:D->Option D)(f:FE): FE:=fun ρ =>(f ρ).bind o
end
section
variable{prog:Program}{w:World}{A:Around}{E:Value->Shared->Prop}{s:Shared}
theorem qb9{t sl:Addr}{items:Array Value}{vl vu:Value}{lo hi:Option Int}{Q:Value->Shared->Prop}(ht:IsTup s.heap t items)(hs:s.heap.IsSliceOf sl vl vu .none)
  (pl:IsPart vl lo) (pu:IsPart vu hi) (w1:HT.sIx items.size 0 lo=0) (w2:HT.sIx items.size items.size hi=items.size) (h:Q (.ref t) s) :
  wpAny (model prog w) A (getItem (.ref t) (.ref sl)) Q E s:=by
 obtain⟨os,hos,hcs,hds⟩:=id hs;have hTs:s.TypeIs (.ref sl) "slice" :=⟨os,hos,hcs⟩
 unfold getItem
 try with_reducible refine ug ?_
 first|refine g9 (gc ?_)|skip
 refine g9 (wpAny_sequenceKey ht.typeIs (by decide) (g9 (tq (name:=Str.ofString "__getitem__") ht.typeIs uz
  (pz uz ht.typeIs entry_tuple_getitem ?_ (args_tuple_getitem _ _)))))
 show wpAny _ _ (Builtin.Tuple.tupleItemsOf (.ref t) >>= _) _ _ s;refine g9 (tupleItemsOf_ ht (g9 (g1x hTs ?_)));rw [mq (by decide)];refine g9 (HT.sliceApplied_gen hs pl pu ?_);rw [w1,w2];show wpAny _ _ (if(((0:Nat):Int)==0&&(1:Int)==1&&(items.size-0)==items.size)=true then _ else _) _ _ s;rw [mq (by simp)];refine g9 ?_;unfold Builtin.Tuple.tupleIsExact;refine g9 (g1x ht.typeIs (gc ?_))
 first
  | rw [mq (by decide)]
  | skip
 first
  | exact g9 (g01 (g9 (gc (gc ⟨_,rfl,gc h⟩))))
  | exact g9 (g01 (gc ⟨_,rfl,gc h⟩))
  | exact g9 (g9 (g01 (gc (gc ⟨_,rfl,gc h⟩))))
end
section
variable{X:Cx}{e:Expr}{es:List Expr}{pos:Pos}{f g:FE}{fa:FA}
def quq(K:Frag): V->Option Int->Option Int->Hp->VK->Prop:=fun x lo hi H Q=>∃a xs,x=.ref a/\SqT K H a xs/\HT.sIx xs.length 0 lo=0/\HT.sIx xs.length xs.length hi=xs.length/\Q (.ref a) H
theorem qld:SlR X (quq X.K):=by
 intro pins s σ H x v vl vu lo hi sl Q I rx hs pl pu h;obtain⟨a,xs,rfl,hx,w1,w2,q⟩:=h;cases rx;obtain⟨its,r,ht,hz⟩:=I.tuple hx;have hlen:its.toArray.size=xs.length:=by rw [gj];exact r.length.symm
 exact⟨"tuple",_,uz.lookup,ht.typeIs,qb9 ht hs pl pu (by rw [hlen];exact w1) (by rw [hlen];exact w2) ⟨.ref a,H,I,rfl,q⟩⟩
def cutD(ds:List D)(lo hi:Option Int): List D:=(ds.drop (HT.sIx ds.length 0 lo)).take (HT.sIx ds.length ds.length hi-HT.sIx ds.length 0 lo)
def oSl:D->Option Int->Option Int->Option D
 | .tup ds,lo,hi=>some (.tup (cutD ds lo hi))
 | .lst ds,lo,hi=>some (.lst (cutD ds lo hi))
 | _,_,_=>none
abbrev FO:=Rho->Option (Option Int)
def oNo:FO:=fun _=>some none
def oAt(f:FE): FO:=fun ρ =>(f ρ).bind fun d=>match d with
 | .int i=>some (some i)
 | _=>none
def tDO(K:Frag)(f:FO): TO:=fun σ H Q=>∃F0 H0 F ρ i,RS K F0 H0 F H σ ρ /\ f ρ = some i/\∀F' H',Grow F H F' H'->Q i H'
theorem qir{o:Option Expr}{t t':TO}(h:PO X o t)(i:∀ σ H Q,t' σ H Q->t σ H Q): PO X o t':=fun pins s σ H Q I q=>h pins s σ H Q I (i σ H Q q)
theorem qcg:PO X none (tDO X.K oNo):=qir qo6 fun σ H Q ⟨F0,H0,F, ρ,i,r,hf,q⟩=>by cases hf;exact q F H (.refl r.fh)
theorem qch(h:PE X e (tD X.K f)): PO X (some e) (tDO X.K (oAt f)):=qir (qo7 h) fun σ H Q ⟨F0,H0,F, ρ,i,r,hf,q⟩=>by
 obtain⟨d,h1,h2⟩:=gh.mp hf;cases d <;> simp only at h2 <;> first|(cases h2;done)|skip
 cases h2;exact⟨F0,H0,F, ρ,_,r,h1,fun v F' H' g' r'=>⟨_,rep_int.mp r',q F' H' g'⟩⟩
def eSl(f:FE)(lo hi:FO): FE:=fun ρ =>(f ρ).bind fun d=>(lo ρ).bind fun l=>(hi ρ).bind fun h=>oSl d l h
theorem qci{a:Expr}{lo hi:Option Expr}{fl fh:FO}{p2:Pos}(ha:PE X a (tD X.K f))(hl:PO X lo (tDO X.K fl))(hh:PO X hi (tDO X.K fh)): PE X (.Subscript a (.Slice lo hi none p2) pos) (tD X.K (eSl f fl fh)):=
 zx (qkt (sl_list.or (sl_tup.or qld)) ha hl hh) fun σ H Q ⟨F0,H0,F, ρ,d,r,hf,q⟩=>by
  obtain⟨x,h1,hf⟩:=gh.mp hf;obtain⟨l,h2,hf⟩:=gh.mp hf;obtain⟨u,h3,h4⟩:=gh.mp hf;refine⟨F0,H0,F, ρ,x,r,h1,fun v F1 H1 g1 r1=>⟨F0,H0,F1, ρ,l,r.grow g1,h2,fun F2 H2 g2=>⟨F0,H0,F2, ρ,u,(r.grow g1).grow g2,h3,fun F3 H3 g3=>?_⟩⟩⟩;have gg:=g1.trans (g2.trans g3);have r3:Rep X.K F3 x v:=r1.mono (g2.ff.trans g3.ff);cases x with
  | tup ds=>
   cases h4;obtain⟨p,xs,rfl,k1,k2⟩:=rep_tup.mp r3;have hlen:=k2.length
   by_cases wh:HT.sIx xs.length 0 l=0/\HT.sIx xs.length xs.length u=xs.length
   ·refine .inr (.inr ⟨p,xs,rfl,ql g3.fh k1,wh.1,wh.2,q _ F3 H3 gg ?_⟩)
    have e:cutD ds l u=ds:=by
     unfold cutD;rw [hlen,wh.1,wh.2,g3s,Nat.sub_zero, <- hlen,g4s]
    rw [e];exact r3
   ·refine .inr (.inl ⟨p,xs,rfl,ql g3.fh k1,wh,fun p' hp=>?_⟩)
    have gn:Grow F3 H3 (upd F3 p' (.tup (q1z xs l u))) (upd H3 p' (.tup (q1z xs l u))):=Grow.new g3.fh hp;refine q _ _ _ (gg.trans gn) (rep_tup.mpr ⟨p',_,rfl,SqT.of qt,?_⟩);unfold cutD q1z;rw [hlen];exact((k2.mono gn.ff).drop _).take _
  | lst ds=>
   cases h4;obtain⟨p,xs,rfl,k1,k2⟩:=rep_lst.mp r3;have hlen:=k2.length;refine .inl ⟨p,xs,rfl,g3.fh.seq k1,fun p' hp=>?_⟩;have gn:Grow F3 H3 (upd F3 p' (.lst (q1z xs l u))) (upd H3 p' (.lst (q1z xs l u))):=Grow.new g3.fh hp;refine q _ _ _ (gg.trans gn) (rep_lst.mpr ⟨p',_,rfl,SqL.of qt,?_⟩);unfold cutD q1z;rw [hlen];exact((k2.mono gn.ff).drop _).take _
  | _=>cases h4
def q7j:D->D->Option D
 | .tup xs,.tup ys=>if xs.length+ys.length<=lim then some (.tup (xs++ys)) else none
 | .lst xs,.lst ys=>if xs.length+ys.length<=lim then some (.lst (xs++ys)) else none
 | _,_=>none
theorem qrk:OpR X (binaryOp .Add) (rD X.K q7j):=by
 intro pins s σ H x y v u Q I rx ry h;obtain⟨F,d1,d2,d,fh,r1,r2,ho,q⟩:=h;unfold q7j at ho
 split at ho
 ·rename_i ds es
  split at ho
  ·rename_i hl
   cases ho;obtain⟨a,xs,rfl,k1,k2⟩:=rep_tup.mp r1;obtain⟨b,ys,rfl,k3,k4⟩:=rep_tup.mp r2
   by_cases hd:ds=[]
   ·subst hd
    cases k2.nil_inv;cases rx;cases ry;obtain⟨i1,v1,⟨⟨c1,dd1,dt1,sl1⟩,o1,e1,n1,t1⟩,_⟩:=I.tuple (ql fh k1);obtain⟨i2,v2,⟨⟨c2,dd2,dt2,sl2⟩,o2,e2,n2,t2⟩,_⟩:=I.tuple (ql fh k3);simp only at e1 t1 e2 t2;subst e1 t1 e2 t2;cases v1;exact g4o ⟨_,o1,rfl⟩ ⟨_,o2,rfl⟩ g4p seq_tuple_add g33 g2u (g2g _ _)
     (tuple_addW0 a b #[] i2.toArray n1 n2 dd1 dd2 sl1 sl2 rfl) ⟨o1,o2,⟨.ref b,H,I,rfl,q _ F H (.refl fh) (by simpa using r2)⟩⟩
   ·refine qo8 pins s σ H _ _ v u Q I rx ry ⟨a,b,xs,ys,rfl,rfl,ql fh k1,ql fh k3,fun z=>hd ?_,va (by rw [<- k2.length, <- k4.length];exact hl),fun z=>?_,fun z p hp=>?_⟩
    ·have:=k2.length;rw [z] at this;exact g3p this
    ·have e:es=[]:=by have:=k4.length;rw [z] at this;exact g3p this
     subst e;rw [g2b] at q;exact q _ F H (.refl fh) r1
    ·have gn:Grow F H (upd F p (.tup (xs++ys))) (upd H p (.tup (xs++ys))):=Grow.new fh hp
     exact q _ _ _ gn (rep_tup.mpr ⟨p,_,rfl,SqT.of qt,(k2.mono gn.ff).append (k4.mono gn.ff)⟩)
  ·cases ho
 ·rename_i ds es
  split at ho
  ·rename_i hl
   cases ho;obtain⟨a,xs,rfl,k1,k2⟩:=rep_lst.mp r1;obtain⟨b,ys,rfl,k3,k4⟩:=rep_lst.mp r2;cases rx;cases ry;obtain⟨i1,v1,⟨⟨c1,dd1,dt1,sl1⟩,n1,o1,e1,g1,t1⟩,_⟩:=I.list (fh.seq k1);obtain⟨i2,v2,⟨⟨c2,dd2,dt2,sl2⟩,n2,o2,e2,g2,t2⟩,_⟩:=I.list (fh.seq k3);simp only at e1 t1 e2 t2;subst e1 t1 e2 t2;have hz:xs.length+ys.length<=sizeLine:=va (by rw [<- k2.length, <- k4.length];exact hl);refine g4o ⟨_,o1,rfl⟩ ⟨_,o2,rfl⟩ noFill_list_add seq_list_add PySem.F.slot_list_add PySem.F.entry_list_add (PySem.F.args_list_add_2 _ _)
    (list_addW a b i1.toArray i2.toArray n1 n2 dd1 dd2 sl1 sl2 (by rw [gj,gj, <- v1.length, <- v2.length];exact hz)) ⟨o1,o2,?_⟩
   have ea:i1.toArray++i2.toArray=(i1++i2).toArray:=by simp
   rw [ea];have gn:Grow F H (upd F s.heap.objs.size (.lst (xs++ys))) (upd H s.heap.objs.size (.lst (xs++ys))):=Grow.new fh I.fresh;exact⟨.ref _,_,I.lnew (t':=s.toks) (v1.append v2) (by rw [nj];exact hz),rfl,q _ _ _ gn (rep_lst.mpr ⟨_,_,rfl,SqL.of qt,(k2.mono gn.ff).append (k4.mono gn.ff)⟩)⟩
  ·cases ho
 ·cases ho
abbrev zd:D->D->Option D:=fun x y=>(oAdd x y).or (q7j x y)
theorem j5:OpR X (binaryOp .Add) (rD X.K zd):=q5h qr9 qrk
def flat(d:D): Bool:=(flD d).isSome
def eqF:D->D->Bool
 | .non,.non=>true
 | .bl a,.bl b=>a==b
 | .bl a,.int b=>(if a then 1 else 0)==b
 | .int a,.bl b=>a==(if b then 1 else 0)
 | .int a,.int b=>a==b
 | .str a,.str b=>a==b
 | _,_=>false
def inF(d:D)(ds:List D): Bool:=ds.any fun e=>eqF e d
theorem qbl{K:Frag}{H:Hp}{d e:D}{x y:V}(h1:flat d=true)(h2:flat e=true)(r1:Rep K H d x)(r2:Rep K H e y): eqV x y=eqF d e/\q0b x=true/\q0b y=true:=by
 cases d <;> first|(cases h1;done)|skip
 all_goals (cases e <;> first|(cases h2;done)|skip)
 all_goals (first|(cases rep_non.mp r1)|(cases rep_bl.mp r1)|(cases rep_int.mp r1)|(cases rep_str.mp r1))
 all_goals (first|(cases rep_non.mp r2)|(cases rep_bl.mp r2)|(cases rep_int.mp r2)|(cases rep_str.mp r2))
 all_goals exact⟨rfl,rfl,rfl⟩
theorem qgm{K:Frag}{H:Hp}{d:D}{x:V}(h1:flat d=true)(r1:Rep K H d x): ∀ {ds:List D} {xs:List V},ds.all flat=true->RepL K H ds xs->inV x xs=inF d ds/\q0b x=true/\xs.all q0b=true
 | [],xs,_,r=>by cases r.nil_inv;exact⟨rfl,(qbl h1 h1 r1 r1).2.1,rfl⟩
 | e :: ds,xs,h2,r=>by
  obtain⟨y,ys,rfl,k1,k2⟩:=r.cons_inv;rw [g1m,mi] at h2;obtain⟨z1,z2,z3⟩:=qgm h1 r1 h2.2 k2;obtain⟨w1,w2,w3⟩:=qbl h2.1 h1 k1 r1;refine⟨?_,z2,?_⟩
  ·show(eqV y x || inV x ys)=(eqF e d || inF d ds)
   rw [w1,z1]
  ·rw [g1m,w2,z3];rfl
def oIn(neg:Bool): D->D->Option D
 | d,.tup ds=>if flat d&&ds.all flat then some (.bl (if neg then !inF d ds else inF d ds)) else none
 | d,.lst ds=>if flat d&&ds.all flat then some (.bl (if neg then !inF d ds else inF d ds)) else none
 | _,_=>none
theorem qnn{K:Frag}{neg:Bool}{x y:V}{H:Hp}{Q:VK}(h:rD K (oIn neg) x y H Q): rIn K neg x y H Q:=by
 obtain⟨F,d1,d2,d,fh,r1,r2,ho,q⟩:=h;cases d2 <;> simp only [oIn] at ho <;> first|(cases ho;done)|skip
 ·split at ho
  ·rename_i hc
   cases ho;rw [mi] at hc;obtain⟨p,xs,rfl,k1,k2⟩:=rep_tup.mp r2;obtain⟨z1,z2,z3⟩:=qgm hc.1 r1 hc.2 k2;exact⟨p,xs,rfl,.inr (ql fh k1),z2,z3,by rw [z1];exact q _ F H (.refl fh) (rep_bl.mpr rfl)⟩
  ·cases ho
 ·split at ho
  ·rename_i hc
   cases ho;rw [mi] at hc;obtain⟨p,xs,rfl,k1,k2⟩:=rep_lst.mp r2;obtain⟨z1,z2,z3⟩:=qgm hc.1 r1 hc.2 k2;exact⟨p,xs,rfl,.inl (fh.seq k1),z2,z3,by rw [z1];exact q _ F H (.refl fh) (rep_bl.mpr rfl)⟩
  ·cases ho
theorem qtn:OpR X (compareOp .In) (rD X.K (oIn false)):=q16 qi9 fun x y H Q h=>qnn h
theorem qcj:OpR X (compareOp .NotIn) (rD X.K (oIn true)):=q16 qbz fun x y H Q h=>qnn h
end
mutual
def eqD:D->D->Bool
 | .tup ds,.tup es=>eqL ds es
 | .lst ds,.lst es=>eqL ds es
 | d,e=>eqF d e
def eqL:List D->List D->Bool
 | [],[]=>true
 | d :: ds,e :: es=>eqD d e&&eqL ds es
 | _,_=>false
end
mutual
def okE:D->D->Bool
 | .tup ds,.tup es=>xa ds es
 | .lst ds,.lst es=>xa ds es
 | d,e=>flat d&&flat e
def xa:List D->List D->Bool
 | d :: ds,e :: es=>okE d e&&xa ds es
 | _,_=>true
end
mutual
def q0g:D->Nat
 | .tup ds=>xb ds+1
 | .lst ds=>xb ds+1
 | _=>0
def xb:List D->Nat
 | []=>0
 | d :: ds=>max (q0g d) (xb ds)
end
def eqJ(ds es:List D)(j:Nat): Bool:=match ds[j]?,es[j]? with
 | some d,some e=>eqD d e
 | _,_=>true
theorem xv:∀(ds es:List D),((List.range (min ds.length es.length)).all (eqJ ds es)&&ds.length==es.length)=eqL ds es
 | [],[]=>by simp [eqL]
 | [],e :: es=>by simp [eqL]
 | d :: ds,[]=>by simp [eqL]
 | d :: ds,e :: es=>by
  have ih:=xv ds es;have e1:min (d :: ds).length (e :: es).length=min ds.length es.length+1:=by simp only [p5];lia
  rw [e1,g1q,g1m,g4t];have e2:(eqJ (d :: ds) (e :: es) ∘ Nat.succ)=eqJ ds es:=by funext j;simp [eqJ]
  have e3:eqJ (d :: ds) (e :: es) 0=eqD d e:=by simp [eqJ]
  have e4:((d :: ds).length==(e :: es).length)=(ds.length==es.length):=by simp
  rw [e2,e3,e4,Bool.and_assoc,ih];simp only [eqL]
theorem qck{d e:D}(h1:flat d=true)(h2:flat e=true): eqD d e=eqF d e:=by
 cases d <;> first|(cases h1;done)|skip
 all_goals (cases e <;> first|(cases h2;done)|skip)
 all_goals simp only [eqD]
section
variable{X:Cx}{pins:List (Addr×Obj)}{σ : St}{F H:Hp}{s:Shared}
theorem qis{A:Around}{d e:D}{x y:V}{u v:Value}(h1:flat d=true)(h2:flat e=true)(r1:Rep X.K F d x)(r2:Rep X.K F e y)(q1:RelV x u)(q2:RelV y v): SeqAt.EqAt A s u v (eqD d e):=by
 obtain⟨z1,z2,z3⟩:=qbl h1 h2 r1 r2;rw [qck h1 h2, <- z1];exact qi7 q1 q2 z2 z3
theorem qcl{d e:D}(h:okE d e=true): (∃ds es,d=.tup ds/\e=.tup es/\xa ds es=true)\/(∃ds es,d=.lst ds/\e=.lst es/\xa ds es=true)\/(flat d=true/\flat e=true):=by
 cases d <;> cases e <;> simp only [okE,mi] at h <;> first
  | exact .inl ⟨_,_,rfl,rfl,h⟩
  | exact .inr (.inl ⟨_,_,rfl,rfl,h⟩)
  | exact .inr (.inr h)
theorem qfi(I:Inv X pins σ H s)(fh:Same F H): ∀ {d e:D} {x:V},okE d e=true->Rep X.K F d x->Rep X.K F e x->eqD d e=true:=by
 suffices hh:∀n,(∀d e x,sizeOf d<n->okE d e=true->Rep X.K F d x->Rep X.K F e x->eqD d e=true) from fun {d e x}=>hh (sizeOf d+1) d e x (tw _)
 intro n
 induction n with
 | zero=>intro d e x h;exact absurd h (t6 _)
 | succ n ih=>
  intro d e x hn ok r1 r2;have seq:∀(ds es:List D) (xs:List V),sizeOf ds<n->xa ds es=true->RepL X.K F ds xs->RepL X.K F es xs->eqL ds es=true:=by
   intro ds
   induction ds with
   | nil=>
    intro es xs _ _ k1 k2;cases k1.nil_inv;cases es with
    | nil=>simp only [eqL]
    | cons e es=>obtain⟨_,_,z,_⟩:=k2.cons_inv;cases z
   | cons d ds ihd=>
    intro es xs hs ho k1 k2;obtain⟨x,r,rfl,a1,a2⟩:=k1.cons_inv;cases es with
    | nil=>cases k2.nil_inv
    | cons e es=>
     obtain⟨x',r',z,b1,b2⟩:=k2.cons_inv;cases z;simp only [xa,mi] at ho;have hs1:sizeOf d<n:=by simp only [g1y] at hs;lia
     have hs2:sizeOf ds<n:=by simp only [g1y] at hs;lia
     simp only [eqL,mi];exact⟨ih d e x hs1 ho.1 a1 b1,ihd es r hs2 ho.2 a2 b2⟩
  rcases qcl ok with⟨ds,es,rfl,rfl,ho⟩|⟨ds,es,rfl,rfl,ho⟩|⟨h1,h2⟩
  ·obtain⟨a,xs,rfl,k1,k2⟩:=rep_tup.mp r1
   obtain⟨b,ys,z,k3,k4⟩:=rep_tup.mp r2;cases z;cases I.tuple_inj (ql fh k1) (ql fh k3);simp only [eqD];exact seq ds es xs (by simp only [D.tup.sizeOf_spec] at hn;lia) ho k2 k4
  ·obtain⟨a,xs,rfl,k1,k2⟩:=rep_lst.mp r1
   obtain⟨b,ys,z,k3,k4⟩:=rep_lst.mp r2;cases z;cases I.list_inj (fh.seq k1) (fh.seq k3);simp only [eqD];exact seq ds es xs (by simp only [D.lst.sizeOf_spec] at hn;lia) ho k2 k4
  ·obtain⟨z1,_⟩:=qbl h1 h2 r1 r2
   rw [qck h1 h2, <- z1];cases d <;> first|(cases h1;done)|skip
   ·cases rep_non.mp r1;rfl
   ·cases rep_bl.mp r1;simp [eqV]
   ·cases rep_int.mp r1;simp [eqV]
   ·cases rep_str.mp r1;simp [eqV]
theorem q8i (I:Inv X pins σ H s) (fh:Same F H):∀ {d e:D} {x y:V} {u v:Value} (A:Around),okE d e=true->A.units+q0g d<cLine->Rep X.K F d x->Rep X.K F e y->RelV x u->RelV y v->SeqAt.EqAt A s u v (eqD d e):=by
 suffices hh:∀n,(∀d e x y u v (A:Around),sizeOf d<n->okE d e=true->A.units+q0g d<cLine->Rep X.K F d x->Rep X.K F e y->RelV x u->RelV y v->SeqAt.EqAt A s u v (eqD d e)) from
  fun {d e x y u v} A=>hh (sizeOf d+1) d e x y u v A (tw _)
 intro n
 induction n with
 | zero=>intro d e x y u v A h;exact absurd h (t6 _)
 | succ n ih=>
  intro d e x y u v A hn ok hu r1 r2 q1 q2;have seq:∀(ds es:List D) (xs ys:List V) (us vs:List Value) (A:Around),sizeOf ds<n->xa ds es=true->A.units+xb ds<cLine->RepL X.K F ds xs->RepL X.K F es ys->Vals xs us->Vals ys vs ->
    ∀j (h1:j<us.length) (h2:j<vs.length),SeqAt.EqAt A s us[j] vs[j] (eqJ ds es j):=by
   intro ds
   induction ds with
   | nil=>
    intro es xs ys us vs A _ _ _ k1 _ w1 _ j h1;cases k1.nil_inv;cases w1;exact absurd h1 (t6 _)
   | cons d ds ihd=>
    intro es xs ys us vs A hs ho hu k1 k2 w1 w2 j h1 h2;obtain⟨x,r,rfl,a1,a2⟩:=k1.cons_inv;cases w1 with
    | cons p1 p2=>
     cases es with
     | nil=>cases k2.nil_inv;cases w2;exact absurd h2 (t6 _)
     | cons e es=>
      obtain⟨y,r',rfl,b1,b2⟩:=k2.cons_inv;cases w2 with
      | cons p3 p4=>
       simp only [xa,mi] at ho;have hs1:sizeOf d<n:=by simp only [g1y] at hs;lia
       have hs2:sizeOf ds<n:=by simp only [g1y] at hs;lia
       simp only [xb] at hu;cases j with
       | zero=>
        have e0:eqJ (d :: ds) (e :: es) 0=eqD d e:=by simp [eqJ]
        rw [e0];exact ih d e x y _ _ A hs1 ho.1 (by lia) a1 b1 p1 p3
       | succ j=>
        have e0:eqJ (d :: ds) (e :: es) (j+1)=eqJ ds es j:=by simp [eqJ]
        rw [e0];exact ihd es r r' _ _ A hs2 ho.2 (by lia) a2 b2 p2 p4 j (by simpa using h1) (by simpa using h2)
  rcases qcl ok with⟨ds,es,rfl,rfl,ho⟩|⟨ds,es,rfl,rfl,ho⟩|⟨h1,h2⟩
  ·have rr:=qfi I fh ok r1
   obtain⟨a,xs,rfl,k1,k2⟩:=rep_tup.mp r1;obtain⟨b,ys,rfl,k3,k4⟩:=rep_tup.mp r2;cases q1;cases q2
   by_cases hab:a=b
   ·subst hab
    rw [rr r2];exact g54 _
   ·obtain⟨i1,v1,t1,_⟩:=I.tuple (ql fh k1)
    obtain⟨i2,v2,t2,_⟩:=I.tuple (ql fh k3);simp only [q0g] at hu;refine SeqAt.EqAt.of_refs hab ?_;have hq:=seq ds es xs ys i1 i2 A.in1 (by simp only [D.tup.sizeOf_spec] at hn;lia) ho (by show A.units+1+xb ds<cLine;lia) k2 k4 v1 v2;have:=SeqAt.RcAt.tuples (A:=A) (e:=eqJ ds es) (show s.heap.IsTuple a i1.toArray from t1) (show s.heap.IsTuple b i2.toArray from t2) (by lia) (fun j h1 h2=>by simpa using hq j (by simpa using h1) (by simpa using h2));simp only [gj, <- v1.length, <- v2.length, <- k2.length, <- k4.length,xv] at this
    simpa only [eqD] using this
  ·have rr:=qfi I fh ok r1
   obtain⟨a,xs,rfl,k1,k2⟩:=rep_lst.mp r1;obtain⟨b,ys,rfl,k3,k4⟩:=rep_lst.mp r2;cases q1;cases q2
   by_cases hab:a=b
   ·subst hab
    rw [rr r2];exact g54 _
   ·obtain⟨i1,v1,t1,_⟩:=I.list (fh.seq k1)
    obtain⟨i2,v2,t2,_⟩:=I.list (fh.seq k3);simp only [q0g] at hu;refine SeqAt.EqAt.of_refs hab ?_;have hq:=seq ds es xs ys i1 i2 A.in1 (by simp only [D.lst.sizeOf_spec] at hn;lia) ho (by show A.units+1+xb ds<cLine;lia) k2 k4 v1 v2;have hl1:i1.length=ds.length:=by rw [<- v1.length, <- k2.length]
    have hl2:i2.length=es.length:=by rw [<- v2.length, <- k4.length]
    simp only [eqD]
    by_cases hl:ds.length=es.length
    ·have:=SeqAt.RcAt.lists (A:=A) (e:=eqJ ds es) t1.isList t2.isList (by rw [gj,gj,hl1,hl2];exact hl) (by lia) (fun j h1 h2=>by simpa using hq j (by simpa using h1) (by simpa using h2))
     have e1:(List.range i1.toArray.size).all (eqJ ds es)=eqL ds es:=by
      rw [<- xv,gj,hl1, <- hl,g3e];simp
     rw [e1] at this;exact this
    ·have e1:eqL ds es=false:=by rw [<- xv];simp [hl]
     rw [e1];exact SeqAt.RcAt.lists_lengths t1.isList t2.isList (by rw [gj,gj,hl1,hl2];simpa using hl) (by lia)
  ·exact qis h1 h2 r1 r2 q1 q2
def qle:D->D->Option D
 | .tup ds,.tup es=>if xa ds es&&decide (xb ds<=60) then some (.bl (eqL ds es)) else none
 | .lst ds,.lst es=>if xa ds es&&decide (xb ds<=60) then some (.bl (eqL ds es)) else none
 | _,_=>none
theorem qrl(hu:X.A.units+64<cLine): OpR X (compareOp .Eq) (rD X.K qle):=by
 intro pins s σ H x y v u Q I rx ry h;obtain⟨F,d1,d2,d,fh,r1,r2,ho,q⟩:=h;have part:∀ {ds es:List D} {xs ys:List V} {us vs:List Value},xa ds es=true->xb ds<=60->RepL X.K F ds xs->RepL X.K F es ys->Vals xs us->Vals ys vs ->
   ∀j (h1:j<us.length) (h2:j<vs.length),SeqAt.EqAt X.A.in1 s us[j] vs[j] (eqJ ds es j):=by
  intro ds
  induction ds with
  | nil=>
   intro es xs ys us vs _ _ k1 _ w1 _ j h1;cases k1.nil_inv;cases w1;exact absurd h1 (t6 _)
  | cons d ds ihd=>
   intro es xs ys us vs ho hd k1 k2 w1 w2 j h1 h2;obtain⟨x,r,rfl,a1,a2⟩:=k1.cons_inv;cases w1 with
   | cons p1 p2=>
    cases es with
    | nil=>cases k2.nil_inv;cases w2;exact absurd h2 (t6 _)
    | cons e es=>
     obtain⟨y,r',rfl,b1,b2⟩:=k2.cons_inv;cases w2 with
     | cons p3 p4=>
      simp only [xa,mi] at ho;simp only [xb] at hd;cases j with
      | zero=>
       have e0:eqJ (d :: ds) (e :: es) 0=eqD d e:=by simp [eqJ]
       rw [e0];exact q8i I fh _ ho.1 (by show X.A.units+1+q0g d<cLine;lia) a1 b1 p1 p3
      | succ j=>
       have e0:eqJ (d :: ds) (e :: es) (j+1)=eqJ ds es j:=by simp [eqJ]
       rw [e0];exact ihd ho.2 (by lia) a2 b2 p2 p4 j (by simpa using h1) (by simpa using h2)
 unfold qle at ho
 split at ho
 ·rename_i ds es
  split at ho
  ·rename_i hc
   cases ho;rw [mi] at hc;obtain⟨a,xs,rfl,k1,k2⟩:=rep_tup.mp r1;obtain⟨b,ys,rfl,k3,k4⟩:=rep_tup.mp r2;cases rx;cases ry;obtain⟨i1,v1,t1,_⟩:=I.tuple (ql fh k1);obtain⟨i2,v2,t2,_⟩:=I.tuple (ql fh k3);have hq:=part hc.1 (uk hc.2) k2 k4 v1 v2;refine SeqAt.eq_tupleAt (e:=eqJ ds es) (show s.heap.IsTuple a i1.toArray from t1) (show s.heap.IsTuple b i2.toArray from t2) (by lia) (fun j h1 h2=>by simpa using hq j (by simpa using h1) (by simpa using h2)) ?_;simp only [gj, <- v1.length, <- v2.length, <- k2.length, <- k4.length,xv];exact⟨.bl _,H,I,rfl,q _ F H (.refl fh) (rep_bl.mpr rfl)⟩
  ·cases ho
 ·rename_i ds es
  split at ho
  ·rename_i hc
   cases ho;rw [mi] at hc;obtain⟨a,xs,rfl,k1,k2⟩:=rep_lst.mp r1;obtain⟨b,ys,rfl,k3,k4⟩:=rep_lst.mp r2;cases rx;cases ry;obtain⟨i1,v1,t1,_⟩:=I.list (fh.seq k1);obtain⟨i2,v2,t2,_⟩:=I.list (fh.seq k3);have hq:=part hc.1 (uk hc.2) k2 k4 v1 v2;have hl1:i1.length=ds.length:=by rw [<- v1.length, <- k2.length]
   have hl2:i2.length=es.length:=by rw [<- v2.length, <- k4.length]
   by_cases hl:ds.length=es.length
   ·refine SeqAt.eq_listAt (e:=eqJ ds es) t1.isList t2.isList (by rw [gj,gj,hl1,hl2];exact hl) (by lia) (fun j h1 h2=>by simpa using hq j (by simpa using h1) (by simpa using h2)) ?_
    have e1:(List.range i1.toArray.size).all (eqJ ds es)=eqL ds es:=by
     rw [<- xv,gj,hl1, <- hl,g3e];simp
    rw [e1];exact⟨.bl _,H,I,rfl,q _ F H (.refl fh) (rep_bl.mpr rfl)⟩
   ·have e1:eqL ds es=false:=by rw [<- xv];simp [hl]
    rw [e1] at q;exact SeqAt.eq_list_lengthsAt t1.isList t2.isList (by rw [gj,gj,hl1,hl2];simpa using hl) (by lia) ⟨.bl _,H,I,rfl,q _ F H (.refl fh) (rep_bl.mpr rfl)⟩
  ·cases ho
 ·cases ho
abbrev oEq:D->D->Option D:=fun x y=>(ql7 x y).or (qle x y)
theorem q28(hu:X.A.units+64<cLine): OpR X (compareOp .Eq) (rD X.K oEq):=q5h qrc (qrl hu)
end
def itN:Bool->String
 | true=>"list_iterator"
 | false=>"tuple_iterator"
def sqN:Bool->String
 | true=>"list"
 | false=>"tuple"
def SI(b:Bool)(h:Heap)(it l:Addr)(k:Nat): Prop:=∃o,h.get? it=some o/\o.cls=.type (itN b)/\o.data=.fields #[.ref l,.int k 0]
def SO(b:Bool)(h:Heap)(l:Addr)(xs:Array Value): Prop:=∃o,h.get? l=some o/\o.cls=.type (sqN b)/\∃n,o.data=.seq xs n
theorem SI.ext{b:Bool}{h h':Heap}{it l c:Addr}{k:Nat}(x:SI b h it l k)(e:Heap.ExtBut c h h')(n:it≠c): SI b h' it l k:=let⟨o,ho,r⟩:=x; ⟨o,e it o n ho,r⟩
theorem SO.ext{b:Bool}{h h':Heap}{l c:Addr}{xs:Array Value}(x:SO b h l xs)(e:Heap.ExtBut c h h')(n:l≠c): SO b h' l xs:=let⟨o,ho,r⟩:=x; ⟨o,e l o n ho,r⟩
theorem SI.keep{b:Bool}{h h':Heap}{it l:Addr}{k:Nat}(x:SI b h it l k)(e:∀o,h.get? it=some o->h'.get? it=some o): SI b h' it l k:=let⟨o,ho,r⟩:=x; ⟨o,e o ho,r⟩
section
variable{prog:Program}{w:World}{A:Around}{E:Value->Shared->Prop}{s:Shared}
theorem q6m{b:Bool}{it l:Addr}{k:Nat}{xs:Array Value}{x:Value}{Q:Value->Shared->Prop}(hi:SI b s.heap it l k)(ho:SO b s.heap l xs)(hx:xs[k]? = some x)
  (h:∀h',SI b h' it l (k+1)->Heap.SameBut it s.heap h'->Q x {s with heap:=h'}):wpAny (model prog w) A (Builtin.SmallTypes.nextOf (.ref it)) Q E s:=by
 cases b with
 | true=>exact wpAny_nextOf_list_item hi ho hx h
 | false=>
  obtain⟨o,e1,e2,e3⟩:=id hi;obtain⟨o2,f1,f2,n,f3⟩:=id ho;have ty:s.TypeIs (.ref it) "tuple_iterator" :=⟨o,e1,e2⟩
  unfold Builtin.SmallTypes.nextOf;refine g9 (tq (name:=Str.ofString "__next__") ty g19 (pz g19 ty g41 ?_ (g3t _)));show wpAny _ _ (field (.ref it) 0 >>= _) _ _ s;refine g9 (td e1 e3 (x:=.ref l) rfl ?_);show wpAny _ _ (if(Value.ref l==Value.none)=true then _ else _) _ _ s;rw [mj (fun z:(Value.ref l==Value.none)=true=>m9 z)];show wpAny _ _ (field (.ref it) 1 >>= _) _ _ s;refine g9 (td e1 e3 (x:=.int k 0) rfl ?_);show wpAny _ _ (seqItems? (.ref l) >>= _) _ _ s;refine g9 (g0u f1 f3 ?_);simp only [g0n,hx];refine g9 (g2s e1 e3 (by simp) (gc ⟨x,rfl,gc (h _ ⟨_,g18 _ e1 (Obj.isFreed_of_fields (g2j e3 _)),(Obj.cls_mapFields ..).trans e2,?_⟩ (ur ..))⟩));rw [g2j e3];simp [rawInt]
theorem q9k{b:Bool}{it l:Addr}{k:Nat}{xs:Array Value}{Q:Value->Shared->Prop}(hh:A.handled=none)(hi:SI b s.heap it l k)(ho:SO b s.heap l xs)(hx:xs[k]? = none)
  (h:∀h' e,Heap.ExtBut it s.heap h'->(∃o,h'.get? e=some o/\o.cls=.type "StopIteration")->E (.ref e) {s with heap:=h'}):wpAny (model prog w) A (Builtin.SmallTypes.nextOf (.ref it)) Q E s:=by
 cases b with
 | true=>exact wpAny_nextOf_list_end hh hi ho hx h
 | false=>
  obtain⟨o,e1,e2,e3⟩:=id hi;obtain⟨o2,f1,f2,n,f3⟩:=id ho;have ty:s.TypeIs (.ref it) "tuple_iterator" :=⟨o,e1,e2⟩
  unfold Builtin.SmallTypes.nextOf;refine g9 (tq (name:=Str.ofString "__next__") ty g19 (pz g19 ty g41 ?_ (g3t _)));show wpAny _ _ (field (.ref it) 0 >>= _) _ _ s;refine g9 (td e1 e3 (x:=.ref l) rfl ?_);show wpAny _ _ (if(Value.ref l==Value.none)=true then _ else _) _ _ s;rw [mj (fun z:(Value.ref l==Value.none)=true=>m9 z)];show wpAny _ _ (field (.ref it) 1 >>= _) _ _ s;refine g9 (td e1 e3 (x:=.int k 0) rfl ?_);show wpAny _ _ (seqItems? (.ref l) >>= _) _ _ s;refine g9 (g0u f1 f3 ?_);simp only [g0n,hx];refine g9 (g01 (g9 (g2s e1 e3 (by simp) ?_)));show wpAny _ _ (newExc (.type "StopIteration") [] >>= _) _ _ _;refine g9 ?_;simp only [newExc,newTuple];refine g9 (uj (g9 (m:=firstArgMember _ _) (wpAny_of_eq (a:=Value.none) (by first|rfl|(simp only [firstArgMember];rfl)) (uj ?_ (by size_fits)))) (by size_fits));simp only [raiseNew];refine g9 (wpAny_handled ?_)
  first|rw [show A.in1.handled=none from hh]|rw [hh]
  exact g9 (gc (wpAny_throw (h _ _ (((ur ..).extBut.push _).push _) ⟨_,m4 _ rfl,rfl⟩)))
structure Z5(z ti to i1 i2:Addr): Prop where
 a1:ti≠z
 a2:to≠z
 a3:i1≠z
 a4:i2≠z
 a5:ti≠to
 a6:ti≠i1
 a7:ti≠i2
 a8:to≠i1
 a9:to≠i2
 a10:i1≠i2
structure Off(l z to i1 i2:Addr): Prop where
 z:l≠z
 o:l≠to
 i:l≠i1
 j:l≠i2
theorem qit{b1 b2:Bool}{z ti to i1 i2 l1 l2:Addr}{k1 k2:Nat}{xs ys:Array Value}{x y p q:Value}{Q:Value->Shared->Prop}(D:Z5 z ti to i1 i2)(m1:Off l1 z to i1 i2)(m2:Off l2 z to i1 i2)
  (hz:IsZip s.heap z ti to .none) (ht:IsPair s.heap ti (.ref i1) (.ref i2)) (hp:IsPair s.heap to p q)
  (h1:SI b1 s.heap i1 l1 k1) (h2:SI b2 s.heap i2 l2 k2) (o1:SO b1 s.heap l1 xs) (o2:SO b2 s.heap l2 ys) (hx:xs[k1]? = some x) (hy:ys[k2]? = some y)
  (hQ:∀h',IsZip h' z ti to (rawInt s.heap.objs.size)->IsPair h' to x y->SI b1 h' i1 l1 (k1+1)->SI b2 h' i2 l2 (k2+1)->IsPair h' s.heap.objs.size x y->h'.objs.size=s.heap.objs.size+1 ->
   (∀c o,c≠z->c≠to->c≠i1->c≠i2->s.heap.get? c=some o->h'.get? c=some o)->Q (.ref s.heap.objs.size) {s with heap:=h'}) :
  wpAny (model prog w) A (Builtin.«zip.__next__» ⟨[.ref z],[]⟩) (fun fin s'=>∃v,fin=.done (.ret v)/\Q v s') E s:=by
 show wpAny _ _ (field (.ref z) 2 >>= _) _ _ _;refine g9 (td hz rfl (x:=.bool false) rfl ?_);show wpAny _ _ (field (.ref z) 3 >>= _) _ _ _;refine g9 (td hz rfl (x:=.ref ti) rfl (g9 (g0u ht rfl ?_)));show wpAny _ _ (Builtin.SmallTypes.ownedTupleIsFree (.ref z) >>= _) _ _ _;refine g9 ?_;unfold Builtin.SmallTypes.ownedTupleIsFree;refine g9 (td hz rfl (x:=.none) rfl (gc ?_));simp only [ny];refine g9 (g01 (g9 (td hz rfl (x:=.ref to) rfl (g9 (um hz (by simp) fun g1 hz1 u1=>?_)))));have hz1':IsZip g1 z ti to .ellipsis:=hz1;refine g9 ?_;simp only [g4u,List.zipIdx_nil,g1o,g2r];refine g9 (g9 (g49 ?_));show wpAny _ _ (Builtin.SmallTypes.nextOf (.ref i1) >>= _) _ _ _;refine g9 (q6m (h1.ext u1.extBut D.a3) (o1.ext u1.extBut m1.z) hx fun g2 n1 u2=>gc ?_);have hp2:IsPair g2 to p q:=u2.extBut _ _ D.a8 (u1.extBut _ _ D.a2 hp);refine g9 (g0u hp2 rfl (g9 (g3f hp2 fun g3 hp3 u3=>?_)));have hp3':IsPair g3 to x q:=hp3;refine g9 (g3w (gc (g9 (g9 (g49 ?_)))));show wpAny _ _ (Builtin.SmallTypes.nextOf (.ref i2) >>= _) _ _ _;refine g9 (q6m (((h2.ext u1.extBut D.a4).ext u2.extBut D.a10.symm).ext u3.extBut D.a9.symm) (((o2.ext u1.extBut m2.z).ext u2.extBut m2.i).ext u3.extBut m2.o) hy fun g4 n2 u4=>gc ?_);have hp4:IsPair g4 to x q:=u4.extBut _ _ D.a9 hp3';refine g9 (g0u hp4 rfl (g9 (g3f hp4 fun g5 hp5 u5=>?_)));have hp5':IsPair g5 to x y:=hp5;refine g9 (g3w (gc (gc (g9 (g0u hp5' rfl (g9 (wpAny_newTuple ?_)))))));have hsz:g5.objs.size=s.heap.objs.size:=by rw [u5.1,u4.1,u3.1,u2.1,u1.1]
 have hz5:IsZip g5 z ti to .ellipsis:=u5.extBut _ _ D.a2.symm (u4.extBut _ _ D.a4.symm (u3.extBut _ _ D.a2.symm (u2.extBut _ _ D.a3.symm hz1')));have kp:∀c o,c≠z->c≠to->c≠i1->c≠i2->s.heap.get? c=some o->g5.get? c=some o:=fun c o c1 c2 c3 c4 e=>u5.extBut _ _ c2 (u4.extBut _ _ c4 (u3.extBut _ _ c2 (u2.extBut _ _ c3 (u1.extBut _ _ c1 e))));have j1:SI b1 g5 i1 l1 (k1+1):=((n1.ext u3.extBut D.a8.symm).ext u4.extBut D.a10).ext u5.extBut D.a8.symm;have j2:SI b2 g5 i2 l2 (k2+1):=n2.ext u5.extBut D.a9.symm;have hzl:z<g5.objs.size:=gz hz5;show wpAny _ _ (Builtin.SmallTypes.ownedTupleHandOut (.ref z) (.ref g5.objs.size) >>= _) _ _ _;refine g9 ?_;unfold Builtin.SmallTypes.ownedTupleHandOut;have hz6:IsZip (g5.push {cls:=.type "tuple",data:=.seq #[x,y]}) z ti to .ellipsis:=gf _ hz5;refine g9 (um hz6 (by simp) fun g7 hz7 u7=>?_);have hz7':IsZip g7 z ti to (rawInt g5.objs.size):=hz7;refine um hz7' (by simp) fun g8 hz8 u8=>?_;have hz8':IsZip g8 z ti to (rawInt g5.objs.size):=hz8;have up:∀c o,c≠z->g5.get? c=some o->g8.get? c=some o:=fun c o c1 e=>u8.extBut _ _ c1 (u7.extBut _ _ c1 (gf _ e));have hT:IsPair g8 g5.objs.size x y:=u8.extBut _ _ (tu hzl) (u7.extBut _ _ (tu hzl) (m4 _ rfl));have hl8:g8.objs.size=g5.objs.size+1:=by rw [u8.1,u7.1,pd]
 rw [hsz] at hz8' hT hl8;refine gc ⟨_,rfl,?_⟩;show Q (.ref g5.objs.size) _;rw [hsz];exact hQ g8 hz8' (up _ _ D.a2 hp5') (j1.keep fun o e=>up _ o D.a3 e) (j2.keep fun o e=>up _ o D.a4 e) hT hl8 fun c o c1 c2 c3 c4 e=>up c o c1 (kp c o c1 c2 c3 c4 e)
theorem qlf{b1 b2:Bool}{z ti to i1 i2 l1 l2:Addr}{k1 k2:Nat}{xs ys:Array Value}{p q:Value}{Q:Fin->Shared->Prop}(hh:A.handled=none)(D:Z5 z ti to i1 i2)(m1:Off l1 z to i1 i2)(m2:Off l2 z to i1 i2)
  (hz:IsZip s.heap z ti to .none) (ht:IsPair s.heap ti (.ref i1) (.ref i2)) (hp:IsPair s.heap to p q)
  (h1:SI b1 s.heap i1 l1 k1) (h2:SI b2 s.heap i2 l2 k2) (o1:SO b1 s.heap l1 xs) (o2:SO b2 s.heap l2 ys) (hend:xs[k1]? = none\/ys[k2]? = none)
  (hE:∀h' e,(∀c o,c≠z->c≠to->c≠i1->c≠i2->s.heap.get? c=some o->h'.get? c=some o)->(∃o,h'.get? e=some o/\o.cls=.type "StopIteration")->E (.ref e) {s with heap:=h'}) :
  wpAny (model prog w) A (Builtin.«zip.__next__» ⟨[.ref z],[]⟩) Q E s:=by
 show wpAny _ _ (field (.ref z) 2 >>= _) _ _ _;refine g9 (td hz rfl (x:=.bool false) rfl ?_);show wpAny _ _ (field (.ref z) 3 >>= _) _ _ _;refine g9 (td hz rfl (x:=.ref ti) rfl (g9 (g0u ht rfl ?_)));show wpAny _ _ (Builtin.SmallTypes.ownedTupleIsFree (.ref z) >>= _) _ _ _;refine g9 ?_;unfold Builtin.SmallTypes.ownedTupleIsFree;refine g9 (td hz rfl (x:=.none) rfl (gc ?_));simp only [ny];refine g9 (g01 (g9 (td hz rfl (x:=.ref to) rfl (g9 (um hz (by simp) fun g1 hz1 u1=>?_)))));have hz1':IsZip g1 z ti to .ellipsis:=hz1;refine g9 ?_;simp only [g4u,List.zipIdx_nil,g1o,g2r];refine g9 (g9 (g49 ?_));show wpAny _ _ (Builtin.SmallTypes.nextOf (.ref i1) >>= _) _ _ _;cases hx:xs[k1]? with
 | none=>
  refine g9 (q9k hh (h1.ext u1.extBut D.a3) (o1.ext u1.extBut m1.z) hx fun g2 e u2 he=>?_);obtain⟨oe,y1,y2⟩:=he;have hz2:IsZip g2 z ti to .ellipsis:=u2 _ _ D.a3.symm hz1';have ne:e≠z:=fun x=>by subst x;rw [hz2] at y1;cases y1;simp at y2
  exact um hz2 (by simp) fun g3 _ u3=>hE g3 e (fun c o c1 _ c3 _ x=>u3.extBut _ _ c1 (u2 _ _ c3 (u1.extBut _ _ c1 x))) ⟨oe,u3.extBut _ _ ne y1,y2⟩
 | some x=>
  have hy:ys[k2]? = none:=by rcases hend with h|h;rw [hx] at h;cases h;exact h
  refine g9 (q6m (h1.ext u1.extBut D.a3) (o1.ext u1.extBut m1.z) hx fun g2 n1 u2=>gc ?_);have hp2:IsPair g2 to p q:=u2.extBut _ _ D.a8 (u1.extBut _ _ D.a2 hp);refine g9 (g0u hp2 rfl (g9 (g3f hp2 fun g3 hp3 u3=>?_)));refine g9 (g3w (gc (g9 (g9 (g49 ?_)))));show wpAny _ _ (Builtin.SmallTypes.nextOf (.ref i2) >>= _) _ _ _;refine g9 (q9k hh (((h2.ext u1.extBut D.a4).ext u2.extBut D.a10.symm).ext u3.extBut D.a9.symm) (((o2.ext u1.extBut m2.z).ext u2.extBut m2.i).ext u3.extBut m2.o) hy fun g4 e u4 he=>?_);obtain⟨oe,y1,y2⟩:=he;have hz4:IsZip g4 z ti to .ellipsis:=u4 _ _ D.a4.symm (u3.extBut _ _ D.a2.symm (u2.extBut _ _ D.a3.symm hz1'));have ne:e≠z:=fun x=>by subst x;rw [hz4] at y1;cases y1;simp at y2
  exact um hz4 (by simp) fun g5 _ u5=>hE g5 e (fun c o c1 c2 c3 c4 x=>u5.extBut _ _ c1 (u4 _ _ c4 (u3.extBut _ _ c2 (u2.extBut _ _ c3 (u1.extBut _ _ c1 x))))) ⟨oe,u5.extBut _ _ ne y1,y2⟩
theorem qgn{b1 b2:Bool}{z ti to i1 i2 l1 l2:Addr}{k1 k2:Nat}{xs ys:Array Value}{x y p q:Value}{Q:Option Value->Shared->Prop}(D:Z5 z ti to i1 i2)(m1:Off l1 z to i1 i2)(m2:Off l2 z to i1 i2)
  (hz:IsZip s.heap z ti to .none) (ht:IsPair s.heap ti (.ref i1) (.ref i2)) (hp:IsPair s.heap to p q)
  (h1:SI b1 s.heap i1 l1 k1) (h2:SI b2 s.heap i2 l2 k2) (o1:SO b1 s.heap l1 xs) (o2:SO b2 s.heap l2 ys) (hx:xs[k1]? = some x) (hy:ys[k2]? = some y)
  (hQ:∀h',IsZip h' z ti to (rawInt s.heap.objs.size)->IsPair h' to x y->SI b1 h' i1 l1 (k1+1)->SI b2 h' i2 l2 (k2+1)->IsPair h' s.heap.objs.size x y->h'.objs.size=s.heap.objs.size+1 ->
   (∀c o,c≠z->c≠to->c≠i1->c≠i2->s.heap.get? c=some o->h'.get? c=some o)->Q (some (.ref s.heap.objs.size)) {s with heap:=h'}) :
  wpAny (model prog w) A (pyNext (.ref z)) Q E s:=by
 have ty:s.TypeIs (.ref z) "zip" :=⟨_,hz,rfl⟩
 unfold pyNext;exact g9 (g0t (tq (name:=Str.ofString "__next__") ty g3g (pz g3g ty F.entry_zip_next
  (qit D m1 m2 hz ht hp h1 h2 o1 o2 hx hy fun h' c1 c2 c3 c4 c5 c6 c7=>gc (hQ h' c1 c2 c3 c4 c5 c6 c7)) (F.args_zip_next_1 _))))
theorem qba{b1 b2:Bool}{z ti to i1 i2 l1 l2:Addr}{k1 k2:Nat}{xs ys:Array Value}{p q:Value}{Q:Option Value->Shared->Prop}(hh:A.handled=none)(D:Z5 z ti to i1 i2)(m1:Off l1 z to i1 i2)(m2:Off l2 z to i1 i2)
  (hz:IsZip s.heap z ti to .none) (ht:IsPair s.heap ti (.ref i1) (.ref i2)) (hp:IsPair s.heap to p q)
  (h1:SI b1 s.heap i1 l1 k1) (h2:SI b2 s.heap i2 l2 k2) (o1:SO b1 s.heap l1 xs) (o2:SO b2 s.heap l2 ys) (hend:xs[k1]? = none\/ys[k2]? = none)
  (hQ:∀h',(∀c o,c≠z->c≠to->c≠i1->c≠i2->s.heap.get? c=some o->h'.get? c=some o)->Q none {s with heap:=h'}):wpAny (model prog w) A (pyNext (.ref z)) Q E s:=by
 have ty:s.TypeIs (.ref z) "zip" :=⟨_,hz,rfl⟩
 unfold pyNext;refine g9 (g0t (tq (name:=Str.ofString "__next__") ty g3g (pz g3g ty F.entry_zip_next
  (qlf hh D m1 m2 hz ht hp h1 h2 o1 o2 hend fun h' e hk he=>?_) (F.args_zip_next_1 _))))
 obtain⟨o,y1,y2⟩:=he;exact g9 (g1i (T:="StopIteration") (b:=true) ⟨o,y1,y2⟩ isSubtype_stop (gc (hQ _ hk)))
theorem q1o{b:Bool}{l:Addr}{xs:Array Value}{Q:Value->Shared->Prop}(h:SO b s.heap l xs)(q:Q (.ref s.heap.objs.size) {s with heap:=s.heap.push {cls:=.type (itN b),data:=.fields #[.ref l,.int 0 0]} }):
  wpAny (model prog w) A (pyIter (.ref l)) Q E s:=by
 cases b with
 | true=>exact g2z h q
 | false=>exact g40 h q
end
def zh1(b1:Bool)(h:Heap)(l1:Addr): Heap:=h.push {cls:=.type (itN b1),data:=.fields #[.ref l1,.int 0 0]}
def zh2(b1 b2:Bool)(h:Heap)(l1 l2:Addr): Heap:=(zh1 b1 h l1).push {cls:=.type (itN b2),data:=.fields #[.ref l2,.int 0 0]}
def zh3(b1 b2:Bool)(h:Heap)(l1 l2:Addr): Heap:=(zh2 b1 b2 h l1 l2).push {cls:=.type "tuple",data:=.seq #[.ref h.objs.size,.ref (zh1 b1 h l1).objs.size]}
def zh4(b1 b2:Bool)(h:Heap)(l1 l2:Addr): Heap:=(zh3 b1 b2 h l1 l2).push {cls:=.type "tuple",data:=.seq #[.none,.none]}
def zh5(b1 b2:Bool)(h:Heap)(l1 l2:Addr): Heap:=(zh4 b1 b2 h l1 l2).push {cls:=.type "zip",data:=.fields #[.none,.bool false,.bool false,.ref (zh2 b1 b2 h l1 l2).objs.size,.ref (zh3 b1 b2 h l1 l2).objs.size]}
theorem SO.push{b:Bool}{h:Heap}{l:Addr}{xs:Array Value}(x:SO b h l xs)(o:Obj): SO b (h.push o) l xs:=let⟨u,e,r⟩:=x; ⟨u,gf _ e,r⟩
theorem qgo(b1 b2:Bool)(l1 l2:Addr)(xs ys:Array Value):
  Meets (Builtin.«zip.__new__» ⟨[.type "zip",.ref l1,.ref l2],[]⟩) (fun _ R s=>SO b1 s.heap l1 xs/\SO b2 s.heap l2 ys/\R (.ok (.ret (.ref (zh4 b1 b2 s.heap l1 l2).objs.size))) {s with heap:=zh5 b1 b2 s.heap l1 l2}):=
 .of_wp fun prog w A R s h=>by
  obtain⟨hp,gg,dd,tk,os⟩:=s;obtain⟨ha,hb,h⟩:=h;have hsub:=sub_zip;have f1:SO b1 (Shared.heap ⟨hp,gg,dd,tk,os⟩) l1 xs:=ha;have f2:SO b2 (Shared.heap ⟨hp.push {cls:=.type (itN b1),data:=.fields #[.ref l1,.int 0 0]},gg,dd,tk,os⟩) l2 ys:=SO.push hb _
  wp_walk using q1o f1,q1o f2
  exact⟨_,rfl,h⟩
section
variable{X:Cx}{pins:List (Addr×Obj)}{σ : St}{H:Hp}{s:Shared}{h':Heap}
theorem q6n{fp:List Addr}{t':Nat}(I:Inv X pins σ H s)(hf:∀b∈fp,yf X pins H b)(k:∀b o,b∉fp->s.heap.get? b=some o->h'.get? b=some o): Inv X pins σ H {s with heap:=h',toks:=t'}:=by
 have nin:∀b u,H b=some u->b∉fp:=fun b u e hb=>by rw [(hf b hb).1] at e;cases e
 refine I.step (g':=s.gens) (d':=s.drawn) (ch:=fp) (fun b hb=>?_) (fun b o _ _ hc e _=>k b o hc e) (fun b o _ _ hc e _=>⟨o.slots,k b o hc e⟩) (fun _ _ _ _ n=>n)
  (fun b o hc e=>⟨o,k b o hc e⟩) (fun _ _ e=>e) (fun _ _ _ e=>e) (fun b ps e=>⟨#[],by rw [e];simp⟩) (fun m hm=>?_) (fun b u e=>?_) I.bare
 ·obtain⟨_,f1,_,f3,f4,f5⟩:=hf b hb
  exact⟨f3,f1,f4,f5⟩
 ·obtain⟨o,es,ep,ho,r⟩:=hm
  exact⟨o,es,ep,k _ o (fun z=>(hf _ z).2.1 rfl) ho,r⟩
 ·refine(I.hok b u e).stay (fun c v hc q=>k c v ?_ q) (fun _ q=>q) fun _ _ q=>q
  rcases hc with z|z
  ·rw [z];exact nin b u e
  ·exact nin c _ z
theorem adopt{p:Addr}{o:HO}(I:Inv X pins σ H s)(f:yf X pins H p)(new:ObjOk X.prog X.w (upd H p o) s.heap p o): Inv X pins σ (upd H p o) s:=by
 have hp:=f.1;obtain⟨_,f1,_,f3,f4,f5⟩:=f;have ne:∀ {b:Addr} {u:HO},H b=some u->upd H p o b=some u:=fun {b u} e=>by rw [qk (jc e hp)];exact e
 refine I.step (h':=s.heap) (g':=s.gens) (t':=s.toks) (d':=s.drawn) (ch:=[p]) (fun b hb=>?_) (fun b o _ _ hc e _=>e) (fun b o _ _ hc e _=>⟨o.slots,e⟩) (fun b o hc e n=>?_)
  (fun b o hc e=>⟨o,e⟩) (fun _ _ e=>ne e) (fun _ _ _ e=>ne e) (fun b ps e=>⟨#[],by rw [ne e];simp⟩) (fun m hm=>hm) (fun b u e=>?_) I.bare
 ·obtain rfl:b=p:=by simpa using hb
  exact⟨f3,f1,f4,f5⟩
 ·rw [qk (fun z=>hc (by simp [z]))];exact n
 ·by_cases hb:b=p
  ·subst hb;rw [qt] at e;cases e;exact new
  ·rw [qk hb] at e
   exact(I.hok b u e).stay (fun c v _ q=>q) (fun c q=>ne q) fun c xs q=>ne q
def Sq:Bool->Frag->Hp->Addr->List V->Prop
 | true=>SqL
 | false=>SqT
theorem q29{b:Bool}{a:Addr}{xs:List V}(I:Inv X pins σ H s)(h:Sq b X.K H a xs): ∃its:List Value,Vals xs its/\SO b s.heap a its.toArray:=by
 cases b with
 | true=>obtain⟨its,r,⟨o,n,e,c,_,d⟩,_⟩:=I.list h;exact⟨its,r,o,e,c,n,d⟩
 | false=>obtain⟨its,r,⟨o,e,c,n,d⟩,_⟩:=I.tuple h;exact⟨its,r,o,e,c,n,d⟩
theorem qcm{b:Bool}{a:Addr}{xs ys:List V}(I:Inv X pins σ H s)(h:Sq b X.K H a xs)(h':Sq b X.K H a ys): xs=ys:=by
 cases b with
 | true=>exact I.list_inj h h'
 | false=>exact I.tuple_inj h h'
theorem vm{b:Bool}{K:Frag}{F H:Hp}{a:Addr}{xs:List V}(e:Same F H)(h:Sq b K F a xs): Sq b K H a xs:=by
 cases b with
 | true=>exact e.seq h
 | false=>exact ql e h
theorem q1p{b:Bool}{a c:Addr}{xs:List V}(I:Inv X pins σ H s)(h:Sq b X.K H a xs)(f:yf X pins H c): a≠c:=by
 obtain⟨f0,f1,f2,f3,_⟩:=f;have inK:∀ {o:Obj},X.K.lookup a=some o->a≠c:=fun {o} hk z=>by
  subst z;have hb:X.base.get? a=some o:=I.mod.kin a o hk;rcases f3 with q|q
  ·exact I.ok.noex a o hb q
  ·exact absurd (m8 (gz hb) (mx I.ok.bsz q)) (g0e _)
 have trk:∀ {u:HO},H a=some u->a≠c:=fun {u} e z=>by subst z;rw [f0] at e;cases e
 cases b with
 | true=>
  rcases h with(h|⟨o,h⟩)|⟨o,its,n,hk,_⟩
  ·exact trk h
  ·exact trk h
  ·exact inK hk
 | false=>
  rcases h with(h|⟨o,h⟩)|⟨o,its,n,hk,_⟩
  ·exact trk h
  ·exact trk h
  ·exact inK hk
end
def Itz(K:Frag)(b1:Bool)(a1:Addr)(b2:Bool)(a2:Addr): It:=
 ⟨fun i H=>∃xs ys x y,Sq b1 K H a1 xs/\Sq b2 K H a2 ys/\xs[i]? = some x/\ys[i]? = some y,
  fun i H v H'=>∃p x y,H p=none/\(∀xs,Sq b1 K H a1 xs->xs[i]? = some x)/\(∀ys,Sq b2 K H a2 ys->ys[i]? = some y)/\v=.ref p/\H'=upd H p (.tup [x,y]),
  fun i H=>∃xs ys,Sq b1 K H a1 xs/\Sq b2 K H a2 ys/\(xs.length<=i\/ys.length<=i)⟩
theorem qlg{P:Program}{w:World}{K:Frag}{elts:List Expr}{x1}{tp:Pos}{b1 b2:Bool}{a1 a2 z ti to i1 i2:Addr}(D:Z5 z ti to i1 i2):
  Turn P w K (.Tuple elts x1 tp) (Itz K b1 a1 b2 a2) [z,ti,to,i1,i2] z
   (fun i h=>IsZip h z ti to .none/\IsPair h ti (.ref i1) (.ref i2)/\(∃p q,IsPair h to p q)/\SI b1 h i1 a1 i/\SI b2 h i2 a2 i) where
 mem:=by simp
 obj:=fun i h ⟨c1,c2,⟨p,q,c3⟩,⟨o4,c4,_,d4⟩,⟨o5,c5,_,d5⟩⟩ b hb=>by
  simp only [m6,t7,g0x] at hb;rcases hb with rfl|rfl|rfl|rfl|rfl
  ·exact⟨_,c1,fun v z=>by cases z⟩
  ·exact⟨_,c2,fun v z=>by cases z⟩
  ·exact⟨_,c3,fun v z=>by cases z⟩
  ·exact⟨_,c4,fun v z=>by rw [d4] at z;cases z⟩
  ·exact⟨_,c5,fun v z=>by rw [d5] at z;cases z⟩
 keep:=fun i h h' ⟨c1,c2,⟨p,q,c3⟩,c4,c5⟩ k=>⟨k _ (by simp) _ c1,k _ (by simp) _ c2,⟨p,q,k _ (by simp) _ c3⟩,c4.keep fun o e=>k _ (by simp) o e,c5.keep fun o e=>k _ (by simp) o e⟩
 item:=by
  intro X hP hw hK hc i pins s σ H E I hf st hg;subst hP hw hK;obtain⟨xs,ys,x,y,q1,q2,hx,hy⟩:=hg;obtain⟨its1,v1,o1⟩:=q29 I q1;obtain⟨its2,v2,o2⟩:=q29 I q2;obtain⟨u1,hu1,ru1⟩:=v1.get hx;obtain⟨u2,hu2,ru2⟩:=v2.get hy;obtain⟨c1,c2,⟨p,q,c3⟩,c4,c5⟩:=st;have off:∀ {b:Bool} {a:Addr} {ws:List V},Sq b X.K H a ws->Off a z to i1 i2:=fun h=>⟨q1p I h (hf _ (by simp)),q1p I h (hf _ (by simp)),q1p I h (hf _ (by simp)),q1p I h (hf _ (by simp))⟩
  refine qgn D (off q1) (off q2) c1 c2 c3 c4 c5 o1 o2 (x:=u1) (y:=u2) (by simpa using hu1) (by simpa using hu2) fun g n1 n2 n3 n4 n5 n6 n7=>?_;refine⟨_,rfl,wpAny_letOwnedTupleGo_zip n1 fun g2 m1 sb=>?_⟩;have hsz:z<s.heap.objs.size:=gz c1;have kp:∀c o,c∉[z,ti,to,i1,i2]->s.heap.get? c=some o->g2.get? c=some o:=fun c o hc e=>by
   simp only [m6,t7,g0x,g42] at hc;exact sb.extBut _ _ hc.1 (n7 c o hc.1 hc.2.2.1 hc.2.2.2.1 hc.2.2.2.2 e)
  have I1:Inv X pins σ H {s with heap:=g2}:=q6n (t':=s.toks) I hf kp;have fp:yf X pins H s.heap.objs.size:=I.fpOk (gv _) I.fresh;have hT:IsPair g2 s.heap.objs.size u1 u2:=sb.extBut _ _ (tu hsz) n5;have I2:Inv X pins σ (upd H s.heap.objs.size (.tup [x,y])) {s with heap:=g2}:=
   adopt I1 fp ⟨by show 2<=sizeLine;decide,[u1,u2],.cons ru1 (.cons ru2 .nil),⟨_,hT,rfl,_,rfl⟩⟩
  refine⟨.ref s.heap.objs.size,_,I2,rfl,⟨_,x,y,I.fresh,fun ws h=>?_,fun ws h=>?_,rfl,rfl⟩,⟨m1,?_,⟨u1,u2,sb.extBut _ _ D.a2 n2⟩,n3.ext sb.extBut D.a3,n4.ext sb.extBut D.a4⟩,fun b hb=>?_⟩
  ·rw [qcm I h q1];exact hx
  ·rw [qcm I h q2];exact hy
  ·exact sb.extBut _ _ D.a1 (n7 _ _ D.a1 D.a5 D.a6 D.a7 c2)
  ·have hb0:=(hf b hb).1
   have:b≠s.heap.objs.size:=by
    simp only [m6,t7,g0x] at hb;rcases hb with rfl|rfl|rfl|rfl|rfl
    ·exact md hsz
    ·exact md (gz c2)
    ·exact md (gz c3)
    ·obtain⟨_,e,_⟩:=c4;exact md (gz e)
    ·obtain⟨_,e,_⟩:=c5;exact md (gz e)
   rw [qk this];exact hb0
 done:=by
  intro X hP hw hK hc i pins s σ H E I hf st hg;subst hP hw hK;obtain⟨xs,ys,q1,q2,hend⟩:=hg;obtain⟨its1,v1,o1⟩:=q29 I q1;obtain⟨its2,v2,o2⟩:=q29 I q2;obtain⟨c1,c2,⟨p,q,c3⟩,c4,c5⟩:=st;have off:∀ {b:Bool} {a:Addr} {ws:List V},Sq b X.K H a ws->Off a z to i1 i2:=fun h=>⟨q1p I h (hf _ (by simp)),q1p I h (hf _ (by simp)),q1p I h (hf _ (by simp)),q1p I h (hf _ (by simp))⟩
  refine qba (I.ok.hd hc) D (off q1) (off q2) c1 c2 c3 c4 c5 o1 o2 ?_ fun g n7=>⟨rfl,q6n (t':=s.toks) I hf fun c o hc e=>?_⟩
  ·have l1:=v1.length
   have l2:=v2.length;rcases hend with h|h
   ·exact .inl (by simp;lia)
   ·exact .inr (by simp;lia)
  ·simp only [m6,t7,g0x,g42] at hc
   exact n7 c o hc.1 hc.2.2.1 hc.2.2.2.1 hc.2.2.2.2 e
 self:=fun A i s Q E st h=>wpAny_pyIter_zip st.1 h
def q01(xs ys:List D): List D:=List.zipWith (fun a b=>.tup [a,b]) xs ys
theorem qoi{K:Frag}{F:Hp}{b1 b2:Bool}{a1 a2:Addr}{xs ys:List V}{ds es:List D}(h1:Sq b1 K F a1 xs)(h2:Sq b2 K F a2 ys)(r1:RepL K F ds xs)(r2:RepL K F es ys): ItD K F (q01 ds es) (Itz K b1 a1 b2 a2) where
 go:=fun i F' H s1 s2 hi=>by
  have hi':i<ds.length/\i<es.length:=by unfold q01 at hi;rw [g3q] at hi;lia
  exact⟨xs,ys,xs[i]'(by rw [<- r1.length];exact hi'.1),ys[i]'(by rw [<- r2.length];exact hi'.2),vm (s1.trans s2) h1,vm (s1.trans s2) h2,by simp,by simp⟩
 yld:=fun i d F' H x H' s1 s2 hi ⟨p,x1,y1,hp,q1,q2,e1,e2⟩=>by
  subst e1 e2;unfold q01 at hi;rw [g5h] at hi;cases z1:ds[i]? with
  | none=>rw [z1] at hi;cases hi
  | some d1=>
   cases z2:es[i]? with
   | none=>rw [z1,z2] at hi;cases hi
   | some d2=>
    rw [z1,z2] at hi;cases hi;obtain⟨v1,k1,k2⟩:=r1.get z1;obtain⟨v2,k3,k4⟩:=r2.get z2;have w1:=q1 xs (vm (s1.trans s2) h1);have w2:=q2 ys (vm (s1.trans s2) h2);rw [k1] at w1;cases w1;rw [k3] at w2;cases w2;have gn:Grow F' H (upd F' p (.tup [x1,y1])) (upd H p (.tup [x1,y1])):=Grow.new s2 hp;exact⟨_,gn,rep_tup.mpr ⟨p,_,rfl,SqT.of qt,.cons ((k2.mono s1).mono gn.ff) (.cons ((k4.mono s1).mono gn.ff) .nil)⟩⟩
 stop:=fun i F' H s1 s2 hi=>by
  unfold q01 at hi;rw [g3q] at hi;refine⟨xs,ys,vm (s1.trans s2) h1,vm (s1.trans s2) h2,?_⟩;rw [<- r1.length, <- r2.length];lia
section
variable{X:Cx}{pos:Pos}{elts:List Expr}{x1:Nat}{tp:Pos}
def qur(K:Frag)(ta:TA): TI:=fun σ H R=>ta σ H fun vs H1=>∃b1 a1 xs b2 a2 ys,vs=[.ref a1,.ref a2]/\Sq b1 K H1 a1 xs/\Sq b2 K H1 a2 ys/\R (Itz K b1 a1 b2 a2) H1
theorem qiu:bootBuiltins "zip" = some (.type "zip"):=by decide +kernel
theorem qrm{a b:Expr}{ta:TA}{p:Pos}(hg:Gl X "zip")(hm:X.mg "zip" = none)(ha:PA X [a,b] ta)(hs:starEach [a,b] X.env=[(false,eval a X.env),(false,eval b X.env)]:=by rfl)(hs2:starEach [b] X.env=[(false,eval b X.env)]:=by rfl):
  PI X (.Tuple elts x1 tp) (.Call (.Name "zip" p) [a,b] [] pos) (qur X.K ta):=by
 intro pins s σ H R I h;refine Call_ (q1i I hg hm qiu (g0p (thn (ha pos pins s σ H _ I h) fun us s1 ⟨vs,H1,I1,r1,q1⟩=>?_) (by rw [hs,hs2]) (by rw [hs2];rfl)));obtain⟨b1,a1,xs,b2,a2,ys,rfl,k1,k2,q⟩:=q1;obtain⟨u1,u2,rfl,e1,e2⟩:=r1.two;cases e1;cases e2;obtain⟨its1,v1,o1⟩:=q29 I1 k1;obtain⟨its2,v2,o2⟩:=q29 I1 k2;refine callType_new F.called_zip (by decide) (F.typeCall_zip_2 _ _) (F.newCall_zip_2 _ _) (fun obj=>F.args_object_init_3 obj _ _) F.entry_zip_new (qgo b1 b2 a1 a2 its1.toArray its2.toArray) ⟨o1,o2,?_⟩;have z1:(zh1 b1 s1.heap a1).objs.size=s1.heap.objs.size+1:=pd ..;have z2:(zh2 b1 b2 s1.heap a1 a2).objs.size=s1.heap.objs.size+2:=by unfold zh2;rw [pd,z1]
 have z3:(zh3 b1 b2 s1.heap a1 a2).objs.size=s1.heap.objs.size+3:=by unfold zh3;rw [pd,z2]
 have z4:(zh4 b1 b2 s1.heap a1 a2).objs.size=s1.heap.objs.size+4:=by unfold zh4;rw [pd,z3]
 have g5:(zh5 b1 b2 s1.heap a1 a2).get? (zh4 b1 b2 s1.heap a1 a2).objs.size=some {cls:=.type "zip",data:=.fields #[.none,.bool false,.bool false,.ref (zh2 b1 b2 s1.heap a1 a2).objs.size,.ref (zh3 b1 b2 s1.heap a1 a2).objs.size]}:=m4 _ rfl;have g4:(zh5 b1 b2 s1.heap a1 a2).get? (zh3 b1 b2 s1.heap a1 a2).objs.size=some {cls:=.type "tuple",data:=.seq #[.none,.none]}:=gf _ (m4 _ rfl);have g3:(zh5 b1 b2 s1.heap a1 a2).get? (zh2 b1 b2 s1.heap a1 a2).objs.size=some {cls:=.type "tuple",data:=.seq #[.ref s1.heap.objs.size,.ref (zh1 b1 s1.heap a1).objs.size]}:=gf _ (gf _ (m4 _ rfl));have g2:(zh5 b1 b2 s1.heap a1 a2).get? (zh1 b1 s1.heap a1).objs.size=some {cls:=.type (itN b2),data:=.fields #[.ref a2,.int 0 0]}:=gf _ (gf _ (gf _ (m4 _ rfl)));have g1:(zh5 b1 b2 s1.heap a1 a2).get? s1.heap.objs.size=some {cls:=.type (itN b1),data:=.fields #[.ref a1,.int 0 0]}:=gf _ (gf _ (gf _ (gf _ (m4 _ rfl))));have kp:∀c o,s1.heap.get? c=some o->(zh5 b1 b2 s1.heap a1 a2).get? c=some o:=fun c o e=>gf _ (gf _ (gf _ (gf _ (gf _ e))));have I2:Inv X pins σ H1 {s1 with heap:=zh5 b1 b2 s1.heap a1 a2}:=I1.kept (t':=s1.toks) kp;refine⟨⟨_,g5,rfl⟩,wpAny_pyIter_zip g5 ?_⟩;refine⟨_,_,_,_,H1,rfl,I2,qlg (b1:=b1) (b2:=b2) (a1:=a1) (a2:=a2) (i1:=s1.heap.objs.size) (i2:=(zh1 b1 s1.heap a1).objs.size) ?_,⟨g5,g3,⟨_,_,g4⟩,⟨_,g1,rfl,rfl⟩,⟨_,g2,rfl,rfl⟩⟩,fun c hc=>?_,q⟩
 ·constructor <;> (first|exact md (by lia)|exact tu (by lia))
 ·have hge:s1.heap.objs.size<=c:=by
   simp only [m6,t7,g0x] at hc;rcases hc with rfl|rfl|rfl|rfl|rfl <;> lia
  exact I1.fpOk hge (I1.hok.fresh hge)
def qlh(fa:FA): FA:=fun ρ =>(fa ρ).bind fun ds=>match ds with
 | [x,y]=>(q5m x).bind fun xs=>(q5m y).map fun ys=>q01 xs ys
 | _=>none
theorem q9l{K:Frag}{F:Hp}{d:D}{ds:List D}{v:V}(h:q5m d=some ds)(r:Rep K F d v): ∃b a xs,v=.ref a/\Sq b K F a xs/\RepL K F ds xs:=by
 cases d <;> simp only [q5m] at h <;> first|(cases h;done)|skip
 ·cases h
  obtain⟨a,xs,rfl,h3,h4⟩:=rep_tup.mp r;exact⟨false,a,xs,rfl,h3,h4⟩
 ·cases h
  obtain⟨a,xs,rfl,h3,h4⟩:=rep_lst.mp r;exact⟨true,a,xs,rfl,h3,h4⟩
theorem qrn{a b:Expr}{fa:FA}{p:Pos}(hg:Gl X "zip")(hm:X.mg "zip" = none)(ha:PA X [a,b] (tDA X.K fa))(hs:starEach [a,b] X.env=[(false,eval a X.env),(false,eval b X.env)]:=by rfl)(hs2:starEach [b] X.env=[(false,eval b X.env)]:=by rfl):
  PI X (.Tuple elts x1 tp) (.Call (.Name "zip" p) [a,b] [] pos) (tDI X.K (qlh fa)):=q5l (qrm hg hm ha hs hs2) fun σ H R ⟨F0,H0,F, ρ,ds,r,hf,q⟩=>by
 obtain⟨es,h1,h2⟩:=gh.mp hf;refine⟨F0,H0,F, ρ,es,r,h1,fun vs F' H' g' r'=>?_⟩
 split at h2
 ·rename_i x y
  obtain⟨xs,k1,h2⟩:=gh.mp h2;obtain⟨ys,k2,h2⟩:=ml.mp h2;subst h2;obtain⟨v1,t,rfl,e1,e2⟩:=r'.cons_inv;obtain⟨v2,t2,rfl,e3,e4⟩:=e2.cons_inv;cases e4.nil_inv;obtain⟨b1,a1,us,rfl,s1,l1⟩:=q9l k1 e1;obtain⟨b2,a2,ws,rfl,s2,l2⟩:=q9l k2 e3;exact⟨b1,a1,us,b2,a2,ws,rfl,vm g'.fh s1,vm g'.fh s2,q _ F' H' g' (qoi s1 s2 l1 l2)⟩
 ·cases h2
end
section
variable{X:Cx}{e:Expr}{es:List Expr}{kws:List Keyword}{pos:Pos}{f g:FE}{fa fk:FA}
def qus(n m:Nat)(fa fk:FA): FA:=fun ρ =>(fa ρ).bind fun ds=>(fk ρ).bind fun es=>if ds.length=n/\es.length=m then some (ds++es) else none
def qto(ar:Nat)(op:List D->Option D): List D->Option D:=fun ds=>if ds.length=ar then op ds else none
end
structure Cal(P:Program)(w:World)(K:Frag)(mg:Str->Option Value)(base:Heap)(x:Str)(k:Nat)(ps:List Str)(ar:Nat)(op:List D->Option D)(fn:Addr)(fd:FuncData): Prop where
 ok:FnOk P w K mg base CX0 k fn fd ps (spD K ar op)
 mg:mg x=some (.ref fn)
 kp:PySem.W.keepIn K (.ref fn)=true
section
variable{X:Cx}{e:Expr}{es:List Expr}{kws:List Keyword}{pos p:Pos}{fa fk:FA}{k ar k':Nat}{fn:Addr}{fd:FuncData}{ps ks:List Str}{op:List D->Option D}{x:Str}
theorem qq(C:Cal X.prog X.w X.K X.mg X.base x k ps ar op fn fd)(b:Binds X.K fd ps [])(hr:Room k' X.A)(hk:k<=k')(hg:Gl X x)(ha:PA X (e :: es) (tDA X.K fa))(hdb:(x==("__debug__" : Str))=false:=by decide)
  (he:starEach (e :: es) X.env=(false,eval e X.env) :: starEach es X.env:=by rfl) (hpl:(backTo pos (starEach es X.env)).any (·.1)=false:=by rfl):PE X (.Call (.Name x p) (e :: es) [] pos) (tD X.K (qf (qo ar [] op) fa)):=
 qoe C.ok (hr.mono hk) hg C.mg C.kp b .nil (fun H=>.nil) ha hdb he hpl
def q9m:D->Option D
 | .int i=>some (.int (-i))
 | _=>none
theorem qro{f:FE}(ha:PE X e (tD X.K f)): PE X (.UnaryOp .USub e pos) (tD X.K (eUn q9m f)):=by
 intro pins s σ H Q I h;obtain⟨F0,H0,F, ρ,d,r,hf,q⟩:=h;obtain⟨d',h1,h2⟩:=gh.mp hf;cases d' <;> simp only [q9m] at h2 <;> first|(cases h2;done)|skip
 cases h2;refine UnaryOp_ (thn (ha pins s σ H (fun v H'=>∃F',Grow F H F' H'/\Rep X.K F' (.int _) v) I ⟨F0,H0,F, ρ,_,r,h1,fun v F' H' g' r'=>⟨F',g',r'⟩⟩) fun v s1 ⟨x,H1,I1,r1,F',g',r'⟩=>?_);cases rep_int.mp r';obtain⟨t,rfl⟩:=r1;exact neg_int ⟨.int _,H1,I1.tok _,⟨_,rfl⟩,q _ F' H1 g' (rep_int.mpr rfl)⟩
end
structure Fun2(K:Frag)(x qual:Str)(st:Stmt)(dV:Value)(f:Addr)(fd:FuncData): Prop where
 ex:∃(oc:Value) (od:Option Addr) (kV doc pm:Value) (an:Option Addr) (cdv ct:Value) (osl:Array (Option Value)),
  fd=PySem.W.fnOf x qual (vj st) (qp st) (qc st) dV kV doc pm an cdv ct/\K.lookup f=some ⟨oc,od,.func fd,osl⟩/\PySem.W.codeIn K cdv qual=true
 kp:PySem.W.keepIn K (.ref f)=true
section
variable{P:Program}{w:World}{K:Frag}{mg:Str->Option Value}{base:Heap}{x qual:Str}{st:Stmt}{dV:Value}{f:Addr}{fd:FuncData}{N ps:List Str}
theorem Fun2.ok{k:Nat}{u:FS}(F:Fun2 K x qual st dV f fd)(S:FnScope N ps (qc st))
  (hb:∀(cdv:Value) (A:Around) (outer:List Env) (s:Shared) (H:Hp) (E:XK),Room k (A.deeper (envOfC qual (qc st) s.heap.objs.size f cdv))->PSs (zg CX0 P w K mg base N qual (qc st) f cdv A outer s H E).nox (qp st) (tDS K u)) :
  FnOk P w K mg base CX0 (k+1) f fd ps (spD K ps.length (z7 N.length u)):=by
 obtain⟨oc,od,kV,doc,pm,an,cdv,ct,osl,rfl,lk,hcd⟩:=F.ex;exact qnl lk hcd S fun A outer s H E hr=>hb cdv A outer s H E hr
theorem Fun2.okn{k n ar k1:Nat}{u:FS}(F:Fun2 K x qual st dV f fd)(S:FnScope N ps (qc st))(hn:N.length=n)(ha:ps.length=ar)(hk:k+1=k1)
  (hb:∀(cdv:Value) (A:Around) (outer:List Env) (s:Shared) (H:Hp) (E:XK),Room k (A.deeper (envOfC qual (qc st) s.heap.objs.size f cdv))->PSs (zg CX0 P w K mg base N qual (qc st) f cdv A outer s H E).nox (qp st) (tDS K u)) :
  FnOk P w K mg base CX0 k1 f fd ps (spD K ar (z7 n u)):=by
 subst hn ha hk;exact F.ok S hb
theorem q9n{oc:Value}{od an:Option Addr}{osl:Array (Option Value)}{kV doc pm cdv ct:Value}(l:K.lookup f=some ⟨oc,od,.func (PySem.W.fnOf x qual (vj st) (qp st) (qc st) dV kV doc pm an cdv ct),osl⟩)
  (c:PySem.W.codeIn K cdv qual=true) (k:PySem.W.keepIn K (.ref f)=true):Fun2 K x qual st dV f (PySem.W.fnOf x qual (vj st) (qp st) (qc st) dV kV doc pm an cdv ct):=⟨⟨oc,od,kV,doc,pm,an,cdv,ct,osl,rfl,l,c⟩,k⟩
theorem Fun2.bindsTo(F:Fun2 K x qual st dV f fd){P:FuncData->Prop}(h:∀(kV doc pm:Value) (an:Option Addr) (cdv ct:Value),P (PySem.W.fnOf x qual (vj st) (qp st) (qc st) dV kV doc pm an cdv ct)): P fd:=by
 obtain⟨oc,od,kV,doc,pm,an,cdv,ct,osl,rfl,lk,hcd⟩:=F.ex;exact h kV doc pm an cdv ct
end
def qbm(K:Frag): Sp:=fun vs H Q _=>∃(a:Addr) (ns:List Int) (F:Hp),vs=[.ref a]/\SameT F H/\SqL K F a (ns.map V.int)/\ns.length<=63/\∀H',Q (.bl true) H'
theorem qrp{P:Program}{w:World}{K:Frag}{mg:Str->Option Value}{base:Heap}{k:Nat}{f:Addr}{fd:FuncData}{x:Str}{op:List D->Option D}(F:FnOk P w K mg base CX0 k f fd [x] (spD K 1 op))(h:∀ns:List Int,ns.length<=63->op [.lst (ns.map .int)]=some (.bl true)):
  FnOk P w K mg base CX0 k f fd [x] (qbm K):=F.imp fun vs H Q E ⟨a,ns,Fz,e,fz,hS,hl,q⟩=>by
 subst e;exact⟨Fz,[.lst (ns.map .int)],.bl true,fz,.cons (rep_lst.mpr ⟨a,_,rfl,hS,RepL.ints.mpr rfl⟩) .nil,rfl,h ns hl,fun v F' H' g' r'=>by rw [rep_bl.mp r'];exact q H'⟩
section
variable{X:Cx}{pos:Pos}{f g:FE}{a b:Expr}
abbrev oLt':=oLt
theorem qrq:OpR X (compareOp .Lt) (rD X.K oLt'):=qte
end
section
variable{X:Cx}{pos:Pos}{f g k:FE}{a b c:Expr}
theorem qoj{pins:List (Addr×Obj)}{σ : St}{H:Hp}{s:Shared}(I:Inv X pins σ H s): sysModules<s.heap.objs.size:=
 Nat.lt_trans (by decide) (I.mod.glob.keeps I.bk).lt
def q8j(o1 o2:D->D->Option D)(a b c:FE): FE:=fun ρ =>(a ρ).bind fun x=>(b ρ).bind fun y=>(o1 x y).bind fun r=>(isB r).bind fun q=>if q then(c ρ).bind fun z=>o2 y z else some (.bl false)
theorem qok{o1 o2:D->D->Option D}{σ : St}{H:Hp}{Q:VK}(h:tD X.K (q8j o1 o2 f g k) σ H Q): qi1 (rD X.K o1) (rD X.K o2) (tD X.K f) (tD X.K g) (tD X.K k) σ H Q:=by
 obtain⟨F0,H0,F, ρ,d,r,hf,q⟩:=h;obtain⟨x,e1,hf1⟩:=gh.mp hf;obtain⟨y,e2,hf2⟩:=gh.mp hf1;obtain⟨z,e3,hf3⟩:=gh.mp hf2;obtain⟨kq,e4,hf4⟩:=gh.mp hf3;refine⟨F0,H0,F, ρ,x,r,e1,fun v F1 H1 g1 r1=>⟨F0,H0,F1, ρ,y,r.grow g1,e2,fun u F2 H2 g2 r2=>⟨F2,x,y,z,g2.fh,r1.mono g2.ff,r2,e3,fun w F3 H3 g3 r3=>?_⟩⟩⟩;have ez:=q4f e4;subst ez;refine⟨kq,rep_bl.mp r3,?_⟩;cases kq with
 | false=>
  rw [mj m9] at hf4 ⊢;cases hf4;exact q _ F3 H3 (g1.trans (g2.trans g3)) (rep_bl.mpr rfl)
 | true=>
  rw [mq rfl] at hf4 ⊢;obtain⟨zz,e5,e6⟩:=gh.mp hf4;exact⟨F0,H0,F3, ρ,zz,r.grow (g1.trans (g2.trans g3)),e5,fun w' F4 H4 g4 r4=>⟨F4,y,zz,d,g4.fh,(r2.mono g3.ff).mono g4.ff,r4,e6,fun w5 F5 H5 g5 r5=>q w5 F5 H5 ((g1.trans (g2.trans g3)).trans (g4.trans g5)) r5⟩⟩
theorem qli{op op':CmpOp}{o1 o2:D->D->Option D}(h1:OpR X (compareOp op) (rD X.K o1))(h2:OpR X (compareOp op') (rD X.K o2))(ha:PE X a (tD X.K f))(hb:PE X b (tD X.K g))(hc:PE X c (tD X.K k))
  (hm:lastMarks [op,op'] [b,c]=false:=by with_unfolding_all rfl):PE X (.Compare a [op,op'] [b,c] pos) (tD X.K (q8j o1 o2 f g k)):=
 zx (qkn h1 h2 ha hb hc hm) fun σ H Q h=>qok h
def q6o:D->D->Bool
 | .non,.non=>true
 | .bl a,.bl b=>a==b
 | _,_=>false
def oIs(neg:Bool): D->D->Option D
 | x,.non=>some (.bl (if neg then !q6o x .non else q6o x .non))
 | x,.bl b=>some (.bl (if neg then !q6o x (.bl b) else q6o x (.bl b)))
 | _,_=>none
theorem qtp{M:Model}{A:Around}{E:Value->Shared->Prop}{s:Shared}{Q:Value->Shared->Prop}{v:Value}{c:Bool}(hv:∀id,v ≠ .builtin id)(h:Q (.bool (v == .bool c)) s): wpAny M A (compareOp .Is v (.bool c)) Q E s:=by
 cases v <;> first|exact gc h|exact absurd rfl (hv _)
theorem qlj{M:Model}{A:Around}{E:Value->Shared->Prop}{s:Shared}{Q:Value->Shared->Prop}{v:Value}{c:Bool}(hv:∀id,v ≠ .builtin id)(h:Q (.bool (!(v == .bool c))) s): wpAny M A (compareOp .IsNot v (.bool c)) Q E s:=by
 cases v <;> first|exact gc h|exact absurd rfl (hv _)
theorem qiv{K:Frag}{F:Hp}{d:D}{x:V}{v:Value}(r:Rep K F d x)(rv:RelV x v): ∀id,v ≠ .builtin id:=by
 intro id;cases d with
 | non=>cases rep_non.mp r;cases rv;intro z;cases z
 | bl b=>cases rep_bl.mp r;cases rv;intro z;cases z
 | int i=>cases rep_int.mp r;obtain⟨t,rfl⟩:=rv;intro z;cases z
 | str i=>cases rep_str.mp r;obtain⟨t,rfl⟩:=rv;intro z;cases z
 | tup ds=>obtain⟨p,xs,rfl,_⟩:=rep_tup.mp r;cases rv;intro z;cases z
 | lst ds=>obtain⟨p,xs,rfl,_⟩:=rep_lst.mp r;cases rv;intro z;cases z
 | dct ks vs=>obtain⟨p,xs,rfl,_⟩:=rep_dct.mp r;cases rv;intro z;cases z
 | dtt ks vs=>obtain⟨p,xs,ys,ep,rfl,_⟩:=rep_dtt.mp r;cases rv;intro z;cases z
 | obj C=>obtain⟨p,dx,_,rfl,_⟩:=rep_obj.mp r;cases rv;intro z;cases z
 | exc C=>obtain⟨p,_,rfl,_⟩:=rep_exc.mp r;cases rv;intro z;cases z
theorem qcn{K:Frag}{F:Hp}{d:D}{x:V}{v:Value}(r:Rep K F d x)(rv:RelV x v): (v==Value.none)=q6o d .non:=by
 cases d with
 | non=>cases rep_non.mp r;cases rv;rfl
 | bl b=>cases rep_bl.mp r;cases rv;rfl
 | int i=>cases rep_int.mp r;obtain⟨t,rfl⟩:=rv;rfl
 | str i=>cases rep_str.mp r;obtain⟨t,rfl⟩:=rv;rfl
 | tup ds=>obtain⟨p,xs,rfl,_⟩:=rep_tup.mp r;cases rv;rfl
 | lst ds=>obtain⟨p,xs,rfl,_⟩:=rep_lst.mp r;cases rv;rfl
 | dct ks vs=>obtain⟨p,xs,rfl,_⟩:=rep_dct.mp r;cases rv;rfl
 | dtt ks vs=>obtain⟨p,xs,ys,ep,rfl,_⟩:=rep_dtt.mp r;cases rv;rfl
 | obj C=>obtain⟨p,dx,_,rfl,_⟩:=rep_obj.mp r;cases rv;rfl
 | exc C=>obtain⟨p,_,rfl,_⟩:=rep_exc.mp r;cases rv;rfl
theorem qfj{K:Frag}{F:Hp}{d:D}{x:V}{v:Value}{c:Bool}(r:Rep K F d x)(rv:RelV x v): (v==Value.bool c)=q6o d (.bl c):=by
 cases d with
 | non=>cases rep_non.mp r;cases rv;rfl
 | bl b=>cases rep_bl.mp r;cases rv;cases b <;> cases c <;> rfl
 | int i=>cases rep_int.mp r;obtain⟨t,rfl⟩:=rv;rfl
 | str i=>cases rep_str.mp r;obtain⟨t,rfl⟩:=rv;rfl
 | tup ds=>obtain⟨p,xs,rfl,_⟩:=rep_tup.mp r;cases rv;rfl
 | lst ds=>obtain⟨p,xs,rfl,_⟩:=rep_lst.mp r;cases rv;rfl
 | dct ks vs=>obtain⟨p,xs,rfl,_⟩:=rep_dct.mp r;cases rv;rfl
 | dtt ks vs=>obtain⟨p,xs,ys,ep,rfl,_⟩:=rep_dtt.mp r;cases rv;rfl
 | obj C=>obtain⟨p,dx,_,rfl,_⟩:=rep_obj.mp r;cases rv;rfl
 | exc C=>obtain⟨p,_,rfl,_⟩:=rep_exc.mp r;cases rv;rfl
theorem qtq(_hc:X.calm=true): OpR X (compareOp .Is) (rD X.K (oIs false)):=fun pins s σ H x y v u Q I rx ry ⟨F,d1,d2,d,q1,q2,q3,q4,q5⟩=>by
 cases d2 <;> simp only [oIs] at q4 <;> first|(cases q4;done)|skip
 ·cases rep_non.mp q3
  cases ry;refine is_none_gen ⟨.bl _,H,I,rfl,?_⟩;rw [qcn q2 rx];cases q4;exact q5 _ F H (.refl q1) (rep_bl.mpr rfl)
 ·cases rep_bl.mp q3
  cases ry;refine qtp (qiv q2 rx) ⟨.bl _,H,I,rfl,?_⟩;rw [qfj q2 rx];cases q4;exact q5 _ F H (.refl q1) (rep_bl.mpr rfl)
theorem qlk(_hc:X.calm=true): OpR X (compareOp .IsNot) (rD X.K (oIs true)):=fun pins s σ H x y v u Q I rx ry ⟨F,d1,d2,d,q1,q2,q3,q4,q5⟩=>by
 cases d2 <;> simp only [oIs] at q4 <;> first|(cases q4;done)|skip
 ·cases rep_non.mp q3
  cases ry;refine isnot_none_gen ⟨.bl _,H,I,rfl,?_⟩;rw [qcn q2 rx];cases q4;exact q5 _ F H (.refl q1) (rep_bl.mpr rfl)
 ·cases rep_bl.mp q3
  cases ry;refine qlj (qiv q2 rx) ⟨.bl _,H,I,rfl,?_⟩;rw [qfj q2 rx];cases q4;exact q5 _ F H (.refl q1) (rep_bl.mpr rfl)
end
theorem q9o:fillsNumberSlot (.type "tuple") "mul" = pure false:=
 PySem.fillsNumberSlot_seq (id:="tuple.__mul__") (r:=some (.builtin "tuple.__rmul__")) g26.lookup (by decide +kernel) F.slot_tuple_rmul.lookup (by decide +kernel)
theorem qgp:seqRepeat? (.type "tuple")=pure (some (.builtin "tuple.__mul__")):=by
 unfold seqRepeat?;rw [PySem.seqSlot_of (T:="tuple") (name:="__mul__") g26.lookup (by decide +kernel),PySem.seqSlot_of (T:="tuple") (name:="__rmul__") F.slot_tuple_rmul.lookup (by decide +kernel)]
 rfl
theorem qll(i:Int)(t:Tok)(l:Addr)(xs:Array Value)(n:Nat)(dd:Option Addr)(sl:Array (Option Value)):
  Meets (Builtin.«int.__rmul__» ⟨[.int i t,.ref l],[]⟩) (fun _ R s=>s.heap.get? l=some {cls:=.type "tuple",dict:=dd,data:=.seq xs n,slots:=sl}/\R (.ok (.ret Value.notImplemented)) s):=
 .of_wp fun prog w A R s h=>by
  obtain⟨hp,g,d,tk,os⟩:=s;obtain⟨hl,h⟩:=h
  wp_walk
  exact⟨_,rfl,h⟩
theorem qco(i:Int)(t:Tok)(l:Addr)(xs:Array Value)(n:Nat)(dd:Option Addr)(sl:Array (Option Value))(h0:¬(decide (i < -(2 ^ 63)) || decide (i>=2 ^ 63))=true)(h1:(xs.isEmpty || i==1)=true):
  Meets (Builtin.«tuple.__mul__» ⟨[.ref l,.int i t],[]⟩) (fun _ R s=>s.heap.get? l=some {cls:=.type "tuple",dict:=dd,data:=.seq xs n,slots:=sl}/\R (.ok (.ret (.ref l))) s):=
 .of_wp fun prog w A R s h=>by
  obtain⟨hp,g,d,tk,os⟩:=s;obtain⟨hl,h⟩:=h;have f1:=g4v;have f2:=g1j
  wp_walk using g07 hl
  refine g3h (pq h0) ?_
  wp_walk using g07 hl
  exact⟨_,rfl,h⟩
theorem qcp(i:Int)(t:Tok)(l:Addr)(xs:Array Value)(n:Nat)(dd:Option Addr)(sl:Array (Option Value))(h0:¬(decide (i < -(2 ^ 63)) || decide (i>=2 ^ 63))=true)(h1:¬(xs.isEmpty || i==1)=true)(h2:(decide (i<=0) || xs.isEmpty)=true):
  Meets (Builtin.«tuple.__mul__» ⟨[.ref l,.int i t],[]⟩) (fun _ R s=>s.heap.get? l=some {cls:=.type "tuple",dict:=dd,data:=.seq xs n,slots:=sl}/\R (.ok (.ret (.ref s.heap.objs.size))) {s with heap:=s.heap.push {cls:=.type "tuple",data:=.seq #[]} }):=
 .of_wp fun prog w A R s h=>by
  obtain⟨hp,g,d,tk,os⟩:=s;obtain⟨hl,h⟩:=h;have f1:=g4v;have f2:=g1j
  wp_walk using g07 hl
  refine g3h (pq h0) ?_
  wp_walk using g07 hl
  exact⟨_,rfl,h⟩
theorem qcq(i:Int)(t:Tok)(l:Addr)(xs:Array Value)(n:Nat)(dd:Option Addr)(sl:Array (Option Value))(h0:¬(decide (i < -(2 ^ 63)) || decide (i>=2 ^ 63))=true)(h1:¬(xs.isEmpty || i==1)=true)(h2:¬(decide (i<=0) || xs.isEmpty)=true)
  (h3:¬((xs.size:Int)*i>(2 ^ 63-1) / 8)) (h4:¬Builtin.Tuple.tupleTooMany ((xs.size:Int)*i)=true) (h5:((List.replicate i.toNat xs).foldl (· ++ ·) #[]).size<=sizeLine) :
  Meets (Builtin.«tuple.__mul__» ⟨[.ref l,.int i t],[]⟩) (fun _ R s=>s.heap.get? l=some {cls:=.type "tuple",dict:=dd,data:=.seq xs n,slots:=sl}/\R (.ok (.ret (.ref s.heap.objs.size))) {s with heap:=s.heap.push {cls:=.type "tuple",data:=.seq ((List.replicate i.toNat xs).foldl (· ++ ·) #[])} }):=
 .of_wp fun prog w A R s h=>by
  obtain⟨hp,g,d,tk,os⟩:=s;obtain⟨hl,h⟩:=h;have f1:=g4v;have f2:=g1j
  wp_walk using g07 hl
  refine g3h (pq h0) ?_
  wp_walk using g07 hl
  refine g3h (pq h3) ?_
  wp_walk using g07 hl
  exact⟨_,rfl,h⟩
theorem qcr(xs:Array Value): ∀(n:Nat) (acc:Array Value),((List.replicate n xs).foldl (· ++ ·) acc).toList=acc.toList++(List.replicate n xs.toList).flatten
 | 0,acc=>by simp
 | n+1,acc=>by
  rw [g12,g57,qcr xs n (acc++xs),g12,g1v,pf,mr]
theorem qaj(xs:List Value)(n:Nat): (List.replicate n xs.toArray).foldl (· ++ ·) #[]=(List.replicate n xs).flatten.toArray:=by
 apply Array.toList_inj.mp;rw [qcr];simp
section
variable{prog:Program}{w:World}{A:Around}{E:Value->Shared->Prop}{s:Shared}
theorem qol{t:Addr}{vs:List Value}{i:Int}{u:Tok}{Q:Value->Shared->Prop}(ht:IsTup s.heap t vs.toArray)(h0 : -(2 ^ 62)<i)(h1:i<2 ^ 62)(hz:vs.length*i.toNat<=1000000)
  (q1:(vs=[]\/i=1)->Q (.ref t) s) (q2:¬(vs=[]\/i=1)->Q (.ref s.heap.objs.size) {s with heap:=s.heap.push {cls:=.type "tuple",data:=.seq (List.replicate i.toNat vs).flatten.toArray} }) :
  wpAny (model prog w) A (binaryOp .Mult (.ref t) (.int i u)) Q E s:=by
 obtain⟨⟨cls,dd,data,sl⟩,ho,hc,n,hd⟩:=id ht;simp only at hc hd;subst hc hd;have ty:s.TypeIs (.ref t) "tuple" :=⟨_,ho,rfl⟩
 have b0:¬(decide (i < -(2 ^ 63)) || decide (i>=2 ^ 63))=true:=by
  simp only [g0r,u0,g42]
  constructor <;> lia
 refine wpAny_binaryOp_repeat_ref (T:="tuple") (U:="int") (by decide) ty (fun s'=>typeIs_int s' i u) q9o F.fills_int_mul F.slot_int_rmul qgp F.slot_int_index.lookup
  (g3d F.slot_int_rmul (typeIs_int s i u) F.entry_int_rmul (F.args_int_rmul_2 _ _) (qll i u t vs.toArray n dd sl) ⟨ho,rfl,ty,?_⟩)
 have em:vs.toArray.isEmpty=true↔vs=[]:=by simp
 by_cases c1:(vs.toArray.isEmpty || i==1)=true
 ·have c1':vs=[]\/i=1:=by simpa using c1
  exact g3d g26 ty g4f (g43 _ _) (qco i u t vs.toArray n dd sl b0 c1) ⟨ho,q1 c1'⟩
 ·have c1':¬(vs=[]\/i=1):=by simpa using c1
  have q:=q2 c1'
  by_cases c2:(decide (i<=0) || vs.toArray.isEmpty)=true
  ·have i0:i<=0:=by
    rcases g0r _ _ ▸ c2 with z|z
    ·exact uk z
    ·exact absurd (.inl (em.mp z)) c1'
   have e:(List.replicate i.toNat vs).flatten.toArray = #[]:=by
    rw [show i.toNat=0 by lia];rfl
   rw [e] at q;exact g3d g26 ty g4f (g43 _ _) (qcp i u t vs.toArray n dd sl b0 c1 c2) ⟨ho,q⟩
  ·have c2':0<i:=by
    have:¬i<=0:=fun z=>c2 (by rw [nk z];rfl);lia
   have ei:(vs.toArray.size:Int)*i=((vs.length*i.toNat:Nat):Int):=by
    rw [Int.natCast_mul,Int.toNat_of_nonneg (by lia),gj]
   have el:(List.replicate i.toNat vs).flatten.length=vs.length*i.toNat:=by
    rw [List.length_flatten,List.map_replicate,g5a,Nat.mul_comm]
   rw [<- qaj] at q;refine g3d g26 ty g4f (g43 _ _) (qcq i u t vs.toArray n dd sl b0 c1 c2 ?_ ?_ ?_) ⟨ho,q⟩
   ·rw [ei];lia
   ·rw [ei]
    unfold Builtin.Tuple.tupleTooMany;have:sizeLine=16777216:=g28;rw [this,u0];lia
   ·rw [qaj,gj,el]
    exact va hz
end
section
variable{X:Cx}
def qlm:D->D->Option D
 | .tup xs,.int n=>if decide (-(2 ^ 62)<n)&&decide (n<2 ^ 62)&&decide (xs.length*n.toNat<=lim) then some (.tup (List.replicate n.toNat xs).flatten) else none
 | _,_=>none
theorem qcs{xs:List V}{us:List Value}(r:Vals xs us): ∀n:Nat,Vals (List.replicate n xs).flatten (List.replicate n us).flatten
 | 0=>.nil
 | n+1=>by rw [g12,g12,g1v,g1v];exact r.append (qcs r n)
theorem qct{K:Frag}{H:Hp}{ds:List D}{xs:List V}(r:RepL K H ds xs): ∀n:Nat,RepL K H (List.replicate n ds).flatten (List.replicate n xs).flatten
 | 0=>.nil
 | n+1=>by rw [g12,g12,g1v,g1v];exact r.append (qct r n)
theorem qrr:OpR X (binaryOp .Mult) (rD X.K qlm):=fun pins s σ H x y v u Q I rx ry ⟨F,d1,d2,d,q1,q2,q3,q4,q5⟩=>by
 unfold qlm at q4
 split at q4
 ·rename_i ds n
  split at q4
  ·rename_i hc
   cases q4;simp only [mi,u0] at hc;obtain⟨⟨c1,c2⟩,c3⟩:=hc;obtain⟨p,xs,rfl,z1,z2⟩:=rep_tup.mp q2;cases rep_int.mp q3;cases rx;obtain⟨t,rfl⟩:=ry;obtain⟨its,r1,p1,hz⟩:=I.tuple (ql q1 z1);have lx:=r1.length;have ld:=z2.length;refine qol p1 c1 c2 (by rw [<- lx, <- ld];exact c3) (fun hq=>?_) fun hq=>?_
   ·have e:(List.replicate n.toNat ds).flatten=ds:=by
     rcases hq with z|z
     ·have:ds=[]:=g53.mp (by rw [ld,lx,z];rfl)
      subst this;simp
     ·subst z;simp [List.replicate]
    rw [e] at q5;exact⟨.ref p,H,I,rfl,q5 _ F H (.refl q1) q2⟩
   ·have hn:H s.heap.objs.size=none:=I.hok.fresh (gv _)
    have rr:=qcs r1 n.toNat;have el:(List.replicate n.toNat xs).flatten.length=ds.length*n.toNat:=by
     rw [List.length_flatten,List.map_replicate,g5a,Nat.mul_comm,ld]
    refine⟨.ref s.heap.objs.size,_,I.laid (t':=s.toks) (o:=.tup (List.replicate n.toNat xs).flatten) (fun b ob q=>gf _ q) (gv _) ⟨by rw [el];exact va c3,_,rr,IsTup.new _ _⟩,rfl,?_⟩;have gn:=Grow.new (o:=.tup (List.replicate n.toNat xs).flatten) q1 hn;exact q5 _ _ _ gn (rep_tup.mpr ⟨_,_,rfl,SqT.of qt,(qct z2 n.toNat).mono gn.ff⟩)
  ·cases q4
 ·cases q4
def zq:D->D->Option D:=fun x y=>(oMul x y).or (qlm x y)
theorem xn:OpR X (binaryOp .Mult) (rD X.K zq):=q5h qra qrr
end
section
variable{prog:Program}{w:World}{A:Around}{E:Value->Shared->Prop}{s:Shared}
theorem SI.ty{b:Bool}{h:Heap}{it l:Addr}{k:Nat}(x:SI b h it l k): it<h.objs.size:=let⟨_,ho,_⟩:=x;gz ho
theorem qgq{b:Bool}{e it l:Addr}{i:Nat}{xs:Array Value}{x old:Value}{Q:Value->Shared->Prop}(he:IsEnum s.heap e it i old)(hi:SI b s.heap it l i)(ho:SO b s.heap l xs)(hx:xs[i]? = some x)(hne:e≠it)
  (hQ:∀h',IsEnumOut h' e it ((i:Int)+1) x s.heap.objs.size->SI b h' it l (i+1)->h'.get? s.heap.objs.size=some {cls:=.type "tuple",data:=.seq #[.int i s.toks,x]}->h'.objs.size=s.heap.objs.size+1 ->
   (∀c o,c≠e->c≠it->s.heap.get? c=some o->h'.get? c=some o)->Q (.ref s.heap.objs.size) {s with heap:=h',toks:=s.toks+1}) :
  wpAny (model prog w) A (Builtin.«enumerate.__next__» ⟨[.ref e],[]⟩) (fun fin s'=>∃v,fin=.done (.ret v)/\Q v s') E s:=by
 obtain⟨hp,gg,dd,tk,os⟩:=s;show wpAny _ _ (field (.ref e) 2 >>= _) _ _ _;refine g9 (td he rfl (x:=.ref it) rfl (g9 (q6m hi ho hx fun g1 n1 v1=>?_)));have u1:Heap.SameBut it hp g1:=v1;have e1:IsEnum g1 e it i old:=(u1.2 e hne).trans he;show wpAny _ _ (field (.ref e) 3 >>= _) _ _ ⟨g1,gg,dd,tk,os⟩;refine g9 (td e1 rfl (x:=rawInt i) rfl ?_);show wpAny _ _ (field (.ref e) 4 >>= _) _ _ ⟨g1,gg,dd,tk,os⟩;refine g9 (td e1 rfl (x:=.none) rfl ?_);show wpAny _ _ (mkInt i >>= _) _ _ ⟨g1,gg,dd,tk,os⟩;refine g9 (wpAny_mkInt ?_);show wpAny _ _ (setField (.ref e) 3 (rawInt ((i:Int)+1)) >>= _) _ _ ⟨g1,gg,dd,tk+1,os⟩;refine g9 (um e1 (by simp) fun g2 y2 v2=>?_);have u2:Heap.SameBut e g1 g2:=v2;have e2:IsEnum g2 e it ((i:Int)+1) old:=y2;show wpAny _ _ (setField (.ref e) 4 .none >>= _) _ _ ⟨g2,gg,dd,tk+1,os⟩;refine g9 (um e2 (by simp) fun g3 y3 v3=>?_);have u3:Heap.SameBut e g2 g3:=v3;have e3:IsEnum g3 e it ((i:Int)+1) old:=y3;show wpAny _ _ (newTuple [.int i tk,x] >>= _) _ _ ⟨g3,gg,dd,tk+1,os⟩;refine g9 (wpAny_newTuple ?_);have e4:IsEnum (g3.push {cls:=.type "tuple",data:=.seq #[.int i tk,x]}) e it ((i:Int)+1) old:=gf _ e3;have z3:g3.objs.size=hp.objs.size:=by rw [u3.1,u2.1,u1.1]
 have ltE:e<hp.objs.size:=gz he;have n3:SI b g3 it l (i+1):=(n1.ext u2.extBut hne.symm).ext u3.extBut hne.symm;have k3:∀c o,c≠e->c≠it->hp.get? c=some o->g3.get? c=some o:=fun c o h1 h2 q=>u3.extBut _ _ h1 (u2.extBut _ _ h1 (u1.extBut _ _ h2 q));clear v1 v2 v3 y2 y3 e1 e2 u1 u2 u3 n1;have t4:(g3.push {cls:=.type "tuple",data:=.seq #[.int i tk,x]}).get? hp.objs.size=some {cls:=.type "tuple",data:=.seq #[.int i tk,x]}:=by rw [<- z3];exact m4 _ rfl
 have z4:(g3.push {cls:=.type "tuple",data:=.seq #[.int i tk,x]}).objs.size=hp.objs.size+1:=by rw [pd,z3]
 have n4:SI b (g3.push {cls:=.type "tuple",data:=.seq #[.int i tk,x]}) it l (i+1):=let⟨o,q,r⟩:=n3; ⟨o,gf _ q,r⟩
 have k4:∀c o,c≠e->c≠it->hp.get? c=some o->(g3.push {cls:=.type "tuple",data:=.seq #[.int i tk,x]}).get? c=some o:=fun c o h1 h2 q=>gf _ (k3 c o h1 h2 q);rw [z3];generalize g3.push {cls:=.type "tuple",data:=.seq #[.int i tk,x]}=g4 at e4 t4 z4 n4 k4 ⊢;show wpAny _ _ (Builtin.SmallTypes.ownedTupleIsFree (.ref e) >>= _) _ _ ⟨g4,gg,dd,tk+1,os⟩;refine g9 ?_;unfold Builtin.SmallTypes.ownedTupleIsFree;refine g9 (td e4 rfl (x:=.none) rfl (gc ?_));simp only [ny];refine g9 (g01 (g9 (td e4 rfl (x:=old) rfl (g9 (um e4 (by simp) fun g5 y5 v5=>?_)))));have u5:Heap.SameBut e g4 g5:=v5;have e5:IsEnum g5 e it ((i:Int)+1) x:=y5;show wpAny _ _ (Builtin.SmallTypes.ownedTupleHandOut (.ref e) (.ref hp.objs.size) >>= _) _ _ ⟨g5,gg,dd,tk+1,os⟩;refine g9 ?_;unfold Builtin.SmallTypes.ownedTupleHandOut;refine g9 (um e5 (by simp) fun g6 y6 v6=>?_);have u6:Heap.SameBut e g5 g6:=v6;have e6:IsEnumOut g6 e it ((i:Int)+1) x hp.objs.size:=y6;refine um e6 (by simp) fun g7 y7 v7=>?_;have u7:Heap.SameBut e g6 g7:=v7;have e7:IsEnumOut g7 e it ((i:Int)+1) x hp.objs.size:=y7;have up:∀ {c o},c≠e->g4.get? c=some o->g7.get? c=some o:=fun {c o} h q=>u7.extBut _ _ h (u6.extBut _ _ h (u5.extBut _ _ h q));refine g9 (g3w (gc ⟨_,rfl,hQ g7 e7 ?_ (up (tu ltE) t4) ?_ fun c o h1 h2 q=>up h1 (k4 c o h1 h2 q)⟩))
 ·obtain⟨o,q,r⟩:=n4
  exact⟨o,up hne.symm q,r⟩
 ·rw [u7.1,u6.1,u5.1,z4]
theorem qcu{b:Bool}{e it l:Addr}{i:Nat}{xs:Array Value}{x old:Value}{Q:Option Value->Shared->Prop}(he:IsEnum s.heap e it i old)(hi:SI b s.heap it l i)(ho:SO b s.heap l xs)(hx:xs[i]? = some x)(hne:e≠it)
  (hQ:∀h',IsEnumOut h' e it ((i:Int)+1) x s.heap.objs.size->SI b h' it l (i+1)->h'.get? s.heap.objs.size=some {cls:=.type "tuple",data:=.seq #[.int i s.toks,x]}->h'.objs.size=s.heap.objs.size+1 ->
   (∀c o,c≠e->c≠it->s.heap.get? c=some o->h'.get? c=some o)->Q (some (.ref s.heap.objs.size)) {s with heap:=h',toks:=s.toks+1}):wpAny (model prog w) A (pyNext (.ref e)) Q E s:=by
 have ty:s.TypeIs (.ref e) "enumerate" :=⟨_,he,rfl⟩
 unfold pyNext;exact g9 (g0t (tq (name:=Str.ofString "__next__") ty g1z (pz g1z ty F.entry_enumerate_next
  (qgq he hi ho hx hne fun h' c1 c2 c3 c4 c5=>gc (hQ h' c1 c2 c3 c4 c5)) (F.args_enumerate_next_1 _))))
theorem q8k{b:Bool}{e it l:Addr}{i:Nat}{xs:Array Value}{old:Value}{Q:Option Value->Shared->Prop}(hh:A.handled=none)(he:IsEnum s.heap e it i old)(hi:SI b s.heap it l i)(ho:SO b s.heap l xs)(hx:xs[i]? = none)
  (hQ:∀h',Heap.ExtBut it s.heap h'->Q none {s with heap:=h'}):wpAny (model prog w) A (pyNext (.ref e)) Q E s:=by
 have ty:s.TypeIs (.ref e) "enumerate" :=⟨_,he,rfl⟩
 unfold pyNext;refine g9 (g0t (tq (name:=Str.ofString "__next__") ty g1z (pz g1z ty F.entry_enumerate_next ?_ (F.args_enumerate_next_1 _))));show wpAny _ _ (field (.ref e) 2 >>= _) _ _ _;refine g9 (td he rfl (x:=.ref it) rfl (g9 (q9k hh hi ho hx fun h' y k1 ⟨o,y1,y2⟩=>?_)));exact g9 (g1i (T:="StopIteration") (b:=true) ⟨o,y1,y2⟩ isSubtype_stop (gc (hQ _ k1)))
end
theorem qeg(b:Bool)(l:Addr)(xs:Array Value):
  Meets (Builtin.«enumerate.__new__» ⟨[.type "enumerate",.ref l],[]⟩) (fun _ R s=>SO b s.heap l xs/\R (.ok (.ret (.ref (zh1 b s.heap l).objs.size))) {s with heap:=(zh1 b s.heap l).push {cls:=.type "enumerate",data:=.fields #[.none,.bool false,.ref s.heap.objs.size,rawInt 0,.none,.none]} }):=
 .of_wp fun prog w A R s h=>by
  obtain⟨hp,gg,dd,tk,os⟩:=s;obtain⟨ha,h⟩:=h;have hsub:=sub_enumerate;have f1:SO b (Shared.heap ⟨hp,gg,dd,tk,os⟩) l xs:=ha
  wp_walk using q1o f1
  refine wpAny_stack_any fun st=>gc ?_
  split
  ·rename_i c _ _ _ _ _
   cases(c==Value.type "enumerate") <;> (wp_walk using q1o f1;exact⟨_,rfl,h⟩)
  ·wp_walk using q1o f1
   exact⟨_,rfl,h⟩
def Itn(K:Frag)(b:Bool)(a:Addr): It:=
 ⟨fun i H=>∃xs x,Sq b K H a xs/\xs[i]? = some x,
  fun i H v H'=>∃p x,H p=none/\(∀xs,Sq b K H a xs->xs[i]? = some x)/\v=.ref p/\H'=upd H p (.tup [.int i,x]),
  fun i H=>∃xs,Sq b K H a xs/\xs.length<=i⟩
theorem qiw{P:Program}{w:World}{K:Frag}{elts:List Expr}{x1}{tp:Pos}{b:Bool}{a e it:Addr}(hne:e≠it):
  Turn P w K (.Tuple elts x1 tp) (Itn K b a) [e,it] e (fun i h=>(∃old,IsEnum h e it (i:Int) old)/\SI b h it a i) where
 mem:=by simp
 obj:=fun i h ⟨⟨old,c1⟩,⟨o4,c4,_,d4⟩⟩ c hc=>by
  simp only [m6,t7,g0x] at hc;rcases hc with rfl|rfl
  ·exact⟨_,c1,fun v z=>by cases z⟩
  ·exact⟨_,c4,fun v z=>by rw [d4] at z;cases z⟩
 keep:=fun i h h' ⟨⟨old,c1⟩,c4⟩ k=>⟨⟨old,k _ (by simp) _ c1⟩,c4.keep fun o e=>k _ (by simp) o e⟩
 item:=by
  intro X hP hw hK hc i pins s σ H E I hf st hg;subst hP hw hK;obtain⟨xs,x,q1,hx⟩:=hg;obtain⟨its,v1,o1⟩:=q29 I q1;obtain⟨u1,hu1,ru1⟩:=v1.get hx;obtain⟨⟨old,c1⟩,c4⟩:=st;refine qcu c1 c4 o1 (x:=u1) (by simpa using hu1) hne fun g n1 n2 n3 n4 n5=>?_;refine⟨_,rfl,wpAny_letOwnedTupleGo_enum n1 fun g2 m1 sb=>?_⟩;have hsz:e<s.heap.objs.size:=gz c1;have hiz:it<s.heap.objs.size:=c4.ty;have kp:∀c o,c∉[e,it]->s.heap.get? c=some o->g2.get? c=some o:=fun c o hc q=>by
   simp only [m6,t7,g0x,g42] at hc;exact sb.extBut _ _ hc.1 (n5 c o hc.1 hc.2 q)
  have I1:Inv X pins σ H {s with heap:=g2,toks:=s.toks+1}:=q6n (t':=s.toks+1) I hf kp;have fp:yf X pins H s.heap.objs.size:=I.fpOk (gv _) I.fresh;have hT:g2.get? s.heap.objs.size=some {cls:=.type "tuple",data:=.seq #[.int i s.toks,u1]}:=sb.extBut _ _ (tu hsz) n3;have I2:Inv X pins σ (upd H s.heap.objs.size (.tup [.int i,x])) {s with heap:=g2,toks:=s.toks+1}:=
   adopt I1 fp ⟨by show 2<=sizeLine;decide,[.int i s.toks,u1],.cons ⟨_,rfl⟩ (.cons ru1 .nil),⟨_,hT,rfl,_,rfl⟩⟩
  refine⟨.ref s.heap.objs.size,_,I2,rfl,⟨_,x,I.fresh,fun ws h=>?_,rfl,rfl⟩,⟨⟨u1,?_⟩,n2.ext sb.extBut hne.symm⟩,fun c hc=>?_⟩
  ·rw [qcm I h q1];exact hx
  ·exact m1
  ·have hb0:=(hf c hc).1
   have:c≠s.heap.objs.size:=by
    simp only [m6,t7,g0x] at hc;rcases hc with rfl|rfl
    ·exact md hsz
    ·exact md hiz
   rw [qk this];exact hb0
 done:=by
  intro X hP hw hK hc i pins s σ H E I hf st hg;subst hP hw hK;obtain⟨xs,q1,hend⟩:=hg;obtain⟨its,v1,o1⟩:=q29 I q1;obtain⟨⟨old,c1⟩,c4⟩:=st;refine q8k (I.ok.hd hc) c1 c4 o1 ?_ fun g n5=>⟨rfl,q6n (t':=s.toks) I hf fun c o hc q=>?_⟩
  ·have l1:=v1.length
   simp;omega
  ·simp only [m6,t7,g0x,g42] at hc
   exact n5 c o hc.2 q
 self:=fun A i s Q E st h=>let⟨⟨_,c1⟩,_⟩:=st;wpAny_pyIter_enum c1 h
def q4k(ds:List D): List D:=q01 (z5 0 ds.length) ds
theorem qix{ds:List D}{i:Nat}{d:D}(h:(q4k ds)[i]? = some d): ∃x,ds[i]? = some x/\d=.tup [.int i,x]:=by
 unfold q4k q01 z5 at h;rw [g5h,n9] at h;cases z2:ds[i]? with
 | none=>rw [z2] at h;simp at h
 | some x=>
  have hi:i<ds.length:=(ni.mp z2).1;rw [z2,List.getElem?_range hi] at h;cases h;exact⟨x,rfl,by simp⟩
theorem qak(ds:List D): (q4k ds).length=ds.length:=by
 unfold q4k q01 z5;simp
theorem qln{K:Frag}{F:Hp}{b:Bool}{a:Addr}{xs:List V}{ds:List D}(h1:Sq b K F a xs)(r1:RepL K F ds xs): ItD K F (q4k ds) (Itn K b a) where
 go:=fun i F' H s1 s2 hi=>by
  rw [qak] at hi;exact⟨xs,xs[i]'(by rw [<- r1.length];exact hi),vm (s1.trans s2) h1,by simp⟩
 yld:=fun i d F' H x H' s1 s2 hi ⟨p,x1,hp,q1,e1,e2⟩=>by
  subst e1 e2;obtain⟨d1,z1,rfl⟩:=qix hi;obtain⟨v1,k1,k2⟩:=r1.get z1;have w1:=q1 xs (vm (s1.trans s2) h1);rw [k1] at w1;cases w1;have gn:Grow F' H (upd F' p (.tup [.int i,x1])) (upd H p (.tup [.int i,x1])):=Grow.new s2 hp;exact⟨_,gn,rep_tup.mpr ⟨p,_,rfl,SqT.of qt,.cons (rep_int.mpr rfl) (.cons ((k2.mono s1).mono gn.ff) .nil)⟩⟩
 stop:=fun i F' H s1 s2 hi=>by
  rw [qak] at hi;exact⟨xs,vm (s1.trans s2) h1,by rw [<- r1.length];exact hi⟩
section
variable{X:Cx}{pos:Pos}{elts:List Expr}{x1:Nat}{tp:Pos}
theorem qgr:bootBuiltins "enumerate" = some (.type "enumerate"):=by decide +kernel
theorem qom{a:Expr}{ta:TA}{p:Pos}(hg:Gl X "enumerate")(hm:X.mg "enumerate" = none)(ha:PA X [a] ta)(hs:starEach [a] X.env=[(false,eval a X.env)]:=by first|exact q6j rfl|rfl):
  PI X (.Tuple elts x1 tp) (.Call (.Name "enumerate" p) [a] [] pos) (fun σ H R=>ta σ H fun vs H1=>∃b a xs,vs=[.ref a]/\Sq b X.K H1 a xs/\R (Itn X.K b a) H1):=by
 intro pins s σ H R I h;refine Call_ (q1i I hg hm qgr (g0p (thn (ha pos pins s σ H _ I h) fun us s1 ⟨vs,H1,I1,r1,q1⟩=>?_) (by rw [hs];rfl) (by rfl)));obtain⟨b1,a1,xs,rfl,k1,q⟩:=q1;obtain⟨u1,rfl,e1⟩:=vals1 r1;cases e1;obtain⟨its1,v1,o1⟩:=q29 I1 k1;refine callType_new F.called_enumerate (by decide) (F.typeCall_enumerate_1 _) (F.newCall_enumerate_1 _) (fun obj=>F.args_object_init_2 obj _) F.entry_enumerate_new (qeg b1 a1 its1.toArray) ⟨o1,?_⟩;have z1:(zh1 b1 s1.heap a1).objs.size=s1.heap.objs.size+1:=pd ..;generalize eh:(zh1 b1 s1.heap a1).push {cls:=.type "enumerate",data:=.fields #[.none,.bool false,.ref s1.heap.objs.size,rawInt 0,.none,.none]}=h2;have g2:IsEnum h2 (zh1 b1 s1.heap a1).objs.size s1.heap.objs.size 0 .none:=by rw [<- eh];exact m4 _ rfl
 have g1:h2.get? s1.heap.objs.size=some {cls:=.type (itN b1),data:=.fields #[.ref a1,.int 0 0]}:=by rw [<- eh];exact gf _ (m4 _ rfl)
 have kp:∀c o,s1.heap.get? c=some o->h2.get? c=some o:=fun c o e=>by rw [<- eh];exact gf _ (gf _ e)
 have I2:Inv X pins σ H1 {s1 with heap:=h2}:=I1.kept (t':=s1.toks) kp;refine⟨⟨_,g2,rfl⟩,wpAny_pyIter_enum g2 ?_⟩;refine⟨_,_,_,_,H1,rfl,I2,qiw (b:=b1) (a:=a1) (e:=(zh1 b1 s1.heap a1).objs.size) (it:=s1.heap.objs.size) (tu (by rw [z1];exact tw _)),⟨⟨_,g2⟩,⟨_,g1,rfl,rfl⟩⟩,fun c hc=>?_,q⟩;have hge:s1.heap.objs.size<=c:=by
  simp only [m6,t7,g0x] at hc;rcases hc with rfl|rfl <;> omega
 exact I1.fpOk hge (I1.hok.fresh hge)
def qgs(f:FE): FA:=fun ρ =>(f ρ).bind fun d=>(q5m d).map q4k
theorem qon{a:Expr}{f:FE}{p:Pos}(hg:Gl X "enumerate")(hm:X.mg "enumerate" = none)(ha:PE X a (tD X.K f))(hs:starEach [a] X.env=[(false,eval a X.env)]:=by first|exact q6j rfl|rfl):
  PI X (.Tuple elts x1 tp) (.Call (.Name "enumerate" p) [a] [] pos) (tDI X.K (qgs f)):=q5l (qom hg hm (qfe (hs:=by rw [hs];rfl) ha qd) hs) fun σ H R ⟨F0,H0,F, ρ,ds,r,hf,q⟩=>by
 obtain⟨d,h1,h2⟩:=gh.mp hf;obtain⟨es,h3,h4⟩:=ml.mp h2;subst h4;refine⟨F0,H0,F, ρ,[d],r,by simp only [qa,qe,h1,mm,pb],fun vs F' H' g' r'=>?_⟩;obtain⟨v1,t,rfl,e1,e2⟩:=r'.cons_inv;cases e2.nil_inv;obtain⟨b1,a1,us,rfl,s1,l1⟩:=q9l h3 e1;exact⟨b1,a1,us,rfl,vm g'.fh s1,q _ F' H' g' (qln s1 l1)⟩
end
section
variable{X:Cx}{st:Stmt}
def qiy:FS:=fun _=>none
theorem qlo:PS X st (tDS X.K qiy):=fun pins s σ H D I ⟨F0,H0,F, ρ,fl, ρ',r,hf,q⟩=>by cases hf
abbrev oBand:=oI (fun _ _=>true) fun i j=>Builtin.bitAnd i j
theorem qoo:OpR X (binaryOp .BitAnd) (rD X.K oBand):=qc4 qqx
theorem q5o:∀ {l m:List Int},l.Perm m->l.Pairwise (· <= ·)->m.Pairwise (· <= ·)->l=m
 | [],m,p,_,_=>(p.nil_eq).symm ▸ rfl
 | x :: l,[],p,_,_=>by cases p.length_eq
 | x :: l,y :: m,p,.cons h1 h2,.cons k1 k2=>by
  have e:x=y:=by
   have hx:x∈y :: m:=p.mem_iff.mp gq;have hy:y∈x :: l:=p.mem_iff.mpr gq;rcases m6.mp hx with e|hx
   ·exact e
   ·rcases m6.mp hy with e|hy
    ·exact e.symm
    ·exact Int.le_antisymm (h1 y hy) (k1 x hx)
  subst e;rw [q5o (List.perm_cons _ |>.mp p) h2 k2]
theorem q1k:∀ {us:List Value} {ns:List Int},IntsAre us ns->Vals (ns.map V.int) us
 | _,_,.nil=>.nil
 | _,_,.cons n t h=>.cons ⟨t,rfl⟩ (q1k h)
theorem boot_sorted:bootBuiltins "sorted" = some (.builtin "sorted"):=by decide +kernel
end
section
variable{X:Cx}{pins:List (Addr×Obj)}{σ : St}{F H:Hp}{s:Shared}
theorem q4l(I:Inv X pins σ H s)(fh:Same F H)(A:Around): ∀ {ds es:List D} {xs ys:List V} {us vs:List Value},xa ds es=true->A.units+xb ds<cLine->RepL X.K F ds xs->RepL X.K F es ys->Vals xs us->Vals ys vs ->
   ∀j (h1:j<us.length) (h2:j<vs.length),SeqAt.EqAt A s us[j] vs[j] (eqJ ds es j)
 | [],es,xs,ys,us,vs,_,_,k1,_,w1,_,j,h1,_=>by
  cases k1.nil_inv;cases w1;exact absurd h1 (t6 _)
 | d :: ds,es,xs,ys,us,vs,ho,hd,k1,k2,w1,w2,j,h1,h2=>by
  obtain⟨x,r,rfl,a1,a2⟩:=k1.cons_inv;cases w1 with
  | cons p1 p2=>
   cases es with
   | nil=>cases k2.nil_inv;cases w2;exact absurd h2 (t6 _)
   | cons e es=>
    obtain⟨y,r',rfl,b1,b2⟩:=k2.cons_inv;cases w2 with
    | cons p3 p4=>
     simp only [xa,mi] at ho;simp only [xb] at hd;cases j with
     | zero=>
      have e0:eqJ (d :: ds) (e :: es) 0=eqD d e:=by simp [eqJ]
      rw [e0];exact q8i I fh A ho.1 (by lia) a1 b1 p1 p3
     | succ j=>
      have e0:eqJ (d :: ds) (e :: es) (j+1)=eqJ ds es j:=by simp [eqJ]
      rw [e0];exact q4l I fh A ho.2 (by lia) a2 b2 p2 p4 j (by simpa using h1) (by simpa using h2)
def qlp:D->D->Option D
 | .tup ds,.tup es=>if xa ds es&&decide (xb ds<=60) then some (.bl (!eqL ds es)) else none
 | _,_=>none
theorem qrs(hu:X.A.units+64<cLine): OpR X (compareOp .NotEq) (rD X.K qlp):=by
 intro pins s σ H x y v u Q I rx ry h;obtain⟨F,d1,d2,d,fh,r1,r2,ho,q⟩:=h;unfold qlp at ho
 split at ho
 ·rename_i ds es
  split at ho
  ·rename_i hc
   cases ho;rw [mi] at hc;obtain⟨a,xs,rfl,k1,k2⟩:=rep_tup.mp r1;obtain⟨b,ys,rfl,k3,k4⟩:=rep_tup.mp r2;cases rx;cases ry;obtain⟨i1,v1,t1,_⟩:=I.tuple (ql fh k1);obtain⟨i2,v2,t2,_⟩:=I.tuple (ql fh k3);have hq:=q4l I fh X.A.in1 hc.1 (by have:=uk hc.2;show X.A.units+1+xb ds<cLine;lia) k2 k4 v1 v2;have:=SeqAt.RcNeAt.tuples (A:=X.A) (e:=eqJ ds es) (show s.heap.IsTuple a i1.toArray from t1) (show s.heap.IsTuple b i2.toArray from t2) (by lia) (fun j h1 h2=>by simpa using hq j (by simpa using h1) (by simpa using h2));simp only [gj, <- v1.length, <- v2.length, <- k2.length, <- k4.length,xv] at this;exact this X.prog X.w _ _ ⟨.bl _,H,I,rfl,q _ F H (.refl fh) (rep_bl.mpr rfl)⟩
  ·cases ho
 ·cases ho
abbrev qrt:D->D->Option D:=fun x y=>(q7f x y).or (qlp x y)
theorem qru(hu:X.A.units+64<cLine): OpR X (compareOp .NotEq) (rD X.K qrt):=q5h qc7 (qrs hu)
end
end DL
namespace DL
open PySem PyProof.Rows L2
def rkD:D->Nat
 | .int _=>0
 | .tup _=>1
 | _=>2
mutual
def q18:D->D->Ordering
 | .int i,.int j=>if i<j then .lt else if j<i then .gt else .eq
 | .tup ds,.tup es=>q0v ds es
 | d,e=>if rkD d<rkD e then .lt else if rkD e<rkD d then .gt else .eq
def q0v:List D->List D->Ordering
 | [],[]=>.eq
 | [],_ :: _=>.lt
 | _ :: _,[]=>.gt
 | d :: ds,e :: es=>match q18 d e with
  | .eq=>q0v ds es
  | o=>o
end
def ltT(d e:D): Bool:=(q18 d e).isLT
def q0w(ds es:List D): Bool:=(q0v ds es).isLT
mutual
/-- ints, and tuples of such -/
def kD:D->Bool
 | .int _=>true
 | .tup ds=>kDL ds
 | _=>false
def kDL:List D->Bool
 | []=>true
 | d :: ds=>kD d&&kDL ds
end
mutual
/-- where Python compares these two, it meets only ints with ints, tuples with tuples -/
def shD:D->D->Bool
 | .int _,.int _=>true
 | .tup ds,.tup es=>shL ds es
 | _,_=>false
def shL:List D->List D->Bool
 | d :: ds,e :: es=>shD d e&&shL ds es
 | _,_=>true
end
def q9p(k:D×D): List (D×D)->List (D×D)
 | []=>[k]
 | y :: r=>if ltT y.1 k.1=true then y :: q9p k r else k :: y :: r
def q4m:List (D×D)->List (D×D)
 | []=>[]
 | x :: r=>q9p x (q4m r)
theorem swap3{a b:Nat}: (if a<b then Ordering.lt else if b<a then .gt else .eq).swap=if b<a then .lt else if a<b then .gt else .eq:=by
 by_cases h:a<b
 ·rw [mq h,mj (by omega),mq h];rfl
 ·by_cases k:b<a
  ·rw [mj h,mq k,mq k];rfl
  ·rw [mj h,mj k,mj k,mj h];rfl
theorem swap4{a b:Int}: (if a<b then Ordering.lt else if b<a then .gt else .eq).swap=if b<a then .lt else if a<b then .gt else .eq:=by
 by_cases h:a<b
 ·rw [mq h,mj (by omega),mq h];rfl
 ·by_cases k:b<a
  ·rw [mj h,mq k,mq k];rfl
  ·rw [mj h,mj k,mj k,mj h];rfl
theorem qcv:∀n,(∀d e:D,sizeOf d<n->q18 e d=(q18 d e).swap)/\(∀ds es:List D,sizeOf ds<n->q0v es ds=(q0v ds es).swap):=by
 intro n
 induction n with
 | zero=>exact⟨fun d e h=>absurd h (t6 _),fun d e h=>absurd h (t6 _)⟩
 | succ n ih=>
  refine⟨fun d e hn=>?_,fun ds es hn=>?_⟩
  ·cases d <;> cases e <;> simp only [q18] <;> first
    | exact swap3.symm
    | exact swap4.symm
    | exact ih.2 _ _ (by simp at hn;omega)
  ·cases ds with
   | nil=>cases es <;> simp only [q0v] <;> rfl
   | cons d ds=>
    cases es with
    | nil=>simp only [q0v];rfl
    | cons e es=>
     simp only [q0v];rw [ih.1 d e (by simp at hn;omega),ih.2 ds es (by simp at hn;omega)];cases q18 d e <;> rfl
theorem cmp_swap(d e:D): q18 e d=(q18 d e).swap:=(qcv (sizeOf d+1)).1 d e (tw _)
theorem q1q(d e:D)(ds es:List D): q0w (d :: ds) (e :: es)=(ltT d e || (!ltT e d&&q0w ds es)):=by
 unfold q0w ltT;rw [cmp_swap d e,q0v];cases q18 d e <;> rfl
theorem q2q(ds:List D): q0w ds []=false:=by cases ds <;> simp only [q0w,q0v] <;> rfl
theorem q1r(e:D)(es:List D): q0w [] (e :: es)=true:=by simp only [q0w,q0v];rfl
theorem lt3{a b:Nat}: (if a<b then Ordering.lt else if b<a then .gt else .eq).isLT=decide (a<b):=by
 by_cases h:a<b
 ·simp [h]
 ·by_cases k:b<a <;> simp [h,k]
theorem lt4{a b:Int}: (if a<b then Ordering.lt else if b<a then .gt else .eq).isLT=decide (a<b):=by
 by_cases h:a<b
 ·simp [h]
 ·by_cases k:b<a <;> simp [h,k]
theorem q0p(ds es:List D): ltT (.tup ds) (.tup es)=q0w ds es:=by unfold ltT;simp only [q18];rfl
theorem vn(i j:Int): ltT (.int i) (.int j)=decide (i<j):=by unfold ltT;simp only [q18];exact lt4
theorem qcw{d e:D}(h:ltT d e=true): ltT e d=false:=by
 unfold ltT at h ⊢;rw [cmp_swap d e];cases q:q18 d e <;> rw [q] at h <;> first|rfl|(cases h;done)
theorem q0x(d e:D): (∃i j,d=.int i/\e=.int j)\/(∃ds es,d=.tup ds/\e=.tup es)\/ltT d e=decide (rkD d<rkD e):=by
 cases d <;> cases e <;> first
  | (left;exact⟨_,_,rfl,rfl⟩)
  | (right;left;exact⟨_,_,rfl,rfl⟩)
  | (right;right;simp only [ltT,q18];exact lt3)
theorem qgt:∀n,(∀d e f:D,sizeOf d+sizeOf e+sizeOf f<n->ltT e d=false->ltT f e=false->ltT f d=false)/\(∀ds es fs:List D,sizeOf ds+sizeOf es+sizeOf fs<n->q0w es ds=false->q0w fs es=false->q0w fs ds=false):=by
 intro n
 induction n with
 | zero=>exact⟨fun d e f h=>absurd h (t6 _),fun d e f h=>absurd h (t6 _)⟩
 | succ n ih=>
  refine⟨fun d e f hn h k=>?_,fun ds es fs hn h k=>?_⟩
  ·rcases q0x e d with⟨i,j,rfl,rfl⟩|⟨es,ds,rfl,rfl⟩|g1
   ·rcases q0x f (.int i) with⟨i',j',rfl,z⟩|⟨es,ds,rfl,z⟩|g2
    ·cases z
     simp only [vn,g0a] at h k ⊢;omega
    ·cases z
    ·rcases q0x f (.int j) with⟨i',j',rfl,z⟩|⟨es,ds,rfl,z⟩|g3
     ·rw [vn,g0a] at k
      simp only [vn,g0a] at h ⊢;omega
     ·cases z
     ·rw [g3];simp [rkD]
   ·rcases q0x f (.tup es) with⟨i',j',rfl,z⟩|⟨fs,es',rfl,z⟩|g2
    ·cases z
    ·cases z
     simp only [q0p] at h k ⊢;exact ih.2 _ _ _ (by simp at hn;omega) h k
    ·rcases q0x f (.tup ds) with⟨i',j',rfl,z⟩|⟨fs,es',rfl,z⟩|g3
     ·cases z
     ·cases z
      simp only [q0p] at h k ⊢;exact ih.2 _ _ _ (by simp at hn;omega) h k
     ·rw [g2] at k;rw [g3];exact k
   ·rcases q0x f e with⟨i,j,rfl,rfl⟩|⟨es,ds,rfl,rfl⟩|g2
    ·rcases q0x (.int i) d with⟨i',j',z,rfl⟩|⟨fs,es',z,rfl⟩|g3
     ·cases z
      rw [vn,g0a] at h;simp only [vn,g0a] at k ⊢;omega
     ·cases z
     ·rw [g1] at h;rw [g3];exact h
    ·rcases q0x (.tup es) d with⟨i',j',z,rfl⟩|⟨fs,es',z,rfl⟩|g3
     ·cases z
     ·cases z
      simp only [q0p] at h k ⊢;exact ih.2 _ _ _ (by simp at hn;omega) h k
     ·rw [g1] at h;rw [g3];exact h
    ·rcases q0x f d with⟨i,j,rfl,rfl⟩|⟨es,ds,rfl,rfl⟩|g3
     ·rw [g1] at h;rw [g2] at k
      cases e <;> simp [rkD] at h k
      rename_i m;have h':ltT (.int m) (.int j)=false:=by rw [g1];simp [rkD]
      have k':ltT (.int i) (.int m)=false:=by rw [g2];simp [rkD]
      simp only [vn,g0a] at h' k' ⊢;omega
     ·rw [g1] at h;rw [g2] at k
      cases e <;> simp [rkD] at h k
      rename_i ms;have h':ltT (.tup ms) (.tup ds)=false:=by rw [g1];simp [rkD]
      have k':ltT (.tup es) (.tup ms)=false:=by rw [g2];simp [rkD]
      simp only [q0p] at h' k' ⊢;exact ih.2 _ _ _ (by simp at hn;omega) h' k'
     ·rw [g1] at h;rw [g2] at k;rw [g3]
      simp only [g0a] at h k ⊢;omega
  ·cases fs with
   | nil=>
    cases es with
    | nil=>exact h
    | cons e es=>rw [q1r] at k;cases k
   | cons f fs=>
    cases ds with
    | nil=>rw [q2q]
    | cons d ds=>
     cases es with
     | nil=>rw [q1r] at h;cases h
     | cons e es=>
      rw [q1q] at h k ⊢;have z1:sizeOf d+sizeOf e+sizeOf f<n:=by simp at hn;omega
      have z2:sizeOf ds+sizeOf es+sizeOf fs<n:=by simp at hn;omega
      have z3:sizeOf e+sizeOf f+sizeOf d<n:=by simp at hn;omega
      have z4:sizeOf f+sizeOf d+sizeOf e<n:=by simp at hn;omega
      simp only [Bool.or_eq_false_iff,Bool.and_eq_false_iff,g44] at h k ⊢;obtain⟨h1,h2⟩:=h;obtain⟨k1,k2⟩:=k;refine⟨ih.1 d e f z1 h1 k1,?_⟩;rcases h2 with h2|h2
      ·left
       cases q:ltT d f
       ·-- f <= d and e <= f give e <= d
        have:=ih.1 e f d z3 k1 q;rw [this] at h2;cases h2
       ·rfl
      ·rcases k2 with k2|k2
       ·left
        cases q:ltT d f
        ·have:=ih.1 f d e z4 q h1
         rw [this] at k2;cases k2
        ·rfl
       ·right
        exact ih.2 ds es fs z2 h2 k2
theorem qcx{d e f:D}(h:ltT e d=false)(k:ltT f e=false): ltT f d=false:=(qgt (sizeOf d+sizeOf e+sizeOf f+1)).1 d e f (tw _) h k
theorem q5p(x:D×D): ∀l,(q9p x l).Perm (x :: l)
 | []=>.refl _
 | y :: r=>by
  unfold q9p
  split
  ·exact((q5p x r).cons y).trans (.swap x y r)
  ·exact .refl _
theorem q8l:∀l,(q4m l).Perm l
 | []=>.refl _
 | x :: r=>(q5p x _).trans ((q8l r).cons x)
def leT(x y:D×D): Prop:=ltT y.1 x.1=false
theorem qal(x:D×D): ∀ {l:List (D×D)},l.Pairwise leT->(q9p x l).Pairwise leT
 | [],_=>.cons (fun _ h=>by cases h) .nil
 | y :: r,.cons h1 h2=>by
  unfold q9p
  split
  ·rename_i hxy
   refine .cons (fun z hz=>?_) (qal x h2);rcases m6.mp ((q5p x r).mem_iff.mp hz) with rfl|hz
   ·exact qcw hxy
   ·exact h1 z hz
  ·rename_i hxy
   have hxy':ltT y.1 x.1=false:=by simpa using hxy
   refine .cons (fun z hz=>?_) (.cons h1 h2);rcases m6.mp hz with rfl|hz
   ·exact hxy'
   ·exact qcx hxy' (h1 z hz)
theorem q8m:∀l,(q4m l).Pairwise leT
 | []=>.nil
 | x :: r=>qal x (q8m r)
theorem qcy:∀ {l m:List (D×D)},l.Perm m->l.Pairwise leT->m.Pairwise leT->(∀x∈l,∀y∈l,ltT x.1 y.1=false->ltT y.1 x.1=false->x=y)->l=m
 | [],m,p,_,_,_=>(p.nil_eq).symm ▸ rfl
 | x :: l,[],p,_,_,_=>by cases p.length_eq
 | x :: l,y :: m,p,.cons h1 h2,.cons k1 k2,hu=>by
  have e:x=y:=by
   have hx:x∈y :: m:=p.mem_iff.mp gq;have hy:y∈x :: l:=p.mem_iff.mpr gq;rcases m6.mp hx with e|hx
   ·exact e
   ·rcases m6.mp hy with e|hy'
    ·exact e.symm
    ·exact hu x gq y hy (k1 x hx) (h1 y hy')
  subst e;rw [qcy (List.perm_cons _ |>.mp p) h2 k2 (fun a ha b hb=>hu a (gr _ ha) b (gr _ hb))]
theorem qlq{l m:List (D×D)}(p:m.Perm l)(h:m.Pairwise leT)(hu:∀x∈l,∀y∈l,ltT x.1 y.1=false->ltT y.1 x.1=false->x=y): m=q4m l:=
 qcy (p.trans (q8l l).symm) h (q8m l) (fun x hx y hy=>hu x (p.mem_iff.mp hx) y (p.mem_iff.mp hy))
end DL
namespace Srt
open PySem PyProof.Rows
structure Cmp(prog:Program)(w:World)(A:Around)(s:Shared)(κ : SortKind)(G:Value->Prop)(lt:Value->Value->Bool): Prop where
 ask:∀x y,G x->G y->∀Q:Bool->Shared->Prop,Q (lt x y) s->wpAny (model prog w) A (keyLt' κ x y) Q (fun _ _=>False) s
 asy:∀x y,lt x y=true->lt y x=false
 tra:∀x y z,lt y x=false->lt z y=false->lt z x=false
abbrev q20:Bool->Keyed->Array Keyed->Nat->Nat->Nat->StateT SortSt Sem (Option Nat):=sortPriv% PySem.Builtin.gallop
noncomputable def qrv(far:Nat->StateT SortSt Sem (Option Bool))(n l0 r0:Nat): StateT SortSt Sem (Option Nat):=do
 let mut l:=l0
 let mut r:=r0
 for _ in [0:n] do
  if l>=r then break
  let c:=l+(r-l) / 2
  let some go <- far c|return none
  if go then l:=c+1 else r:=c
 return some r
noncomputable def qlr(far:Nat->StateT SortSt Sem (Option Bool))(n hi0:Nat): StateT SortSt Sem (Option Nat):=do
 let mut u:=0
 let mut v:=1
 let mut l:=0
 let mut r:=0
 let some rg <- far hi0|return none
 if rg then
  let mo:=n-hi0
  for _ in [0:n] do
   if v>=mo then break
   let some go <- far (hi0+v)|return none
   if !go then break
   u:=v
   v:=2*v+1
  l:=hi0+u+1
  r:=hi0+min v mo
 else
  let mo:=hi0+1
  for _ in [0:n] do
   if v>=mo then break
   let some go <- far (hi0-v)|return none
   if go then break
   u:=v
   v:=2*v+1
  l:=hi0+1-min v mo
  r:=hi0-u
 for _ in [0:n] do
  if l>=r then break
  let c:=l+(r-l) / 2
  let some go <- far c|return none
  if go then l:=c+1 else r:=c
 return some r
noncomputable def qrw(lf:Bool)(ke:Keyed)(xs:Array Keyed)(ba i:Nat): StateT SortSt Sem (Option Bool):=do
 let x <- elem' xs (ba+i)
 if lf then lt' x ke else return (<- lt' ke x).map (!·)
theorem qop(lf:Bool)(ke:Keyed)(xs:Array Keyed)(ba n hi0:Nat): q20 lf ke xs ba n hi0=qlr (qrw lf ke xs ba) n hi0:=rfl
section
variable{prog:Program}{w:World}{A:Around}{E:Value->Shared->Prop}{s:Shared}{κ : SortKind}{G:Value->Prop}{lt:Value->Value->Bool}
def kz(p:Option Keyed): Value:=match p with|some p=>p.1|none=>.none
theorem q3z{C:Cmp prog w A s κ G lt}{st:SortSt}{x y:Keyed}{Q:Option Bool->SortSt->Prop}(hk:kindOf st = κ)(gx:G x.1)(gy:G y.1)(h:Q (some (lt x.1 y.1)) st):
  wpS (model prog w) A E s (lt' x y) Q st:=by
 rw [lt'_eq];refine gw (g2t ?_);rw [hk];exact gw (wpS_lift (g0t (tf (C.ask _ _ gx gy (fun b s'=>s'=s/\b=lt x.1 y.1) ⟨rfl,rfl⟩) (fun b s' h'=>by
  obtain⟨rfl,rfl⟩:=h';exact⟨rfl,mn h⟩) fun _ _ e=>e.elim)))
theorem ze{st:SortSt}{xs:Array Keyed}{i:Nat}{Q:Keyed->SortSt->Prop}(hi:i<xs.size)(h:Q xs[i] st): wpS (model prog w) A E s (elem' xs i) Q st:=by
 rw [elem'_eq,g2k xs i hi];exact mn h
def far1(lt:Value->Value->Bool)(lf:Bool)(ke x:Keyed): Bool:=if lf then lt x.1 ke.1 else !lt ke.1 x.1
theorem qls{st:SortSt}{far:Nat->StateT SortSt Sem (Option Bool)}{n hi0:Nat}{Q:Option Nat->SortSt->Prop}(f:Nat->Bool)(hh:hi0<n)
  (hfar:∀i,i<n->∀R:Option Bool->SortSt->Prop,R (some (f i)) st->wpS (model prog w) A E s (far i) R st)
  (mono':∀i j,i<=j->j<n->f j=true->f i=true)
  (h':∀k,k<=n->(∀i,i<k->f i=true)->(∀i,k<=i->i<n->f i=false)->Q (some k) st) :
  wpS (model prog w) A E s (qlr far n hi0) Q st:=by
 unfold qlr;have bin:∀l r,l<=r->r<=n->(∀i,i<l->f i=true)->(∀i,r<=i->i<n->f i=false)->wpS (model prog w) A E s (qrv far n l r) Q st:=by
  intro l r hlr hrn ha hb;unfold qrv;refine gw (uc (uq (I:=fun x c st'=>st'=st/\∃l r,c=(none,l,r)/\l<=r/\r<=n/\r-l<=n-x/\(∀i,i<l->f i=true)/\(∀i,r<=i->i<n->f i=false))
   (Q:=fun c st'=>st'=st/\∃r,c=(none,r,r)/\r<=n/\(∀i,i<r->f i=true)/\(∀i,r<=i->i<n->f i=false)) ?_ ?_ ?_) ?_)
  ·rintro x c st' _ hx ⟨rfl,l,r,rfl,h1,h2,h3,h4,h5⟩
   dsimp only
   by_cases hge:l>=r
   ·rw [mq hge]
    have:l=r:=by omega
    subst this;exact mn ⟨rfl,l,rfl,h2,h4,h5⟩
   ·rw [mj hge]
    refine gw (hfar _ (by omega) _ ?_);cases e:f (l+(r-l) / 2)
    ·simp only [gm,p8]
     refine mn ⟨rfl,_,_,rfl,by omega,by omega,by omega,h4,fun i i1 i2=>?_⟩;cases e':f i
     ·rfl
     ·rw [mono' _ _ i1 i2 e'] at e;cases e
    ·simp only [ny]
     exact mn ⟨rfl,_,_,rfl,by omega,by omega,by omega,fun i i1=>mono' _ _ (by omega) (by omega) e,h5⟩
  ·rintro c st' ⟨rfl,l,r,rfl,h1,h2,h3,h4,h5⟩
   have:l=r:=by omega
   subst this;exact⟨rfl,l,rfl,h2,h4,h5⟩
  ·exact⟨rfl,l,r,rfl,hlr,hrn,by omega,ha,hb⟩
  ·rintro c st' ⟨rfl,r,rfl,h2,h4,h5⟩
   exact mn (h' r h2 h4 h5)
 refine gw (hfar hi0 hh _ ?_);dsimp only;cases e0:f hi0
 ·simp only [gm,p8]
  refine gw (uc (uq (I:=fun x c st'=>st'=st/\∃u v,c=(none,u,v)/\u<v/\x+1<=v/\u<=hi0/\f (hi0-u)=false)
   (Q:=fun c st'=>st'=st/\∃u v,c=(none,u,v)/\u<v/\u<=hi0/\f (hi0-u)=false/\(v>=hi0+1\/f (hi0-v)=true)) ?_ ?_ ?_) ?_)
  ·rintro x c st' _ hx ⟨rfl,u,v,rfl,h1,h2,h3,h4⟩
   dsimp only
   by_cases hge:v>=hi0+1
   ·rw [mq hge]
    exact mn ⟨rfl,u,v,rfl,h1,h3,h4,.inl hge⟩
   ·rw [mj hge]
    refine gw (hfar _ (by omega) _ ?_);cases e:f (hi0-v)
    ·simp only [gm,p8]
     exact mn ⟨rfl,v,2*v+1,rfl,by omega,by omega,by omega,e⟩
    ·simp only [ny]
     exact mn ⟨rfl,u,v,rfl,h1,h3,h4,.inr e⟩
  ·rintro c st' ⟨rfl,u,v,rfl,h1,h2,h3,h4⟩
   exact⟨rfl,u,v,rfl,h1,h3,h4,.inl (by omega)⟩
  ·exact⟨rfl,0,1,rfl,by omega,by omega,by omega,e0⟩
  ·rintro c st' ⟨rfl,u,v,rfl,h1,h3,h4,h5⟩
   dsimp only;refine bin (hi0+1-min v (hi0+1)) (hi0-u) (by omega) (by omega) (fun i hi=>?_) (fun i i1 i2=>?_)
   ·rcases h5 with h5|h5
    ·omega
    ·exact mono' _ _ (by omega) (by omega) h5
   ·cases e':f i
    ·rfl
    ·rw [mono' _ _ i1 i2 e'] at h4;cases h4
 ·simp only [ny]
  refine gw (uc (uq (I:=fun x c st'=>st'=st/\∃u v,c=(none,u,v)/\u<v/\x+1<=v/\hi0+u<n/\f (hi0+u)=true)
   (Q:=fun c st'=>st'=st/\∃u v,c=(none,u,v)/\u<v/\hi0+u<n/\f (hi0+u)=true/\(v>=n-hi0\/f (hi0+v)=false)) ?_ ?_ ?_) ?_)
  ·rintro x c st' _ hx ⟨rfl,u,v,rfl,h1,h2,h3,h4⟩
   dsimp only
   by_cases hge:v>=n-hi0
   ·rw [mq hge]
    exact mn ⟨rfl,u,v,rfl,h1,h3,h4,.inl hge⟩
   ·rw [mj hge]
    refine gw (hfar _ (by omega) _ ?_);cases e:f (hi0+v)
    ·simp only [g20,ny]
     exact mn ⟨rfl,u,v,rfl,h1,h3,h4,.inr e⟩
    ·simp only [g0k,gm,p8]
     exact mn ⟨rfl,v,2*v+1,rfl,by omega,by omega,by omega,e⟩
  ·rintro c st' ⟨rfl,u,v,rfl,h1,h2,h3,h4⟩
   exact⟨rfl,u,v,rfl,h1,h3,h4,.inl (by omega)⟩
  ·exact⟨rfl,0,1,rfl,by omega,by omega,by omega,e0⟩
  ·rintro c st' ⟨rfl,u,v,rfl,h1,h3,h4,h5⟩
   dsimp only;refine bin (hi0+u+1) (hi0+min v (n-hi0)) (by omega) (by omega) (fun i hi=>mono' _ (hi0+u) (by omega) (by omega) h4) (fun i i1 i2=>?_);rcases h5 with h5|h5
   ·omega
   ·cases e':f i
    ·rfl
    ·by_cases hv:v<=n-hi0
     ·rw [mono' _ _ (show hi0+v<=i by omega) i2 e'] at h5;cases h5
     ·omega
theorem q2g(C:Cmp prog w A s κ G lt){st:SortSt}{lf:Bool}{ke:Keyed}{xs:Array Keyed}{ba n hi0:Nat}{Q:Option Nat->SortSt->Prop}(hk:kindOf st = κ)
  (gk:G ke.1) (gx:∀p∈xs.toList,G p.1) (hh:hi0<n) (hn:ba+n<=xs.size)
  (mono:∀i j,(hij:i<=j)->(hj:j<n)->far1 lt lf ke (xs[ba+j]'(by omega))=true->far1 lt lf ke (xs[ba+i]'(by omega))=true)
  (h:∀k,k<=n->(∀i,(hi:i<k)->(hi':i<n)->far1 lt lf ke (xs[ba+i]'(by omega))=true)->(∀i,k<=i->(hi:i<n)->far1 lt lf ke (xs[ba+i]'(by omega))=false)->Q (some k) st) :
  wpS (model prog w) A E s (q20 lf ke xs ba n hi0) Q st:=by
 rw [qop];obtain⟨f,hf⟩:∃f:Nat->Bool,∀i,(hi:i<n)->f i=far1 lt lf ke (xs[ba+i]'(by omega)):=⟨fun i=>if hi:i<n then far1 lt lf ke (xs[ba+i]'(by omega)) else false,fun i hi=>by simp [hi]⟩
 refine qls f hh (fun i hi R hR=>?_) (fun i j hij hj e=>?_) (fun k hk1 a b=>?_)
 ·unfold qrw
  refine gw (ze (by omega) ?_);have gi:G (xs[ba+i]'(by omega)).1:=gx _ (by simp);rw [hf i hi] at hR;unfold far1 at hR;cases lf
  ·simp only [gm,p8] at hR ⊢
   exact gw (q3z (C:=C) hk gk gi (mn hR))
  ·simp only [ny] at hR ⊢
   exact q3z (C:=C) hk gi gk hR
 ·rw [hf i (by omega)];rw [hf j hj] at e
  exact mono i j hij hj e
 ·exact h k hk1 (fun i hi hi'=>by rw [<- hf i hi'];exact a i hi) (fun i hi hi'=>by rw [<- hf i hi'];exact b i hi hi')
end
def le(lt:Value->Value->Bool)(p q:Keyed): Prop:=lt q.1 p.1=false
structure MI(lt:Value->Value->Bool)(la lb o:List Keyed)(ia ib:Nat): Prop where
 perm:o.Perm (la.take ia++lb.take ib)
 ord:o.Pairwise (le lt)
 ua:∀p∈o,∀q∈la.drop ia,le lt p q
 ub:∀p∈o,∀q∈lb.drop ib,le lt p q
section
variable{lt:Value->Value->Bool}{la lb o:List Keyed}{ia ib:Nat}
theorem MI.swap(h:MI lt la lb o ia ib): MI lt lb la o ib ia:=⟨h.perm.trans ud,h.ord,h.ub,h.ua⟩
theorem q9q(sa:la.Pairwise (le lt))(h:ia<la.length): ∀q∈la.drop (ia+1),le lt la[ia] q:=by
 have e:=pk h;have s2:=g2l (i:=ia) sa;rw [e] at s2;exact(g14.mp s2).1
theorem MI.step(m:MI lt la lb o ia ib)(sa:la.Pairwise (le lt))(h:ia<la.length)(hq:∀q∈lb.drop ib,le lt la[ia] q): MI lt la lb (o++[la[ia]]) (ia+1) ib:=by
 have e:=pk h;refine⟨?_,?_,?_,?_⟩
 ·rw [ph h]
  refine(m.perm.append_right _).trans ?_;rw [mr,mr];exact uw _ ud
 ·refine nz.mpr ⟨m.ord,g2v _ _,fun p hp q hq=>?_⟩
  rw [n8.mp hq];exact m.ua p hp _ (by rw [e];exact gq)
 ·intro p hp q hq'
  rcases nu.mp hp with hp|hp
  ·exact m.ua p hp q (by rw [e];exact gr _ hq')
  ·rw [n8.mp hp]
   exact q9q sa h q hq'
 ·intro p hp q hq'
  rcases nu.mp hp with hp|hp
  ·exact m.ub p hp q hq'
  ·rw [n8.mp hp]
   exact hq q hq'
theorem MI.steps(m:MI lt la lb o ia ib)(sa:la.Pairwise (le lt)): ∀(k:Nat),ia+k<=la.length->(∀i,(hi:i<k)->(hl:ia+i<la.length)->∀q∈lb.drop ib,le lt la[ia+i] q) ->
  MI lt la lb (o++(la.drop ia).take k) (ia+k) ib
 | 0,_,_=>by simpa using m
 | k+1,hk,hq=>by
  have m':=MI.steps m sa k (by omega) (fun i hi hl=>hq i (by omega) hl);have m2:=m'.step sa (by omega) (hq k (by omega) (by omega));have e:(la.drop ia).take (k+1)=(la.drop ia).take k++[la[ia+k]]:=by
   rw [ph (by simp;omega)];simp
  rw [e, <- mr];exact m2
theorem MI.fin(m:MI lt la lb o ia ib)(sa:la.Pairwise (le lt))(hb:lb.length<=ib): (o++la.drop ia).Perm (la++lb)/\(o++la.drop ia).Pairwise (le lt):=by
 refine⟨?_,nz.mpr ⟨m.ord,g2l sa,m.ua⟩⟩;have:=m.perm;rw [g0s hb] at this;refine(this.append_right _).trans ?_;rw [mr];refine(uw _ ud).trans ?_;rw [<- mr,p0]
theorem MI.last(m:MI lt la lb o ia ib)(sa:la.Pairwise (le lt))(sb:lb.Pairwise (le lt))(hl:∀q∈lb.drop ib,∀p∈la.drop ia,le lt q p):
  (o++lb.drop ib++la.drop ia).Perm (la++lb)/\(o++lb.drop ib++la.drop ia).Pairwise (le lt):=by
 refine⟨?_,nz.mpr ⟨nz.mpr ⟨m.ord,g2l sb,m.ub⟩,g2l sa,fun p hp q hq=>?_⟩⟩
 ·have:=m.perm
  refine((this.append_right _).append_right _).trans ?_;have e1:(la.take ia++lb.take ib++lb.drop ib++la.drop ia)=la.take ia++(lb++la.drop ia):=by
   rw [mr (la.take ia),p0,mr]
  rw [e1];refine(uw _ ud).trans ?_;rw [<- mr,p0]
 ·rcases nu.mp hp with hp|hp
  ·exact m.ua p hp q hq
  ·exact hl p hp q hq
end
abbrev qgu:Array Keyed->Array Keyed->StateT SortSt Sem (Array Keyed):=sortPriv% PySem.Builtin.mergeLo
abbrev q2a(g:Nat): StateT SortSt Sem Unit:=modify fun z=>SortSt.mk' (kindOf z) (arrOf z) (pendingOf z) g (failedOf z)
theorem bc{α β : Type}{m:StateT SortSt Sem α}{f g : α -> StateT SortSt Sem β}(h:∀x,f x=g x): m >>= f=m >>= g:=by rw [funext h]
theorem bc2{α β : Type}{m n:StateT SortSt Sem α}{f g : α -> StateT SortSt Sem β}(hm:m=n)(h:∀x,f x=g x): m >>= f=n >>= g:=by rw [hm,funext h]
theorem fc{β : Type}{r:Std.Legacy.Range}{b : β}{f g:Nat -> β -> StateT SortSt Sem (ForInStep β)}(h:∀x u,f x u=g x u): forIn r b f=forIn r b g:=by
 rw [show f=g from funext fun x=>funext fun u=>h x u]
abbrev TI:=Option (Array Keyed)×Array Keyed×Nat×Nat×Nat×Nat
abbrev TG:=Option (Array Keyed)×Array Keyed×Nat×Nat×Nat×Nat×Nat
abbrev TO:=Option (Array Keyed)×Array Keyed×Nat×Nat×Nat
section
variable(a b:Array Keyed)
def fiL(o:Array Keyed)(i j:Nat): Array Keyed:=o++a.extract i a.size++b.extract j b.size
def laL(o:Array Keyed)(i j:Nat): Array Keyed:=o++b.extract j b.size++a.extract i a.size
noncomputable def loI(g:Nat)(t:TI): StateT SortSt Sem (ForInStep TI):=do
 match <- lt' (<- elem' b t.2.2.2.1) (<- elem' a t.2.2.1) with
 | some wi=>
  if wi=true then
   let x <- elem' b t.2.2.2.1
   if(t.2.2.2.1+1==b.size)=true then pure (.done (some (fiL a b (t.2.1.push x) t.2.2.1 (t.2.2.2.1+1)),t.2.1.push x,t.2.2.1,t.2.2.2.1+1,0,t.2.2.2.2.2+1))
   else if t.2.2.2.2.2+1>=g then pure (.done (none,t.2.1.push x,t.2.2.1,t.2.2.2.1+1,0,t.2.2.2.2.2+1))
   else pure (.yield (none,t.2.1.push x,t.2.2.1,t.2.2.2.1+1,0,t.2.2.2.2.2+1))
  else
   let x <- elem' a t.2.2.1
   if(t.2.2.1+1+1==a.size)=true then pure (.done (some (laL a b (t.2.1.push x) (t.2.2.1+1) t.2.2.2.1),t.2.1.push x,t.2.2.1+1,t.2.2.2.1,t.2.2.2.2.1+1,0))
   else if t.2.2.2.2.1+1>=g then pure (.done (none,t.2.1.push x,t.2.2.1+1,t.2.2.2.1,t.2.2.2.2.1+1,0))
   else pure (.yield (none,t.2.1.push x,t.2.2.1+1,t.2.2.2.1,t.2.2.2.2.1+1,0))
 | _=>pure (.done (some (fiL a b t.2.1 t.2.2.1 t.2.2.2.1),t.2.1,t.2.2.1,t.2.2.2.1,t.2.2.2.2.1,t.2.2.2.2.2))
noncomputable def loD(o:Array Keyed)(i j g c d:Nat): StateT SortSt Sem (ForInStep TG):=do
 let x <- elem' a i
 if(i+1+1==a.size)=true then pure (.done (some (laL a b (o.push x) (i+1) j),o.push x,i+1,j,g,c,d))
 else if(decide (c<7)&&decide (d<7))=true then pure (.done (none,o.push x,i+1,j,g,c,d))
 else pure (.yield (none,o.push x,i+1,j,g,c,d))
noncomputable def loC(o:Array Keyed)(i j g c d:Nat): StateT SortSt Sem (ForInStep TG):=do
 let x <- elem' b j
 if(j+1==b.size)=true then pure (.done (some (fiL a b (o.push x) i (j+1)),o.push x,i,j+1,g,c,d))
 else do
  match <- q20 true (<- elem' a i) b (j+1) (b.size-(j+1)) 0 with
  | some k=>
   if k>0 then
    if(j+1+k==b.size)=true then pure (.done (some (fiL a b (o.push x++b.extract (j+1) (j+1+k)) i (j+1+k)),o.push x++b.extract (j+1) (j+1+k),i,j+1+k,g,c,k))
    else loD a b (o.push x++b.extract (j+1) (j+1+k)) i (j+1+k) g c k
   else loD a b (o.push x) i (j+1) g c k
  | _=>pure (.done (some (fiL a b (o.push x) i (j+1)),o.push x,i,j+1,g,c,d))
noncomputable def loB(o:Array Keyed)(i j g c d:Nat): StateT SortSt Sem (ForInStep TG):=do
 q2a g
 match <- q20 false (<- elem' b j) a i (a.size-i) 0 with
 | some k=>
  if k>0 then
   if(i+k+1==a.size)=true then pure (.done (some (laL a b (o++a.extract i (i+k)) (i+k) j),o++a.extract i (i+k),i+k,j,g,k,d))
   else if(i+k==a.size)=true then pure (.done (some (fiL a b (o++a.extract i (i+k)) (i+k) j),o++a.extract i (i+k),i+k,j,g,k,d))
   else loC a b (o++a.extract i (i+k)) (i+k) j g k d
  else loC a b o i j g k d
 | _=>pure (.done (some (fiL a b o i j),o,i,j,g,c,d))
noncomputable def loG(t:TG): StateT SortSt Sem (ForInStep TG):=
 if t.2.2.2.2.1>1 then loB a b t.2.1 t.2.2.1 t.2.2.2.1 (t.2.2.2.2.1-1) t.2.2.2.2.2.1 t.2.2.2.2.2.2 else loB a b t.2.1 t.2.2.1 t.2.2.2.1 t.2.2.2.2.1 t.2.2.2.2.2.1 t.2.2.2.2.2.2
noncomputable def loO(t:TO): StateT SortSt Sem (ForInStep TO):=do
 let u <- forIn [0:a.size+b.size] ((none,t.2.1,t.2.2.1,t.2.2.2.1,0,0):TI) fun _=>loI a b t.2.2.2.2
 match u.1 with
 | some r=>pure (.done (some r,u.2.1,u.2.2.1,u.2.2.2.1,t.2.2.2.2))
 | none=>do
  rule "list.sort.gallop"
  let v <- forIn [0:a.size+b.size] ((none,u.2.1,u.2.2.1,u.2.2.2.1,t.2.2.2.2+1,u.2.2.2.2.1,u.2.2.2.2.2):TG) fun _=>loG a b
  match v.1 with
  | some r=>pure (.done (some r,v.2.1,v.2.2.1,v.2.2.2.1,v.2.2.2.2.1))
  | none=>do
   q2a (v.2.2.2.2.1+1)
   pure (.yield (none,v.2.1,v.2.2.1,v.2.2.2.1,v.2.2.2.2.1+1))
end
theorem qlt(a b:Array Keyed): qgu a b=(do
 rule "list.sort.merge-lo"
 let all:=a.size+b.size
 let fi (o:Array Keyed) (i j:Nat):=o++a.extract i a.size++b.extract j b.size
 let la (o:Array Keyed) (i j:Nat):=o++b.extract j b.size++a.extract i a.size
 let mut o:Array Keyed:= #[<- elem' b 0]
 let mut i:=0
 let mut j:=1
 if j==b.size then return fi o i j
 if i+1==a.size then return la o i j
 let mut g:=gallopOf (<- get)
 for _ in [0:all] do
  let mut c:=0
  let mut d:=0
  for _ in [0:all] do
   let some wi <- lt' (<- elem' b j) (<- elem' a i)|return fi o i j
   if wi then
    o:=o.push (<- elem' b j);j:=j+1;d:=d+1;c:=0
    if j==b.size then return fi o i j
    if d>=g then break
   else
    o:=o.push (<- elem' a i);i:=i+1;c:=c+1;d:=0
    if i+1==a.size then return la o i j
    if c>=g then break
  rule "list.sort.gallop"
  g:=g+1
  for _ in [0:all] do
   if g>1 then g:=g-1
   q2a g
   let some k <- q20 false (<- elem' b j) a i (a.size-i) 0|return fi o i j
   c:=k
   if k>0 then
    o:=o++a.extract i (i+k);i:=i+k
    if i+1==a.size then return la o i j
    if i==a.size then return fi o i j
   o:=o.push (<- elem' b j);j:=j+1
   if j==b.size then return fi o i j
   let some k <- q20 true (<- elem' a i) b j (b.size-j) 0|return fi o i j
   d:=k
   if k>0 then
    o:=o++b.extract j (j+k);j:=j+k
    if j==b.size then return fi o i j
   o:=o.push (<- elem' a i);i:=i+1
   if i+1==a.size then return la o i j
   if c<7&&d<7 then break
  g:=g+1
  q2a g
 unsupported "internal:list.sort.merge-bound"):=rfl
theorem qoq (a b:Array Keyed):qgu a b=(do
 rule "list.sort.merge-lo"
 let x <- elem' b 0
 if(1==b.size)=true then return fiL a b #[x] 0 1
 if(0+1==a.size)=true then return laL a b #[x] 0 1
 let z <- get
 let t <- forIn [0:a.size+b.size] ((none, #[x],0,1,gallopOf z):TO) fun _=>loO a b
 match t.1 with
 | some r=>pure r
 | none=>unsupported "internal:list.sort.merge-bound"):=by
 rw [qlt];dsimp only;refine bc fun _=>bc fun x=>ux rfl (fun _=>rfl) fun _=>ux rfl (fun _=>rfl) fun _=>bc fun z=>bc2 (fc fun _ t=>?_) fun t=>?_
 ·unfold loO
  refine bc2 (fc fun _ u=>?_) fun u=>?_
  ·rfl
  ·cases e:u.1 with
   | some r=>rfl
   | none=>
    refine bc fun _=>bc2 (fc fun _ v=>?_) fun v=>?_
    ·unfold loG
     refine ux rfl (fun _=>?_) (fun _=>?_)
     all_goals
      unfold loB;refine bc fun _=>bc fun y=>bc fun k=>?_;cases k with
      | none=>rfl
      | some k=>
       dsimp only;refine ux rfl (fun _=>ux rfl (fun _=>rfl) fun _=>ux rfl (fun _=>rfl) fun _=>?_) (fun _=>?_)
       all_goals
        unfold loC;refine bc fun y=>ux rfl (fun _=>rfl) fun _=>bc fun y=>bc fun k=>?_;cases k with
        | none=>rfl
        | some k=>rfl
    ·cases e:v.1 <;> rfl
 ·cases e:t.1 <;> rfl
def Eg(st st':SortSt): Prop:=kindOf st'=kindOf st/\arrOf st'=arrOf st/\pendingOf st'=pendingOf st/\failedOf st'=failedOf st
theorem Eg.rfl'(st:SortSt): Eg st st:=⟨rfl,rfl,rfl,rfl⟩
theorem Eg.trans{a b c:SortSt}(h:Eg a b)(k:Eg b c): Eg a c:=⟨k.1.trans h.1,k.2.1.trans h.2.1,k.2.2.1.trans h.2.2.1,k.2.2.2.trans h.2.2.2⟩
section
variable{prog:Program}{w:World}{A:Around}{E:Value->Shared->Prop}{s:Shared}{κ : SortKind}{G:Value->Prop}{lt:Value->Value->Bool}
theorem q4n{st:SortSt}{g:Nat}{Q:Unit->SortSt->Prop}(h:∀st',Eg st st'->Q () st'): wpS (model prog w) A E s (q2a g) Q st:=g3i (h _ ⟨rfl,rfl,rfl,rfl⟩)
variable{a b:Array Keyed}
def Rm(lt:Value->Value->Bool)(a b r:Array Keyed): Prop:=r.toList.Perm (a.toList++b.toList)/\r.toList.Pairwise (le lt)
structure Mh(G:Value->Prop)(lt:Value->Value->Bool)(a b:Array Keyed): Prop where
 ga:∀p∈a.toList,G p.1
 gb:∀p∈b.toList,G p.1
 sa:a.toList.Pairwise (le lt)
 sb:b.toList.Pairwise (le lt)
 ha:1<=a.size
 hb:1<=b.size
 first:∀q∈a.toList,lt (b[0]'hb).1 q.1=true
 last:∀q∈b.toList,lt q.1 (a[a.size-1]'(by lia)).1=true
def OkM(lt:Value->Value->Bool)(a b:Array Keyed)(n:Nat)(x:Option (Array Keyed))(o:Array Keyed)(i j:Nat): Prop:=match x with
 | some r=>Rm lt a b r
 | none=>MI lt a.toList b.toList o.toList i j/\i+1<a.size/\j<b.size/\n<=i+j
theorem q4o(x:Array Keyed)(i:Nat): (x.extract i x.size).toList=x.toList.drop i:=by
 rw [g0l];show(x.toList.drop i).take (x.size-i)=_;exact g0s (by simp)
theorem fiR{o:Array Keyed}{i j:Nat}(m:MI lt a.toList b.toList o.toList i j)(sa:a.toList.Pairwise (le lt))(hj:j=b.size): Rm lt a b (fiL a b o i j):=by
 have:=m.fin sa (by simp;lia);unfold Rm fiL;subst hj;have e:(o++a.extract i a.size++b.extract b.size b.size).toList=o.toList++a.toList.drop i:=by
  rw [pf,pf,q4o,q4o];simp
 rw [e];exact this
theorem laR{o:Array Keyed}{i j:Nat}(H:Mh G lt a b)(C:Cmp prog w A s κ G lt)(m:MI lt a.toList b.toList o.toList i j)(hi:i+1=a.size): Rm lt a b (laL a b o i j):=by
 have e1:a.toList.drop i=[a[i]'(by lia)]:=by
  rw [pk (by simp;lia)];simp;lia
 have:=m.last H.sa H.sb (fun q hq p hp=>by
  rw [e1] at hp;rw [n8.mp hp];have h1:=H.last q (g3j hq);have e2:a[a.size-1]'(by have:=H.ha;lia)=a[i]'(by lia):=by congr 1;lia
  rw [e2] at h1;exact C.asy _ _ h1)
 unfold Rm laL;have e:(o++b.extract j b.size++a.extract i a.size).toList=o.toList++b.toList.drop j++a.toList.drop i:=by
  rw [pf,pf,q4o,q4o]
 rw [e];exact this
theorem qiz(C:Cmp prog w A s κ G lt){x y z:Keyed}(h:le lt x y)(k:le lt y z): le lt x z:=C.tra _ _ _ h k
theorem q6p(C:Cmp prog w A s κ G lt){l:List Keyed}(sl:l.Pairwise (le lt)){i:Nat}(hi:i<l.length){x:Keyed}(h:le lt x l[i]): ∀q∈l.drop i,le lt x q:=by
 intro q hq;rw [pk hi] at hq;rcases m6.mp hq with rfl|hq
 ·exact h
 ·exact qiz C h (q9q sl hi q hq)
theorem q8n{l:List Keyed}(C:Cmp prog w A s κ G lt)(hr:∀x:Keyed,lt x.1 x.1=false)(sl:l.Pairwise (le lt)){i j:Nat}(hij:i<=j)(hj:j<l.length): le lt (l[i]'(by lia)) l[j]:=by
 rcases g5p i j with h|h
 ·exact g4h.mp sl i j (by lia) hj h
 ·have:i=j:=by lia
  subst this;exact hr _
theorem Cmp.irr(C:Cmp prog w A s κ G lt)(x:Value): lt x x=false:=by
 cases e:lt x x
 ·rfl
 ·have:=C.asy _ _ e;rw [e] at this;cases this
theorem qor(C:Cmp prog w A s κ G lt)(H:Mh G lt a b){st:SortSt}{g n c d:Nat}{o:Array Keyed}{i j:Nat}(hk:kindOf st = κ)(h:OkM lt a b n none o i j):
  wpS (model prog w) A E s (loI a b g (none,o,i,j,c,d)) (fun r st'=>st'=st/\match r with
   | .done u=>OkM lt a b (n+1) u.1 u.2.1 u.2.2.1 u.2.2.2.1
   | .yield u=>u.1=none/\OkM lt a b (n+1) none u.2.1 u.2.2.1 u.2.2.2.1) st:=by
 obtain⟨m,hi,hj,hn⟩:=h;unfold loI;dsimp only;refine gw (ze hj (gw (ze (by lia) (gw (q3z (C:=C) hk (H.gb _ (by simp)) (H.ga _ (by simp)) ?_)))));dsimp only;cases e:lt (b[j]).1 (a[i]).1
 ·simp only [gm,p8]
  refine gw (ze (by lia) ?_);have m2:MI lt a.toList b.toList (o.push a[i]).toList (i+1) j:=by
   have:=m.step H.sa (by simp;lia) (q6p C H.sb (by simp;lia) (i:=j) (x:=a.toList[i]'(by simp;lia)) (by simpa [le] using e))
   simpa using this
  split
  ·rename_i e2
   exact mn ⟨rfl,laR H C m2 (by simpa using e2)⟩
  ·rename_i e2
   have e2':i+1+1≠a.size:=by simpa using e2
   split
   ·exact mn ⟨rfl,m2,by first|lia|(dsimp only;lia),hj,by first|lia|(dsimp only;lia)⟩
   ·exact mn ⟨rfl,rfl,m2,by first|lia|(dsimp only;lia),hj,by first|lia|(dsimp only;lia)⟩
 ·simp only [ny]
  refine gw (ze hj ?_);have m2:MI lt a.toList b.toList (o.push b[j]).toList i (j+1):=by
   have:=m.swap.step H.sb (by simp;lia) (q6p C H.sa (by simp;lia) (i:=i) (x:=b.toList[j]'(by simp;lia)) (by have:=C.asy _ _ e;simpa [le] using this))
   simpa using this.swap
  split
  ·rename_i e2
   exact mn ⟨rfl,fiR m2 H.sa (by simpa using e2)⟩
  ·rename_i e2
   have e2':j+1≠b.size:=by simpa using e2
   split
   ·exact mn ⟨rfl,m2,by first|lia|(dsimp only;lia),by first|lia|(dsimp only;lia),by first|lia|(dsimp only;lia)⟩
   ·exact mn ⟨rfl,rfl,m2,by first|lia|(dsimp only;lia),by first|lia|(dsimp only;lia),by first|lia|(dsimp only;lia)⟩
abbrev QG(lt:Value->Value->Bool)(a b:Array Keyed)(n:Nat)(st:SortSt): ForInStep TG->SortSt->Prop:=fun r st'=>Eg st st'/\match r with
   | .done u=>OkM lt a b n u.1 u.2.1 u.2.2.1 u.2.2.2.1
   | .yield u=>u.1=none/\OkM lt a b n none u.2.1 u.2.2.1 u.2.2.2.1
theorem qfk(C:Cmp prog w A s κ G lt)(H:Mh G lt a b){st:SortSt}{n g c d:Nat}{o:Array Keyed}{i j:Nat}(m:MI lt a.toList b.toList o.toList i j)(hi:i+1<a.size)(hj:j<b.size)(hn:n<=i+j)
  (hq:∀q∈b.toList.drop j,le lt a[i] q):wpS (model prog w) A E s (loD a b o i j g c d) (QG lt a b n st) st:=by
 unfold loD;refine gw (ze (by lia) ?_);have m2:MI lt a.toList b.toList (o.push a[i]).toList (i+1) j:=by
  have:=m.step H.sa (by simp;lia) (by simpa using hq)
  simpa using this
 split
 ·rename_i e2
  exact mn ⟨Eg.rfl' _,laR H C m2 (by simpa using e2)⟩
 ·rename_i e2
  have e2':i+1+1≠a.size:=by simpa using e2
  split
  ·exact mn ⟨Eg.rfl' _,m2,by first|lia|(dsimp only;lia),hj,by first|lia|(dsimp only;lia)⟩
  ·exact mn ⟨Eg.rfl' _,rfl,m2,by first|lia|(dsimp only;lia),hj,by first|lia|(dsimp only;lia)⟩
theorem qfl(C:Cmp prog w A s κ G lt)(H:Mh G lt a b){st:SortSt}{n g c d:Nat}{o:Array Keyed}{i j:Nat}(hk:kindOf st = κ)(m:MI lt a.toList b.toList o.toList i j)(hi:i+1<a.size)(hj:j<b.size)(hn:n<=i+j)
  (hq:∀q∈a.toList.drop i,le lt b[j] q):wpS (model prog w) A E s (loC a b o i j g c d) (QG lt a b n st) st:=by
 unfold loC;refine gw (ze hj ?_);have m2:MI lt a.toList b.toList (o.push b[j]).toList i (j+1):=by
  have:=m.swap.step H.sb (by simp;lia) (by simpa using hq)
  simpa using this.swap
 split
 ·rename_i e2
  exact mn ⟨Eg.rfl' _,fiR m2 H.sa (by simpa using e2)⟩
 ·rename_i e2
  have e2':j+1≠b.size:=by simpa using e2
  refine gw (ze (by lia) (gw (q2g C hk (H.ga _ (by simp)) H.gb (by lia) (by lia) (fun x y hxy hy h1=>?_) fun k hk1 k1 k2=>?_)))
  ·simp only [far1,ny] at h1 ⊢
   have hle:=q8n C (fun x=>C.irr _) H.sb (i:=j+1+x) (j:=j+1+y) (by lia) (by simp;lia);cases e3:lt (b[j+1+x]'(by lia)).1 (a[i]).1
   ·have:=C.tra _ _ _ e3 (by simpa [le] using hle)
    rw [this] at h1;cases h1
   ·rfl
  ·dsimp only
   have k1':∀x,(hx:x<k)->(hb:j+1+x<b.size)->lt (b[j+1+x]).1 (a[i]).1=true:=fun x hx hb=>by
    have:=k1 x hx (by lia);simpa [far1] using this
   have k2':∀q∈b.toList.drop (j+1+k),le lt a[i] q:=by
    intro q hq';obtain⟨y,hy,rfl⟩:=u9.mp hq';simp only [g0c,p7] at hy;have:=k2 (k+y) (by lia) (by lia);simp only [far1,ny] at this;simp only [List.getElem_drop,g3k,le];rw [<- this]
    congr 3;lia
   split
   ·have m3:MI lt a.toList b.toList (o.push b[j]++b.extract (j+1) (j+1+k)).toList i (j+1+k):=by
     have:=m2.swap.steps H.sb k (by simp;lia) (fun x hx hl=>q6p C H.sa (i:=i) (by simp;lia) (by
      have:=C.asy _ _ (k1' x hx (by simpa using hl))
      simpa [le] using this))
     have e4:(o.push b[j]++b.extract (j+1) (j+1+k)).toList=(o.push b[j]).toList++(b.toList.drop (j+1)).take k:=by
      rw [pf,g0l];simp [List.extract]
     rw [e4];exact this.swap
    split
    ·rename_i e5
     exact mn ⟨Eg.rfl' _,fiR m3 H.sa (by simpa using e5)⟩
    ·rename_i e5
     have e5':j+1+k≠b.size:=by simpa using e5
     exact qfk C H m3 hi (by lia) (by lia) k2'
   ·rename_i e5
    have:k=0:=by lia
    subst this;exact qfk C H m2 hi (by lia) (by lia) k2'
theorem qos(C:Cmp prog w A s κ G lt)(H:Mh G lt a b){st:SortSt}{n g c d:Nat}{o:Array Keyed}{i j:Nat}(hk:kindOf st = κ)(h:OkM lt a b n none o i j):
  wpS (model prog w) A E s (loB a b o i j g c d) (QG lt a b n st) st:=by
 obtain⟨m,hi,hj,hn⟩:=h;unfold loB;refine gw (q4n fun st' eg=>?_);have hk':kindOf st' = κ :=eg.1.trans hk;have up:∀r st'',QG lt a b n st' r st''->QG lt a b n st r st'':=fun r st'' q=>⟨eg.trans q.1,q.2⟩
 refine gw (ze hj (gw (q2g C hk' (H.gb _ (by simp)) H.ga (by lia) (by lia) (fun x y hxy hy h1=>?_) fun k hk1 k1 k2=>?_)))
 ·simp only [far1,gm,p8,g30] at h1 ⊢
  have hle:=q8n C (fun x=>C.irr _) H.sa (i:=i+x) (j:=i+y) (by lia) (by simp;lia);exact C.tra _ _ _ (by simpa [le] using hle) h1
 ·dsimp only
  have k1':∀x,(hx:x<k)->(hb:i+x<a.size)->lt (b[j]).1 (a[i+x]).1=false:=fun x hx hb=>by
   have:=k1 x hx (by lia);simpa [far1] using this
  have hlt:i+k<a.size:=by
   rcases g5p (i+k) a.size with h1|h1
   ·exact h1
   ·have h2:=k1' (a.size-1-i) (by lia) (by lia)
    have h3:=H.last b[j] (by simp);have e2:a[i+(a.size-1-i)]'(by lia)=a[a.size-1]'(by lia):=by congr 1;lia
    rw [e2,h3] at h2;cases h2
  have k2':∀q∈a.toList.drop (i+k),le lt b[j] q:=by
   intro q hq';obtain⟨y,hy,rfl⟩:=u9.mp hq';simp only [g0c,p7] at hy;have:=k2 (k+y) (by lia) (by lia);simp only [far1,gm,p8,g44] at this;have:=C.asy _ _ this;simp only [List.getElem_drop,g3k,le];rw [<- this]
   congr 3;lia
  split
  ·have m3:MI lt a.toList b.toList (o++a.extract i (i+k)).toList (i+k) j:=by
    have:=m.steps H.sa k (by simp;lia) (fun x hx hl=>q6p C H.sb (i:=j) (by simp;lia) (by
     have:=k1' x hx (by simpa using hl)
     simpa [le] using this))
    have e4:(o++a.extract i (i+k)).toList=o.toList++(a.toList.drop i).take k:=by
     rw [pf,g0l];simp [List.extract]
    rw [e4];exact this
   split
   ·rename_i e5
    exact mn (up _ _ ⟨Eg.rfl' _,laR H C m3 (by simpa using e5)⟩)
   ·rename_i e5
    have e5':i+k+1≠a.size:=by simpa using e5
    split
    ·rename_i e6
     have e6':i+k=a.size:=by simpa using e6
     lia
    ·exact uc (qfl C H hk' m3 (by lia) hj (by lia) k2') up
  ·rename_i e5
   have:k=0:=by lia
   subst this;exact uc (qfl C H hk' m hi hj (by lia) k2') up
theorem qot(C:Cmp prog w A s κ G lt)(H:Mh G lt a b){st:SortSt}{n:Nat}{t:TO}(ht:t.1=none)(hk:kindOf st = κ)(h:OkM lt a b n none t.2.1 t.2.2.1 t.2.2.2.1):
  wpS (model prog w) A E s (loO a b t) (fun r st'=>Eg st st'/\match r with
   | .done u=>(∃x,u.1=some x)/\OkM lt a b (n+1) u.1 u.2.1 u.2.2.1 u.2.2.2.1
   | .yield u=>u.1=none/\OkM lt a b (n+1) none u.2.1 u.2.2.1 u.2.2.2.1) st:=by
 unfold loO;refine gw (uc (uq (I:=fun x u st'=>st'=st/\u.1=none/\OkM lt a b (n+x) none u.2.1 u.2.2.1 u.2.2.2.1)
  (Q:=fun u st'=>st'=st/\OkM lt a b (n+1) u.1 u.2.1 u.2.2.1 u.2.2.2.1) ?_ ?_ ⟨rfl,rfl,h⟩) ?_)
 ·rintro x ⟨u1,o,i,j,c,d⟩ st' _ hx ⟨rfl,rfl,h'⟩
  refine uc (qor C H hk h') ?_
  rintro r st'' ⟨rfl,hr⟩
  cases r with
  | done u=>
   refine⟨rfl,?_⟩;dsimp only at hr ⊢;unfold OkM at hr ⊢
   split at hr
   ·exact hr
   ·exact⟨hr.1,hr.2.1,hr.2.2.1,by lia⟩
  | yield u=>exact⟨rfl,hr.1,hr.2.1,hr.2.2.1,hr.2.2.2.1,by have:=hr.2.2.2.2;lia⟩
 ·rintro u st' ⟨rfl,hu,m,h1,h2,h3⟩
  rw [hu];exact⟨rfl,m,h1,h2,by lia⟩
 ·rintro⟨u1,o,i,j,c,d⟩ st' ⟨rfl,hu⟩
  cases u1 with
  | some r=>exact mn ⟨Eg.rfl' _,⟨r,rfl⟩,hu⟩
  | none=>
   dsimp only at hu ⊢;refine gw (wpS_lift (g01 ⟨rfl,?_⟩));refine gw (uc (uq (I:=fun x v st''=>Eg st' st''/\v.1=none/\OkM lt a b (n+1) none v.2.1 v.2.2.1 v.2.2.2.1)
    (Q:=fun v st''=>Eg st' st''/\OkM lt a b (n+1) v.1 v.2.1 v.2.2.1 v.2.2.2.1) ?_ ?_ ⟨Eg.rfl' _,rfl,hu⟩) ?_)
   ·rintro x ⟨v1,o,i,j,g,c,d⟩ st'' _ hx ⟨eg,rfl,h'⟩
    unfold loG;dsimp only at h' ⊢;have key:∀g',wpS (model prog w) A E s (loB a b o i j g' c d) (fun r st3=>match r with
      | .done v=>Eg st' st3/\OkM lt a b (n+1) v.1 v.2.1 v.2.2.1 v.2.2.2.1
      | .yield v=>Eg st' st3/\v.1=none/\OkM lt a b (n+1) none v.2.1 v.2.2.1 v.2.2.2.1) st'':=by
     intro g';refine uc (qos C H (eg.1.trans hk) h') ?_
     rintro r st3 ⟨eg3,hr⟩
     cases r with
     | done v=>exact⟨eg.trans eg3,hr⟩
     | yield v=>exact⟨eg.trans eg3,hr⟩
    split
    ·exact uc (key _) fun r st3 hr=>by cases r <;> exact hr
    ·exact uc (key _) fun r st3 hr=>by cases r <;> exact hr
   ·rintro v st'' ⟨eg,hv,h'⟩
    rw [hv];exact⟨eg,h'⟩
   ·rintro⟨v1,o,i,j,g,c,d⟩ st'' ⟨eg,hv⟩
    cases v1 with
    | some r=>exact mn ⟨eg,⟨r,rfl⟩,hv⟩
    | none=>
     dsimp only at hv ⊢;exact gw (q4n fun st3 eg3=>mn ⟨eg.trans eg3,rfl,hv⟩)
theorem qou(C:Cmp prog w A s κ G lt)(H:Mh G lt a b){st:SortSt}{Q:Array Keyed->SortSt->Prop}(hk:kindOf st = κ)(h:∀r st',Eg st st'->Rm lt a b r->Q r st'):
  wpS (model prog w) A E s (qgu a b) Q st:=by
 rw [qoq];refine gw (wpS_lift (g01 ⟨rfl,?_⟩));have hb:=H.hb;have ha:=H.ha;refine gw (ze (by lia) ?_);have m:MI lt a.toList b.toList (#[b[0]]:Array Keyed).toList 0 1:=by
  refine⟨?_,?_,?_,?_⟩
  ·have e:b.toList.take 1=[b[0]]:=by
    rw [show(1:Nat)=0+1 from rfl,ph (by simp;lia)];simp
   rw [e];simp
  ·simp
  ·intro p hp q hq
   have:p=b[0]:=by simpa using hp
   subst this;exact C.asy _ _ (H.first q (by simpa using hq))
  ·intro p hp q hq
   have:p=b[0]:=by simpa using hp
   subst this;have:=q9q H.sb (ia:=0) (by simp;lia) q hq
   simpa using this
 split
 ·rename_i e
  exact mn (h _ _ (Eg.rfl' _) (fiR m H.sa (by simpa using e)))
 ·rename_i e
  have e':1≠b.size:=by simpa using e
  split
  ·rename_i e2
   exact mn (h _ _ (Eg.rfl' _) (laR H C m (by simpa using e2)))
  ·rename_i e2
   have e2':1≠a.size:=by simpa using e2
   refine gw (g2t ?_);refine gw (uc (uq (I:=fun x u st'=>Eg st st'/\u.1=none/\OkM lt a b x none u.2.1 u.2.2.1 u.2.2.2.1)
    (Q:=fun u st'=>Eg st st'/\∃r,u.1=some r/\Rm lt a b r) ?_ ?_ ⟨Eg.rfl' _,rfl,m,by first|lia|(dsimp only;lia),by first|lia|(dsimp only;lia),by first|lia|(dsimp only;lia)⟩) ?_)
   ·rintro x t st' _ hx ⟨eg,ht,h'⟩
    refine uc (qot C H ht (eg.1.trans hk) h') ?_
    rintro r st'' ⟨eg2,hr⟩
    cases r with
    | done u=>
     obtain⟨⟨r,hr1⟩,hr2⟩:=hr;rw [hr1] at hr2;exact⟨eg.trans eg2,r,hr1,hr2⟩
    | yield u=>exact⟨eg.trans eg2,hr.1,hr.2⟩
   ·rintro u st' ⟨eg,hu,_,h1,h2,h3⟩
    lia
   ·rintro⟨u1,u2⟩ st' ⟨eg,r,hr,hR⟩
    cases hr;exact mn (h _ _ eg hR)
end
structure MJ(lt:Value->Value->Bool)(la lb o:List Keyed)(ia ib:Nat): Prop where
 perm:o.Perm (la.drop ia++lb.drop ib)
 ord:o.Pairwise (fun p q=>le lt q p)
 ua:∀p∈o,∀q∈la.take ia,le lt q p
 ub:∀p∈o,∀q∈lb.take ib,le lt q p
section
variable{lt:Value->Value->Bool}{la lb o:List Keyed}{ia ib:Nat}
theorem MJ.swap(h:MJ lt la lb o ia ib): MJ lt lb la o ib ia:=⟨h.perm.trans ud,h.ord,h.ub,h.ua⟩
theorem q9r(sa:la.Pairwise (le lt))(h:ia<la.length): ∀q∈la.take ia,le lt q la[ia]:=by
 have s2:=g2m (i:=ia+1) sa;rw [ph h] at s2;intro q hq;exact(nz.mp s2).2.2 q hq _ (n8.mpr rfl)
theorem MJ.step(m:MJ lt la lb o (ia+1) ib)(sa:la.Pairwise (le lt))(h:ia<la.length)(hq:∀q∈lb.take ib,le lt q la[ia]): MJ lt la lb (o++[la[ia]]) ia ib:=by
 have e:=pk h;have e2:=ph h;refine⟨?_,?_,?_,?_⟩
 ·rw [e]
  refine(m.perm.append_right _).trans ?_;refine ud.trans ?_;exact g3u _
 ·refine nz.mpr ⟨m.ord,g2v _ _,fun p hp q hq=>?_⟩
  rw [n8.mp hq];exact m.ua p hp _ (by rw [e2];exact mw _ (n8.mpr rfl))
 ·intro p hp q hq'
  rcases nu.mp hp with hp|hp
  ·exact m.ua p hp q (by rw [e2];exact g23 _ hq')
  ·rw [n8.mp hp]
   exact q9r sa h q hq'
 ·intro p hp q hq'
  rcases nu.mp hp with hp|hp
  ·exact m.ub p hp q hq'
  ·rw [n8.mp hp]
   exact hq q hq'
theorem MJ.steps(m:MJ lt la lb o ia ib)(sa:la.Pairwise (le lt))(hia:ia<=la.length): ∀(k:Nat),k<=ia->(∀i,(h1:ia-k<=i)->(h2:i<ia)->∀q∈lb.take ib,le lt q (la[i]'(by lia))) ->
  MJ lt la lb (o++((la.drop (ia-k)).take k).reverse) (ia-k) ib
 | 0,_,_=>by simpa using m
 | k+1,hk,hq=>by
  have m':=MJ.steps m sa hia k (by lia) (fun i h1 h2=>hq i (by lia) h2);have e0:ia-k=ia-(k+1)+1:=by lia
  rw [e0] at m';have m2:=m'.step sa (by lia) (hq (ia-(k+1)) (by lia) (by lia));have e:((la.drop (ia-(k+1))).take (k+1)).reverse=((la.drop (ia-(k+1)+1)).take k).reverse++[la[ia-(k+1)]]:=by
   rw [pk (by lia),List.take_succ_cons,List.reverse_cons]
  rw [e, <- mr];exact m2
theorem qfm{o:List Keyed}(h:o.Pairwise (fun p q=>le lt q p)): o.reverse.Pairwise (le lt):=List.pairwise_reverse.mpr h
theorem MJ.fin(m:MJ lt la lb o ia ib)(sb:lb.Pairwise (le lt))(ha:ia=0): (lb.take ib++o.reverse).Perm (la++lb)/\(lb.take ib++o.reverse).Pairwise (le lt):=by
 subst ha;refine⟨?_,nz.mpr ⟨g2m sb,qfm m.ord,fun q hq p hp=>m.ub p (List.mem_reverse.mp hp) q hq⟩⟩;have:=m.perm;rw [g3s] at this;refine(uw _ ((List.reverse_perm _).trans this)).trans ?_;refine ud.trans ?_;rw [mr];refine uw _ ?_;exact ud.trans (by rw [p0])
theorem MJ.last(m:MJ lt la lb o ia ib)(sa:la.Pairwise (le lt))(sb:lb.Pairwise (le lt))(hl:∀q∈lb.take ib,∀p∈la.take ia,le lt q p):
  (lb.take ib++la.take ia++o.reverse).Perm (la++lb)/\(lb.take ib++la.take ia++o.reverse).Pairwise (le lt):=by
 refine⟨?_,nz.mpr ⟨nz.mpr ⟨g2m sb,g2m sa,hl⟩,qfm m.ord,fun q hq p hp=>?_⟩⟩
 ·refine(uw _ ((List.reverse_perm _).trans m.perm)).trans ?_
  rw [mr, <- mr (la.take ia),p0];refine(uw _ ud).trans ?_;rw [<- mr,p0];exact ud
 ·have hp':=List.mem_reverse.mp hp
  rcases nu.mp hq with hq|hq
  ·exact m.ub p hp' q hq
  ·exact m.ua p hp' q hq
end
abbrev qgv:Array Keyed->Array Keyed->StateT SortSt Sem (Array Keyed):=sortPriv% PySem.Builtin.mergeHi
abbrev TJI:=Option (Array Keyed)×Nat×Nat×Array Keyed×Nat×Nat
abbrev TJG:=Option (Array Keyed)×Nat×Nat×Array Keyed×Nat×Nat×Nat
abbrev TJO:=Option (Array Keyed)×Nat×Nat×Array Keyed×Nat
section
variable(a b:Array Keyed)
def fiH(o:Array Keyed)(i j:Nat): Array Keyed:=a.extract 0 i++b.extract 0 j++o.reverse
def laH(o:Array Keyed)(i j:Nat): Array Keyed:=b.extract 0 j++a.extract 0 i++o.reverse
noncomputable def hiI(g:Nat)(t:TJI): StateT SortSt Sem (ForInStep TJI):=do
 match <- lt' (<- elem' b (t.2.2.1-1)) (<- elem' a (t.2.1-1)) with
 | some wi=>
  if wi=true then
   let x <- elem' a (t.2.1-1)
   if(t.2.1-1==0)=true then pure (.done (some (fiH a b (t.2.2.2.1.push x) (t.2.1-1) t.2.2.1),t.2.1-1,t.2.2.1,t.2.2.2.1.push x,t.2.2.2.2.1+1,0))
   else if t.2.2.2.2.1+1>=g then pure (.done (none,t.2.1-1,t.2.2.1,t.2.2.2.1.push x,t.2.2.2.2.1+1,0))
   else pure (.yield (none,t.2.1-1,t.2.2.1,t.2.2.2.1.push x,t.2.2.2.2.1+1,0))
  else
   let x <- elem' b (t.2.2.1-1)
   if(t.2.2.1-1==1)=true then pure (.done (some (laH a b (t.2.2.2.1.push x) t.2.1 (t.2.2.1-1)),t.2.1,t.2.2.1-1,t.2.2.2.1.push x,0,t.2.2.2.2.2+1))
   else if t.2.2.2.2.2+1>=g then pure (.done (none,t.2.1,t.2.2.1-1,t.2.2.2.1.push x,0,t.2.2.2.2.2+1))
   else pure (.yield (none,t.2.1,t.2.2.1-1,t.2.2.2.1.push x,0,t.2.2.2.2.2+1))
 | _=>pure (.done (some (fiH a b t.2.2.2.1 t.2.1 t.2.2.1),t.2.1,t.2.2.1,t.2.2.2.1,t.2.2.2.2.1,t.2.2.2.2.2))
noncomputable def hiD(i j:Nat)(o:Array Keyed)(g c d:Nat): StateT SortSt Sem (ForInStep TJG):=do
 let x <- elem' a (i-1)
 if(i-1==0)=true then pure (.done (some (fiH a b (o.push x) (i-1) j),i-1,j,o.push x,g,c,d))
 else if(decide (c<7)&&decide (d<7))=true then pure (.done (none,i-1,j,o.push x,g,c,d))
 else pure (.yield (none,i-1,j,o.push x,g,c,d))
noncomputable def hiC(i j:Nat)(o:Array Keyed)(g c d:Nat): StateT SortSt Sem (ForInStep TJG):=do
 let x <- elem' b (j-1)
 if(j-1==1)=true then pure (.done (some (laH a b (o.push x) i (j-1)),i,j-1,o.push x,g,c,d))
 else do
  match <- q20 true (<- elem' a (i-1)) b 0 (j-1) (j-1-1) with
  | some z=>
   if j-1-z>0 then
    if(z==1)=true then pure (.done (some (laH a b (o.push x++(b.extract z (j-1)).reverse) i z),i,z,o.push x++(b.extract z (j-1)).reverse,g,c,j-1-z))
    else if(z==0)=true then pure (.done (some (fiH a b (o.push x++(b.extract z (j-1)).reverse) i z),i,z,o.push x++(b.extract z (j-1)).reverse,g,c,j-1-z))
    else hiD a b i z (o.push x++(b.extract z (j-1)).reverse) g c (j-1-z)
   else hiD a b i (j-1) (o.push x) g c (j-1-z)
  | _=>pure (.done (some (fiH a b (o.push x) i (j-1)),i,j-1,o.push x,g,c,d))
noncomputable def hiB(i j:Nat)(o:Array Keyed)(g c d:Nat): StateT SortSt Sem (ForInStep TJG):=do
 q2a g
 match <- q20 false (<- elem' b (j-1)) a 0 i (i-1) with
 | some z=>
  if i-z>0 then
   if(z==0)=true then pure (.done (some (fiH a b (o++(a.extract z i).reverse) z j),z,j,o++(a.extract z i).reverse,g,i-z,d))
   else hiC a b z j (o++(a.extract z i).reverse) g (i-z) d
  else hiC a b i j o g (i-z) d
 | _=>pure (.done (some (fiH a b o i j),i,j,o,g,c,d))
noncomputable def hiG(t:TJG): StateT SortSt Sem (ForInStep TJG):=
 if t.2.2.2.2.1>1 then hiB a b t.2.1 t.2.2.1 t.2.2.2.1 (t.2.2.2.2.1-1) t.2.2.2.2.2.1 t.2.2.2.2.2.2 else hiB a b t.2.1 t.2.2.1 t.2.2.2.1 t.2.2.2.2.1 t.2.2.2.2.2.1 t.2.2.2.2.2.2
noncomputable def hiO(t:TJO): StateT SortSt Sem (ForInStep TJO):=do
 let u <- forIn [0:a.size+b.size] ((none,t.2.1,t.2.2.1,t.2.2.2.1,0,0):TJI) fun _=>hiI a b t.2.2.2.2
 match u.1 with
 | some r=>pure (.done (some r,u.2.1,u.2.2.1,u.2.2.2.1,t.2.2.2.2))
 | none=>do
  rule "list.sort.gallop"
  let v <- forIn [0:a.size+b.size] ((none,u.2.1,u.2.2.1,u.2.2.2.1,t.2.2.2.2+1,u.2.2.2.2.1,u.2.2.2.2.2):TJG) fun _=>hiG a b
  match v.1 with
  | some r=>pure (.done (some r,v.2.1,v.2.2.1,v.2.2.2.1,v.2.2.2.2.1))
  | none=>do
   q2a (v.2.2.2.2.1+1)
   pure (.yield (none,v.2.1,v.2.2.1,v.2.2.2.1,v.2.2.2.2.1+1))
end
theorem qlu(a b:Array Keyed): qgv a b=(do
 rule "list.sort.merge-hi"
 let all:=a.size+b.size
 let fi (o:Array Keyed) (i j:Nat):=a.extract 0 i++b.extract 0 j++o.reverse
 let la (o:Array Keyed) (i j:Nat):=b.extract 0 j++a.extract 0 i++o.reverse
 let mut i:=a.size-1
 let mut j:=b.size
 let mut o:Array Keyed:= #[<- elem' a i]
 if i==0 then return fi o i j
 if j==1 then return la o i j
 let mut g:=gallopOf (<- get)
 for _ in [0:all] do
  let mut c:=0
  let mut d:=0
  for _ in [0:all] do
   let some wi <- lt' (<- elem' b (j-1)) (<- elem' a (i-1))|return fi o i j
   if wi then
    i:=i-1;o:=o.push (<- elem' a i);c:=c+1;d:=0
    if i==0 then return fi o i j
    if c>=g then break
   else
    j:=j-1;o:=o.push (<- elem' b j);d:=d+1;c:=0
    if j==1 then return la o i j
    if d>=g then break
  rule "list.sort.gallop"
  g:=g+1
  for _ in [0:all] do
   if g>1 then g:=g-1
   q2a g
   let some z <- q20 false (<- elem' b (j-1)) a 0 i (i-1)|return fi o i j
   let k:=i-z
   c:=k
   if k>0 then
    o:=o++(a.extract z i).reverse;i:=z
    if i==0 then return fi o i j
   j:=j-1;o:=o.push (<- elem' b j)
   if j==1 then return la o i j
   let some z <- q20 true (<- elem' a (i-1)) b 0 j (j-1)|return fi o i j
   let k:=j-z
   d:=k
   if k>0 then
    o:=o++(b.extract z j).reverse;j:=z
    if j==1 then return la o i j
    if j==0 then return fi o i j
   i:=i-1;o:=o.push (<- elem' a i)
   if i==0 then return fi o i j
   if c<7&&d<7 then break
  g:=g+1
  q2a g
 unsupported "internal:list.sort.merge-bound"):=rfl
theorem qov (a b:Array Keyed):qgv a b=(do
 rule "list.sort.merge-hi"
 let x <- elem' a (a.size-1)
 if(a.size-1==0)=true then return fiH a b #[x] (a.size-1) b.size
 if(b.size==1)=true then return laH a b #[x] (a.size-1) b.size
 let z <- get
 let t <- forIn [0:a.size+b.size] ((none,a.size-1,b.size, #[x],gallopOf z):TJO) fun _=>hiO a b
 match t.1 with
 | some r=>pure r
 | none=>unsupported "internal:list.sort.merge-bound"):=by
 rw [qlu];dsimp only;refine bc fun _=>bc fun x=>ux rfl (fun _=>rfl) fun _=>ux rfl (fun _=>rfl) fun _=>bc fun z=>bc2 (fc fun _ t=>?_) fun t=>?_
 ·unfold hiO
  refine bc2 (fc fun _ u=>?_) fun u=>?_
  ·rfl
  ·cases e:u.1 with
   | some r=>rfl
   | none=>
    refine bc fun _=>bc2 (fc fun _ v=>?_) fun v=>?_
    ·unfold hiG
     refine ux rfl (fun _=>?_) (fun _=>?_)
     all_goals
      unfold hiB;refine bc fun _=>bc fun y=>bc fun k=>?_;cases k with
      | none=>rfl
      | some k=>
       dsimp only;refine ux rfl (fun _=>ux rfl (fun _=>rfl) fun _=>?_) (fun _=>?_)
       all_goals
        unfold hiC;refine bc fun y=>ux rfl (fun _=>rfl) fun _=>bc fun y=>bc fun k=>?_;cases k with
        | none=>rfl
        | some k=>rfl
    ·cases e:v.1 <;> rfl
 ·cases e:t.1 <;> rfl
section
variable{prog:Program}{w:World}{A:Around}{E:Value->Shared->Prop}{s:Shared}{κ : SortKind}{G:Value->Prop}{lt:Value->Value->Bool}{a b:Array Keyed}
def OkH(lt:Value->Value->Bool)(a b:Array Keyed)(n:Nat)(x:Option (Array Keyed))(i j:Nat)(o:Array Keyed): Prop:=match x with
 | some r=>Rm lt a b r
 | none=>MJ lt a.toList b.toList o.toList i j/\1<=i/\2<=j/\i<=a.size/\j<=b.size/\i+j+n<=a.size+b.size
theorem q4p(x:Array Keyed)(i:Nat): (x.extract 0 i).toList=x.toList.take i:=by
 rw [g0l];show(x.toList.drop 0).take (i-0)=_;simp
theorem qfn(x:Array Keyed)(i j:Nat): ((x.extract i j).reverse).toList=((x.toList.drop i).take (j-i)).reverse:=by
 rw [g3l,g0l]
theorem fhR{o:Array Keyed}{i j:Nat}(m:MJ lt a.toList b.toList o.toList i j)(sb:b.toList.Pairwise (le lt))(hi:i=0): Rm lt a b (fiH a b o i j):=by
 have:=m.fin sb hi;subst hi;unfold Rm fiH;have e:(a.extract 0 0++b.extract 0 j++o.reverse).toList=b.toList.take j++o.toList.reverse:=by
  rw [pf,pf,q4p,q4p,g3l]
  rfl
 rw [e];exact this
theorem lhR{o:Array Keyed}{i j:Nat}(H:Mh G lt a b)(C:Cmp prog w A s κ G lt)(m:MJ lt a.toList b.toList o.toList i j)(hj:j=1): Rm lt a b (laH a b o i j):=by
 have hb:=H.hb;have e1:b.toList.take 1=[b[0]]:=by
  rw [show(1:Nat)=0+1 from rfl,ph (by simp;lia)];simp
 subst hj;have:=m.last H.sa H.sb (fun q hq p hp=>by
  rw [e1] at hq;rw [n8.mp hq];exact C.asy _ _ (H.first p (g1f hp)))
 unfold Rm laH;have e:(b.extract 0 1++a.extract 0 i++o.reverse).toList=b.toList.take 1++a.toList.take i++o.toList.reverse:=by
  rw [pf,pf,q4p,q4p,g3l]
 rw [e];exact this
theorem qow(C:Cmp prog w A s κ G lt){l:List Keyed}(sl:l.Pairwise (le lt)){i:Nat}(hi:i<l.length){x:Keyed}(h:le lt l[i] x): ∀q∈l.take (i+1),le lt q x:=by
 intro q hq;rw [ph hi] at hq;rcases nu.mp hq with hq|hq
 ·exact qiz C (q9r sl hi q hq) h
 ·rw [n8.mp hq];exact h
theorem MJ.stepA(H:Mh G lt a b){o:Array Keyed}{i j:Nat}(m:MJ lt a.toList b.toList o.toList i j)(h1:1<=i)(h2:i<=a.size)(hq:∀q∈b.toList.take j,le lt q (a[i-1]'(by lia))):
  MJ lt a.toList b.toList (o.push (a[i-1]'(by lia))).toList (i-1) j:=by
 obtain⟨i,rfl⟩:∃i',i=i'+1:=⟨i-1,by lia⟩
 have:=m.step H.sa (by simp;lia) (by simpa using hq)
 simpa using this
theorem MJ.stepB(H:Mh G lt a b){o:Array Keyed}{i j:Nat}(m:MJ lt a.toList b.toList o.toList i j)(h1:1<=j)(h2:j<=b.size)(hq:∀q∈a.toList.take i,le lt q (b[j-1]'(by lia))):
  MJ lt a.toList b.toList (o.push (b[j-1]'(by lia))).toList i (j-1):=by
 obtain⟨j,rfl⟩:∃j',j=j'+1:=⟨j-1,by lia⟩
 have:=m.swap.step H.sb (by simp;lia) (by simpa using hq)
 simpa using this.swap
theorem q8o(C:Cmp prog w A s κ G lt){l:Array Keyed}(sl:l.toList.Pairwise (le lt)){i:Nat}(h1:1<=i)(hi:i<=l.size){x:Keyed}(h:le lt (l[i-1]'(by lia)) x): ∀q∈l.toList.take i,le lt q x:=by
 obtain⟨i,rfl⟩:∃i',i=i'+1:=⟨i-1,by lia⟩
 exact qow C sl (by simp;lia) (by simpa using h)
theorem qox(C:Cmp prog w A s κ G lt)(H:Mh G lt a b){st:SortSt}{g n c d:Nat}{o:Array Keyed}{i j:Nat}(hk:kindOf st = κ)(h:OkH lt a b n none i j o):
  wpS (model prog w) A E s (hiI a b g (none,i,j,o,c,d)) (fun r st'=>st'=st/\match r with
   | .done u=>OkH lt a b (n+1) u.1 u.2.1 u.2.2.1 u.2.2.2.1
   | .yield u=>u.1=none/\OkH lt a b (n+1) none u.2.1 u.2.2.1 u.2.2.2.1) st:=by
 obtain⟨m,h1,h2,h3,h4,h5⟩:=h;unfold hiI;dsimp only;refine gw (ze (by lia) (gw (ze (by lia) (gw (q3z (C:=C) hk (H.gb _ (by simp)) (H.ga _ (by simp)) ?_)))));dsimp only;cases e:lt (b[j-1]).1 (a[i-1]).1
 ·simp only [gm,p8]
  refine gw (ze (by lia) ?_);have m2:=m.stepB H (by lia) h4 (q8o C H.sa h1 h3 e)
  split
  ·rename_i e2
   exact mn ⟨rfl,lhR H C m2 (by simpa using e2)⟩
  ·rename_i e2
   have e2':j-1≠1:=by simpa using e2
   split
   ·exact mn ⟨rfl,m2,h1,by first|lia|(dsimp only;lia),h3,by first|lia|(dsimp only;lia),by first|lia|(dsimp only;lia)⟩
   ·exact mn ⟨rfl,rfl,m2,h1,by first|lia|(dsimp only;lia),h3,by first|lia|(dsimp only;lia),by first|lia|(dsimp only;lia)⟩
 ·simp only [ny]
  refine gw (ze (by lia) ?_);have m2:=m.stepA H h1 h3 (q8o C H.sb (by lia) h4 (C.asy _ _ e))
  split
  ·rename_i e2
   exact mn ⟨rfl,fhR m2 H.sb (by simpa using e2)⟩
  ·rename_i e2
   have e2':i-1≠0:=by simpa using e2
   split
   ·exact mn ⟨rfl,m2,by first|lia|(dsimp only;lia),h2,by first|lia|(dsimp only;lia),h4,by first|lia|(dsimp only;lia)⟩
   ·exact mn ⟨rfl,rfl,m2,by first|lia|(dsimp only;lia),h2,by first|lia|(dsimp only;lia),h4,by first|lia|(dsimp only;lia)⟩
abbrev QH(lt:Value->Value->Bool)(a b:Array Keyed)(n:Nat)(st:SortSt): ForInStep TJG->SortSt->Prop:=fun r st'=>Eg st st'/\match r with
   | .done u=>OkH lt a b n u.1 u.2.1 u.2.2.1 u.2.2.2.1
   | .yield u=>u.1=none/\OkH lt a b n none u.2.1 u.2.2.1 u.2.2.2.1
theorem qfo(C:Cmp prog w A s κ G lt)(H:Mh G lt a b){st:SortSt}{n g c d:Nat}{o:Array Keyed}{i j:Nat}(m:MJ lt a.toList b.toList o.toList i j)(h1:1<=i)(h2:2<=j)(h3:i<=a.size)(h4:j<=b.size)(h5:i+j+n<=a.size+b.size)
  (hq:∀q∈b.toList.take j,le lt q (a[i-1]'(by lia))):wpS (model prog w) A E s (hiD a b i j o g c d) (QH lt a b n st) st:=by
 unfold hiD;refine gw (ze (by lia) ?_);have m2:=m.stepA H h1 h3 hq
 split
 ·rename_i e2
  exact mn ⟨Eg.rfl' _,fhR m2 H.sb (by simpa using e2)⟩
 ·rename_i e2
  have e2':i-1≠0:=by simpa using e2
  split
  ·exact mn ⟨Eg.rfl' _,m2,by first|lia|(dsimp only;lia),h2,by first|lia|(dsimp only;lia),h4,by first|lia|(dsimp only;lia)⟩
  ·exact mn ⟨Eg.rfl' _,rfl,m2,by first|lia|(dsimp only;lia),h2,by first|lia|(dsimp only;lia),h4,by first|lia|(dsimp only;lia)⟩
theorem MJ.stepsA(H:Mh G lt a b){o:Array Keyed}{i j z:Nat}(m:MJ lt a.toList b.toList o.toList i j)(hz:z<=i)(h3:i<=a.size)(hq:∀x,(h1:z<=x)->(h2:x<i)->∀q∈b.toList.take j,le lt q (a[x]'(by lia))):
  MJ lt a.toList b.toList (o++(a.extract z i).reverse).toList z j:=by
 have:=m.steps H.sa (by simpa using h3) (i-z) (by lia) (fun x x1 x2=>by simpa using hq x (by lia) x2);rw [show i-(i-z)=z by lia] at this;rw [pf,qfn];exact this
theorem MJ.stepsB(H:Mh G lt a b){o:Array Keyed}{i j z:Nat}(m:MJ lt a.toList b.toList o.toList i j)(hz:z<=j)(h3:j<=b.size)(hq:∀x,(h1:z<=x)->(h2:x<j)->∀q∈a.toList.take i,le lt q (b[x]'(by lia))):
  MJ lt a.toList b.toList (o++(b.extract z j).reverse).toList i z:=by
 have:=m.swap.steps H.sb (by simpa using h3) (j-z) (by lia) (fun x x1 x2=>by simpa using hq x (by lia) x2);rw [show j-(j-z)=z by lia] at this;rw [pf,qfn];exact this.swap
theorem qfp(C:Cmp prog w A s κ G lt)(H:Mh G lt a b){st:SortSt}{n g c d:Nat}{o:Array Keyed}{i j:Nat}(hk:kindOf st = κ)(m:MJ lt a.toList b.toList o.toList i j)(h1:1<=i)(h2:2<=j)(h3:i<=a.size)(h4:j<=b.size)(h5:i+j+n<=a.size+b.size)
  (hq:∀q∈a.toList.take i,le lt q (b[j-1]'(by lia))):wpS (model prog w) A E s (hiC a b i j o g c d) (QH lt a b n st) st:=by
 unfold hiC;refine gw (ze (by lia) ?_);have m2:=m.stepB H (by lia) h4 hq
 split
 ·rename_i e2
  exact mn ⟨Eg.rfl' _,lhR H C m2 (by simpa using e2)⟩
 ·rename_i e2
  have e2':j-1≠1:=by simpa using e2
  refine gw (ze (by lia) (gw (q2g C hk (H.ga _ (by simp)) H.gb (by lia) (by lia) (fun x y hxy hy k1=>?_) fun z hz k1 k2=>?_)))
  ·simp only [far1,ny] at k1 ⊢
   have hle:le lt (b[0+x]'(by lia)) (b[0+y]'(by lia)):=q8n C (fun x=>C.irr _) H.sb (i:=0+x) (j:=0+y) (by lia) (by simp;lia);cases e3:lt (b[0+x]'(by lia)).1 (a[i-1]).1
   ·have:=C.tra _ _ _ e3 hle
    rw [this] at k1;cases k1
   ·rfl
  ·dsimp only
   have k1':∀x,(hx:x<z)->lt (b[x]'(by lia)).1 (a[i-1]).1=true:=fun x hx=>by
    have:=k1 x hx (by lia);simpa [far1] using this
   have k2':∀x,(hx:z<=x)->(hx2:x<j-1)->lt (b[x]'(by lia)).1 (a[i-1]).1=false:=fun x hx hx2=>by
    have:=k2 x hx hx2;simpa [far1] using this
   have hz0:1<=z:=by
    rcases g5p 0 z with h|h
    ·exact h
    ·have:=k2' 0 (by lia) (by lia)
     rw [H.first _ (by simp)] at this;cases this
   have k3:∀q∈b.toList.take z,le lt q (a[i-1]):=by
    intro q hq';obtain⟨y,hy,rfl⟩:=u9.mp hq';simp only [tx,p7] at hy;have:=C.asy _ _ (k1' y (by lia))
    simpa [le] using this
   split
   ·have m3:=m2.stepsB H (z:=z) (by lia) (by lia) (fun x x1 x2=>q8o C H.sa h1 h3 (k2' x x1 x2))
    split
    ·rename_i e5
     exact mn ⟨Eg.rfl' _,lhR H C m3 (by simpa using e5)⟩
    ·rename_i e5
     have e5':z≠1:=by simpa using e5
     split
     ·rename_i e6
      have e6':z=0:=by simpa using e6
      lia
     ·exact qfo C H m3 h1 (by lia) h3 (by lia) (by lia) k3
   ·have:z=j-1:=by lia
    subst this;exact qfo C H m2 h1 (by lia) h3 (by lia) (by lia) k3
theorem qoy(C:Cmp prog w A s κ G lt)(H:Mh G lt a b){st:SortSt}{n g c d:Nat}{o:Array Keyed}{i j:Nat}(hk:kindOf st = κ)(h:OkH lt a b n none i j o):
  wpS (model prog w) A E s (hiB a b i j o g c d) (QH lt a b n st) st:=by
 obtain⟨m,h1,h2,h3,h4,h5⟩:=h;unfold hiB;refine gw (q4n fun st' eg=>?_);have hk':kindOf st' = κ :=eg.1.trans hk;have up:∀r st'',QH lt a b n st' r st''->QH lt a b n st r st'':=fun r st'' q=>⟨eg.trans q.1,q.2⟩
 refine gw (ze (by lia) (gw (q2g C hk' (H.gb _ (by simp)) H.ga (by lia) (by lia) (fun x y hxy hy k1=>?_) fun z hz k1 k2=>?_)))
 ·simp only [far1,gm,p8,g30] at k1 ⊢
  have hle:=q8n C (fun x=>C.irr _) H.sa (i:=0+x) (j:=0+y) (by lia) (by simp;lia);exact C.tra _ _ _ (by simpa [le] using hle) k1
 ·dsimp only
  have k1':∀x,(hx:x<z)->lt (b[j-1]).1 (a[x]'(by lia)).1=false:=fun x hx=>by
   have:=k1 x hx (by lia);simpa [far1] using this
  have k2':∀x,(hx:z<=x)->(hx2:x<i)->lt (b[j-1]).1 (a[x]'(by lia)).1=true:=fun x hx hx2=>by
   have:=k2 x hx hx2;simpa [far1] using this
  have k3:∀q∈a.toList.take z,le lt q (b[j-1]):=by
   intro q hq';obtain⟨y,hy,rfl⟩:=u9.mp hq';simp only [tx,p7] at hy;have:=k1' y (by lia)
   simpa [le] using this
  split
  ·have m3:=m.stepsA H (z:=z) (by lia) h3 (fun x x1 x2=>q8o C H.sb (by lia) h4 (C.asy _ _ (k2' x x1 x2)))
   split
   ·rename_i e5
    exact mn (up _ _ ⟨Eg.rfl' _,fhR m3 H.sb (by simpa using e5)⟩)
   ·rename_i e5
    have e5':z≠0:=by simpa using e5
    exact uc (qfp C H hk' m3 (by lia) h2 (by lia) h4 (by lia) k3) up
  ·have:z=i:=by lia
   subst this;exact uc (qfp C H hk' m h1 h2 h3 h4 h5 k3) up
theorem qoz(C:Cmp prog w A s κ G lt)(H:Mh G lt a b){st:SortSt}{n:Nat}{t:TJO}(ht:t.1=none)(hk:kindOf st = κ)(h:OkH lt a b n none t.2.1 t.2.2.1 t.2.2.2.1):
  wpS (model prog w) A E s (hiO a b t) (fun r st'=>Eg st st'/\match r with
   | .done u=>(∃x,u.1=some x)/\OkH lt a b (n+1) u.1 u.2.1 u.2.2.1 u.2.2.2.1
   | .yield u=>u.1=none/\OkH lt a b (n+1) none u.2.1 u.2.2.1 u.2.2.2.1) st:=by
 unfold hiO;refine gw (uc (uq (I:=fun x u st'=>st'=st/\u.1=none/\OkH lt a b (n+x) none u.2.1 u.2.2.1 u.2.2.2.1)
  (Q:=fun u st'=>st'=st/\OkH lt a b (n+1) u.1 u.2.1 u.2.2.1 u.2.2.2.1) ?_ ?_ ⟨rfl,rfl,h⟩) ?_)
 ·rintro x ⟨u1,i,j,o,c,d⟩ st' _ hx ⟨rfl,rfl,h'⟩
  refine uc (qox C H hk h') ?_
  rintro r st'' ⟨rfl,hr⟩
  cases r with
  | done u=>
   refine⟨rfl,?_⟩;dsimp only at hr ⊢;unfold OkH at hr ⊢
   split at hr
   ·exact hr
   ·exact⟨hr.1,hr.2.1,hr.2.2.1,hr.2.2.2.1,hr.2.2.2.2.1,by lia⟩
  | yield u=>exact⟨rfl,hr.1,hr.2.1,hr.2.2.1,hr.2.2.2.1,hr.2.2.2.2.1,hr.2.2.2.2.2.1,by have:=hr.2.2.2.2.2.2;lia⟩
 ·rintro u st' ⟨rfl,hu,m,h1,h2,h3,h4,h5⟩
  rw [hu];exact⟨rfl,m,h1,h2,h3,h4,by lia⟩
 ·rintro⟨u1,i,j,o,c,d⟩ st' ⟨rfl,hu⟩
  cases u1 with
  | some r=>exact mn ⟨Eg.rfl' _,⟨r,rfl⟩,hu⟩
  | none=>
   dsimp only at hu ⊢;refine gw (wpS_lift (g01 ⟨rfl,?_⟩));refine gw (uc (uq (I:=fun x v st''=>Eg st' st''/\v.1=none/\OkH lt a b (n+1) none v.2.1 v.2.2.1 v.2.2.2.1)
    (Q:=fun v st''=>Eg st' st''/\OkH lt a b (n+1) v.1 v.2.1 v.2.2.1 v.2.2.2.1) ?_ ?_ ⟨Eg.rfl' _,rfl,hu⟩) ?_)
   ·rintro x ⟨v1,i,j,o,g,c,d⟩ st'' _ hx ⟨eg,rfl,h'⟩
    unfold hiG;dsimp only at h' ⊢;have key:∀g',wpS (model prog w) A E s (hiB a b i j o g' c d) (fun r st3=>match r with
      | .done v=>Eg st' st3/\OkH lt a b (n+1) v.1 v.2.1 v.2.2.1 v.2.2.2.1
      | .yield v=>Eg st' st3/\v.1=none/\OkH lt a b (n+1) none v.2.1 v.2.2.1 v.2.2.2.1) st'':=by
     intro g';refine uc (qoy C H (eg.1.trans hk) h') ?_
     rintro r st3 ⟨eg3,hr⟩
     cases r with
     | done v=>exact⟨eg.trans eg3,hr⟩
     | yield v=>exact⟨eg.trans eg3,hr⟩
    split
    ·exact uc (key _) fun r st3 hr=>by cases r <;> exact hr
    ·exact uc (key _) fun r st3 hr=>by cases r <;> exact hr
   ·rintro v st'' ⟨eg,hv,h'⟩
    rw [hv];exact⟨eg,h'⟩
   ·rintro⟨v1,i,j,o,g,c,d⟩ st'' ⟨eg,hv⟩
    cases v1 with
    | some r=>exact mn ⟨eg,⟨r,rfl⟩,hv⟩
    | none=>
     dsimp only at hv ⊢;exact gw (q4n fun st3 eg3=>mn ⟨eg.trans eg3,rfl,hv⟩)
theorem qp0(C:Cmp prog w A s κ G lt)(H:Mh G lt a b){st:SortSt}{Q:Array Keyed->SortSt->Prop}(hk:kindOf st = κ)(h:∀r st',Eg st st'->Rm lt a b r->Q r st'):
  wpS (model prog w) A E s (qgv a b) Q st:=by
 rw [qov];refine gw (wpS_lift (g01 ⟨rfl,?_⟩));have hb:=H.hb;have ha:=H.ha;refine gw (ze (by lia) ?_);have m:MJ lt a.toList b.toList (#[a[a.size-1]]:Array Keyed).toList (a.size-1) b.size:=by
  refine⟨?_,?_,?_,?_⟩
  ·rw [pk (by simp;lia),g5b (by simp;lia),g5b (by simp)]
   simp
  ·simp
  ·intro p hp q hq
   have:p=a[a.size-1]:=by simpa using hp
   subst this;have:=q9r H.sa (ia:=a.size-1) (by simp;lia) q hq
   simpa using this
  ·intro p hp q hq
   have:p=a[a.size-1]:=by simpa using hp
   subst this;exact C.asy _ _ (H.last q (g1f hq))
 split
 ·rename_i e
  exact mn (h _ _ (Eg.rfl' _) (fhR m H.sb (by simpa using e)))
 ·rename_i e
  have e':a.size-1≠0:=by simpa using e
  split
  ·rename_i e2
   exact mn (h _ _ (Eg.rfl' _) (lhR H C m (by simpa using e2)))
  ·rename_i e2
   have e2':b.size≠1:=by simpa using e2
   refine gw (g2t ?_);refine gw (uc (uq (I:=fun x u st'=>Eg st st'/\u.1=none/\OkH lt a b x none u.2.1 u.2.2.1 u.2.2.2.1)
    (Q:=fun u st'=>Eg st st'/\∃r,u.1=some r/\Rm lt a b r) ?_ ?_ ⟨Eg.rfl' _,rfl,m,by first|lia|(dsimp only;lia),by first|lia|(dsimp only;lia),by first|lia|(dsimp only;lia),by first|lia|(dsimp only;lia),by first|lia|(dsimp only;lia)⟩) ?_)
   ·rintro x t st' _ hx ⟨eg,ht,h'⟩
    refine uc (qoz C H ht (eg.1.trans hk) h') ?_
    rintro r st'' ⟨eg2,hr⟩
    cases r with
    | done u=>
     obtain⟨⟨r,hr1⟩,hr2⟩:=hr;rw [hr1] at hr2;exact⟨eg.trans eg2,r,hr1,hr2⟩
    | yield u=>exact⟨eg.trans eg2,hr.1,hr.2⟩
   ·rintro u st' ⟨eg,hu,_,h1,h2,h3,h4,h5⟩
    lia
   ·rintro⟨u1,u2⟩ st' ⟨eg,r,hr,hR⟩
    cases hr;exact mn (h _ _ eg hR)
end
def Kz(xs:Array Keyed)(i:Nat): Value:=kz xs[i]?
theorem q0h{xs ys:Array Keyed}{i j:Nat}(h:xs[i]? = ys[j]?): Kz xs i=Kz ys j:=by unfold Kz;rw [h]
theorem jg{xs:Array Keyed}{i:Nat}(h:i<xs.size): Kz xs i=xs[i].1:=by unfold Kz;rw [g2k xs i h];rfl
def Asc(lt:Value->Value->Bool)(xs:Array Keyed)(lo hi:Nat): Prop:=∀i j,lo<=i->i<=j->j<hi->lt (Kz xs j) (Kz xs i)=false
def Des(lt:Value->Value->Bool)(xs:Array Keyed)(lo hi:Nat): Prop:=∀i j,lo<=i->i<=j->j<hi->lt (Kz xs i) (Kz xs j)=false
def Eqv(lt:Value->Value->Bool)(x y:Value): Prop:=lt x y=false/\lt y x=false
structure Tr(lo hi:Nat)(st st':SortSt): Prop where
 kind:kindOf st'=kindOf st
 pend:pendingOf st'=pendingOf st
 fail:failedOf st'=failedOf st
 perm:(arrOf st').Perm (arrOf st)
 out:∀k,(k<lo\/hi<=k)->(arrOf st')[k]? = (arrOf st)[k]?
theorem Tr.rfl'(lo hi:Nat)(st:SortSt): Tr lo hi st st:=⟨rfl,rfl,rfl,.refl _,fun _ _=>rfl⟩
theorem Tr.trans{lo hi:Nat}{a b c:SortSt}(h:Tr lo hi a b)(k:Tr lo hi b c): Tr lo hi a c:=⟨k.kind.trans h.kind,k.pend.trans h.pend,k.fail.trans h.fail,k.perm.trans h.perm,fun i hi=>(k.out i hi).trans (h.out i hi)⟩
theorem Tr.size{lo hi:Nat}{a b:SortSt}(h:Tr lo hi a b): (arrOf b).size=(arrOf a).size:=h.perm.size_eq
def Gs(G:Value->Prop)(st:SortSt): Prop:=∀p∈(arrOf st).toList,G p.1
theorem Tr.gs{G:Value->Prop}{lo hi:Nat}{a b:SortSt}(h:Tr lo hi a b)(g:Gs G a): Gs G b:=fun p hp=>g p ((g1a.mp h.perm).mem_iff.mp hp)
theorem Tr.mir{lo hi i j:Nat}{st:SortSt}(h1:lo<=i)(h2:j<=hi)(h3:j<=(arrOf st).size): Tr lo hi st (setArr st (mirror (arrOf st) i j ((j-i) / 2))):=
 ⟨rfl,rfl,rfl,mirror_perm _ _ _ _,fun k hk=>by show(mirror (arrOf st) i j ((j-i) / 2))[k]? = _;rw [getElem?_mirror_all h3,mj (by lia)]⟩
theorem qcz{xs:Array Keyed}{i j:Nat}(hj:j<=xs.size)(k:Nat): Kz (mirror xs i j ((j-i) / 2)) k=if i<=k/\k<j then Kz xs (i+j-1-k) else Kz xs k:=by
 have e:=getElem?_mirror_all (i:=i) hj k
 split
 ·rename_i h;rw [mq h] at e;exact q0h e
 ·rename_i h;rw [mj h] at e;exact q0h e
abbrev ASt:=Option (Option Nat)×Nat
abbrev DSt:=Option (Option Nat)×Nat×Nat
noncomputable def asL(lo b nr:Nat): StateT SortSt Sem ASt:=
 forIn [b:nr] ((none,b):ASt) fun _ t=>do
  match <- ltAt' (lo+t.2) (lo+t.2-1) with
  | some sm=>if sm=true then pure (.done (none,t.2)) else pure (.yield (none,t.2+1))
  | _=>pure (.done (some none,t.2))
noncomputable def ta3(lo n nr:Nat): StateT SortSt Sem (Option Nat):=do
 reverseSlice' lo (lo+n)
 let t <- asL lo n nr
 match t.1 with
 | some r=>pure r
 | none=>pure (some t.2)
noncomputable def deL(lo n nr:Nat): StateT SortSt Sem DSt:=
 forIn [n:nr] ((none,n,0):DSt) fun _ t=>do
  match <- ltAt' (lo+t.2.1) (lo+t.2.1-1) with
  | some sm=>
   if sm=true then
    if t.2.2>0 then do
     reverseSlice' (lo+t.2.1-(t.2.2+1)) (lo+t.2.1)
     pure (.yield (none,t.2.1+1,0))
    else pure (.yield (none,t.2.1+1,0))
   else do
    match <- ltAt' (lo+t.2.1-1) (lo+t.2.1) with
    | some la=>if la=true then pure (.done (none,t.2.1,t.2.2)) else pure (.yield (none,t.2.1+1,t.2.2+1))
    | _=>pure (.done (some none,t.2.1,t.2.2))
  | _=>pure (.done (some none,t.2.1,t.2.2))
noncomputable def deP(lo n nr:Nat): StateT SortSt Sem (Option Nat):=do
 rule "list.sort.descending-run"
 let t <- deL lo (n+1) nr
 match t.1 with
 | some r=>pure r
 | none=>
  if t.2.2>0 then do
   reverseSlice' (lo+t.2.1-(t.2.2+1)) (lo+t.2.1)
   ta3 lo t.2.1 nr
  else ta3 lo t.2.1 nr
theorem qrx(lo nr:Nat): countRun' lo nr=(do
  let t <- asL lo 1 nr
  match t.1 with
  | some r=>pure r
  | none=>
   if(t.2==nr)=true then pure (some t.2)
   else if t.2>1 then do
    match <- ltAt' lo (lo+t.2-1) with
    | some ro=>if ro=true then pure (some t.2) else do
      reverseSlice' lo (lo+t.2)
      deP lo t.2 nr
    | _=>pure none
   else deP lo t.2 nr):=by
 rw [countRun'_eq];dsimp only;refine bc2 rfl fun t=>?_;obtain⟨r,n⟩:=t;cases r with
 | some r=>rfl
 | none=>
  dsimp only;refine ux rfl (fun _=>rfl) fun _=>ux rfl (fun _=>bc fun x=>?_) fun _=>?_
  ·cases x with
   | none=>rfl
   | some ro=>
    dsimp only;refine ux rfl (fun _=>rfl) fun _=>bc fun _=>?_;unfold deP;refine bc fun _=>bc2 rfl fun t=>?_;obtain⟨r2,n2,q2⟩:=t;cases r2 with
    | some r2=>rfl
    | none=>
     dsimp only;refine ux rfl (fun _=>bc fun _=>?_) fun _=>?_
     ·unfold ta3
      refine bc fun _=>bc2 rfl fun t=>?_;obtain⟨r3,n3⟩:=t;cases r3 <;> rfl
     ·unfold ta3
      refine bc fun _=>bc2 rfl fun t=>?_;obtain⟨r3,n3⟩:=t;cases r3 <;> rfl
  ·unfold deP
   refine bc fun _=>bc2 rfl fun t=>?_;obtain⟨r2,n2,q2⟩:=t;cases r2 with
   | some r2=>rfl
   | none=>
    dsimp only;refine ux rfl (fun _=>bc fun _=>?_) fun _=>?_
    ·unfold ta3
     refine bc fun _=>bc2 rfl fun t=>?_;obtain⟨r3,n3⟩:=t;cases r3 <;> rfl
    ·unfold ta3
     refine bc fun _=>bc2 rfl fun t=>?_;obtain⟨r3,n3⟩:=t;cases r3 <;> rfl
section
variable{prog:Program}{w:World}{A:Around}{E:Value->Shared->Prop}{s:Shared}{κ : SortKind}{G:Value->Prop}{lt:Value->Value->Bool}
theorem Eqv.symm{x y:Value}(h:Eqv lt x y): Eqv lt y x:=⟨h.2,h.1⟩
theorem Eqv.trans(C:Cmp prog w A s κ G lt){x y z:Value}(h:Eqv lt x y)(k:Eqv lt y z): Eqv lt x z:=⟨C.tra z y x k.1 h.1,C.tra x y z h.2 k.2⟩
theorem qd0(C:Cmp prog w A s κ G lt){x x' y y':Value}(hx:Eqv lt x x')(hy:Eqv lt y y')(h:lt y' x'=false): lt y x=false:=
 C.tra x x' y hx.2 (C.tra x' y' y h hy.1)
theorem wpS_ltK{st:SortSt}(C:Cmp prog w A s κ G lt){i j:Nat}{Q:Option Bool->SortSt->Prop}(hk:kindOf st = κ)(g:Gs G st)(hi:i<(arrOf st).size)(hj:j<(arrOf st).size)
  (h:Q (some (lt (Kz (arrOf st) i) (Kz (arrOf st) j))) st):wpS (model prog w) A E s (ltAt' i j) Q st:=by
 rw [ltAt'_eq];refine gw (g2t ?_);show wpS _ _ _ _ (do let x <- elem' (arrOf st) i;let y <- elem' (arrOf st) j;lt' x y) Q st;rw [jg hi,jg hj] at h;exact gw (ze hi (gw (ze hj (q3z (C:=C) hk (g _ (by simp)) (g _ (by simp)) h))))
theorem q6q{st:SortSt}{i j:Nat}{Q:Unit->SortSt->Prop}(h:Q () (setArr st (mirror (arrOf st) i j ((j-i) / 2)))): wpS (model prog w) A E s (reverseSlice' i j) Q st:=by
 rw [reverseSlice'_eq];exact g3i h
theorem qlv(C:Cmp prog w A s κ G lt){xs:Array Keyed}{lo x:Nat}(h:Asc lt xs lo (lo+x))(h1:1<=x)(hl:lt (Kz xs (lo+x)) (Kz xs (lo+x-1))=false): Asc lt xs lo (lo+(x+1)):=by
 intro i j h2 h3 h4
 by_cases hj:j<lo+x
 ·exact h i j h2 h3 hj
 ·have:j=lo+x:=by lia
  subst this
  by_cases hi:i=lo+x
  ·subst hi;exact C.irr _
  ·exact C.tra _ _ _ (h i (lo+x-1) h2 (by lia) (by lia)) hl
theorem q4q(C:Cmp prog w A s κ G lt){xs:Array Keyed}{lo x:Nat}(h:Des lt xs lo (lo+x))(h1:1<=x)(hl:lt (Kz xs (lo+x-1)) (Kz xs (lo+x))=false): Des lt xs lo (lo+(x+1)):=by
 intro i j h2 h3 h4
 by_cases hj:j<lo+x
 ·exact h i j h2 h3 hj
 ·have:j=lo+x:=by lia
  subst this
  by_cases hi:i=lo+x
  ·subst hi;exact C.irr _
  ·exact C.tra _ _ _ hl (h i (lo+x-1) h2 (by lia) (by lia))
theorem qfq(C:Cmp prog w A s κ G lt){st:SortSt}{lo b nr:Nat}{Q:ASt->SortSt->Prop}(hk:kindOf st = κ)(g:Gs G st)(hz:lo+nr<=(arrOf st).size)(h1:1<=b)(h2:b<=nr)(hs:Asc lt (arrOf st) lo (lo+b))
  (h:∀n,b<=n->n<=nr->Asc lt (arrOf st) lo (lo+n)->(n=nr\/lt (Kz (arrOf st) (lo+n)) (Kz (arrOf st) (lo+n-1))=true)->Q (none,n) st):wpS (model prog w) A E s (asL lo b nr) Q st:=by
 unfold asL;refine uq (I:=fun x c st'=>st'=st/\c=(none,x)/\Asc lt (arrOf st) lo (lo+x)) ?_ ?_ ⟨rfl,rfl,hs⟩
 ·rintro x c st' hx1 hx2 ⟨rfl,rfl,hs'⟩
  dsimp only;refine gw (wpS_ltK C hk g (by lia) (by lia) ?_);dsimp only;cases e:lt (Kz (arrOf st') (lo+x)) (Kz (arrOf st') (lo+x-1))
  ·simp only [gm,p8]
   exact mn ⟨rfl,rfl,qlv C hs' (by lia) e⟩
  ·simp only [ny]
   exact mn (h x hx1 (by lia) hs' (.inr e))
 ·rintro c st' ⟨rfl,rfl,hs'⟩
  rw [show max b nr=nr by lia] at hs' ⊢;exact h nr h2 (gv _) hs' (.inl rfl)
theorem qfr(C:Cmp prog w A s κ G lt){st:SortSt}{lo n nr:Nat}{Q:Option Nat->SortSt->Prop}(hk:kindOf st = κ)(g:Gs G st)(hz:lo+nr<=(arrOf st).size)(h1:1<=n)(h2:n<=nr)(hs:Des lt (arrOf st) lo (lo+n))
  (h:∀m st',Tr lo (lo+nr) st st'->1<=m->m<=nr->Asc lt (arrOf st') lo (lo+m)->Q (some m) st'):wpS (model prog w) A E s (ta3 lo n nr) Q st:=by
 unfold ta3;have hz':lo+n<=(arrOf st).size:=by lia
 refine gw (q6q ?_);have tr:Tr lo (lo+nr) st (setArr st (mirror (arrOf st) lo (lo+n) ((lo+n-lo) / 2))):=Tr.mir (gv _) (by lia) hz';refine gw (qfq C (tr.kind.trans hk) (tr.gs g) (by rw [tr.size];exact hz) h1 h2 ?_ fun m m1 m2 m3 _=>mn (h m _ tr (by lia) m2 m3));intro i j i1 i2 i3;show lt (Kz (mirror (arrOf st) lo (lo+n) ((lo+n-lo) / 2)) j) (Kz (mirror (arrOf st) lo (lo+n) ((lo+n-lo) / 2)) i)=false;rw [qcz hz',qcz hz',mq (by lia),mq (by lia)];exact hs _ _ (by lia) (by lia) (by lia)
theorem q9s(C:Cmp prog w A s κ G lt){xs:Array Keyed}{i j:Nat}(hj:j<=xs.size)(he:∀k,i<=k->k<j->Eqv lt (Kz xs k) (Kz xs (j-1)))(k:Nat): Eqv lt (Kz (mirror xs i j ((j-i) / 2)) k) (Kz xs k):=by
 rw [qcz hj]
 split
 ·exact Eqv.trans C (he _ (by lia) (by lia)) (he k (by lia) (by lia)).symm
 ·exact⟨C.irr _,C.irr _⟩
theorem qp1(C:Cmp prog w A s κ G lt){st:SortSt}{lo n nr:Nat}{Q:DSt->SortSt->Prop}(hk:kindOf st = κ)(g:Gs G st)(hz:lo+nr<=(arrOf st).size)(h1:1<=n)(h2:n<=nr)(hs:Des lt (arrOf st) lo (lo+n))
  (h:∀m q st',Tr lo (lo+nr) st st'->n<=m->m<=nr->Des lt (arrOf st') lo (lo+m)->q+1<=m->(∀i,lo+m-(q+1)<=i->i<lo+m->Eqv lt (Kz (arrOf st') i) (Kz (arrOf st') (lo+m-1)))->Q (none,m,q) st') :
  wpS (model prog w) A E s (deL lo n nr) Q st:=by
 unfold deL;refine uq (I:=fun x c st'=>∃q,c=(none,x,q)/\Tr lo (lo+nr) st st'/\Des lt (arrOf st') lo (lo+x)/\q+1<=x /\
   (∀i,lo+x-(q+1)<=i->i<lo+x->Eqv lt (Kz (arrOf st') i) (Kz (arrOf st') (lo+x-1)))) ?_ ?_
  ⟨0,rfl,Tr.rfl' _ _ _,hs,by lia,fun i i1 i2=>by rw [show i=lo+n-1 by lia];exact⟨C.irr _,C.irr _⟩⟩
 ·rintro x c st' hx1 hx2 ⟨q,rfl,tr,ds,hq,he⟩
  dsimp only;have hz':lo+x<=(arrOf st').size:=by rw [tr.size];lia
  have hk':=tr.kind.trans hk;have g':=tr.gs g;refine gw (wpS_ltK C hk' g' (by rw [tr.size];lia) (by rw [tr.size];lia) ?_);dsimp only;cases e:lt (Kz (arrOf st') (lo+x)) (Kz (arrOf st') (lo+x-1))
  ·simp only [gm,p8]
   refine gw (wpS_ltK C hk' g' (by rw [tr.size];lia) (by rw [tr.size];lia) ?_);dsimp only;cases e2:lt (Kz (arrOf st') (lo+x-1)) (Kz (arrOf st') (lo+x))
   ·simp only [gm,p8]
    refine mn ⟨q+1,rfl,tr,q4q C ds (by lia) e2,by lia,fun i i1 i2=>?_⟩;rw [show lo+(x+1)-1=lo+x by lia]
    by_cases hi:i=lo+x
    ·subst hi;exact⟨C.irr _,C.irr _⟩
    ·exact Eqv.trans C (he i (by lia) (by lia)) ⟨e2,e⟩
   ·simp only [ny]
    exact mn (h x q st' tr hx1 (by lia) ds hq he)
  ·simp only [ny]
   have step:∀st'',Tr lo (lo+nr) st st''->(∀k,Eqv lt (Kz (arrOf st'') k) (Kz (arrOf st') k))->∃q',((none,x+1,0):DSt)=(none,x+1,q')/\Tr lo (lo+nr) st st''/\Des lt (arrOf st'') lo (lo+(x+1))/\q'+1<=x+1 /\
     (∀i,lo+(x+1)-(q'+1)<=i->i<lo+(x+1)->Eqv lt (Kz (arrOf st'') i) (Kz (arrOf st'') (lo+(x+1)-1))):=by
    intro st'' tr2 hev;refine⟨0,rfl,tr2,?_,by lia,fun i i1 i2=>by rw [show i=lo+(x+1)-1 by lia];exact⟨C.irr _,C.irr _⟩⟩;have dm:=q4q C ds (by lia) (C.asy _ _ e);intro i j i1 i2 i3;exact qd0 C (hev j) (hev i) (dm i j i1 i2 i3)
   split
   ·refine gw (q6q (mn (step _ (tr.trans (Tr.mir (by lia) (by lia) hz')) (q9s C hz' ?_))))
    exact he
   ·exact mn (step _ tr fun k=>⟨C.irr _,C.irr _⟩)
 ·rintro c st' ⟨q,rfl,tr,ds,hq,he⟩
  rw [show max n nr=nr by lia] at ds hq he ⊢;exact h nr q st' tr h2 (gv _) ds hq he
theorem qfs(C:Cmp prog w A s κ G lt){st:SortSt}{lo n nr:Nat}{Q:Option Nat->SortSt->Prop}(hk:kindOf st = κ)(g:Gs G st)(hz:lo+nr<=(arrOf st).size)(h2:n+1<=nr)(hs:Des lt (arrOf st) lo (lo+(n+1)))
  (h:∀m st',Tr lo (lo+nr) st st'->1<=m->m<=nr->Asc lt (arrOf st') lo (lo+m)->Q (some m) st'):wpS (model prog w) A E s (deP lo n nr) Q st:=by
 unfold deP;refine gw (wpS_lift (g01 ⟨rfl,?_⟩));refine gw (qp1 C hk g hz (by lia) h2 hs fun m q st' tr m1 m2 ds hq he=>?_);dsimp only;have hz':lo+m<=(arrOf st').size:=by rw [tr.size];lia
 split
 ·have tr2:Tr lo (lo+nr) st' (setArr st' (mirror (arrOf st') (lo+m-(q+1)) (lo+m) ((lo+m-(lo+m-(q+1))) / 2))):=Tr.mir (by lia) (by lia) hz'
  refine gw (q6q (qfr C (tr2.kind.trans (tr.kind.trans hk)) (tr2.gs (tr.gs g)) (by rw [tr2.size,tr.size];exact hz) (by lia) m2 ?_ fun k st'' tr3=>h k st'' (tr.trans (tr2.trans tr3))));intro i j i1 i2 i3;have ev:=q9s C hz' he;exact qd0 C (ev j) (ev i) (ds i j i1 i2 i3)
 ·exact qfr C (tr.kind.trans hk) (tr.gs g) (by rw [tr.size];exact hz) (by lia) m2 ds fun k st'' tr3=>h k st'' (tr.trans tr3)
theorem qp2(C:Cmp prog w A s κ G lt){st:SortSt}{lo nr:Nat}{Q:Option Nat->SortSt->Prop}(hk:kindOf st = κ)(g:Gs G st)(hz:lo+nr<=(arrOf st).size)(h1:1<=nr)
  (h:∀m st',Tr lo (lo+nr) st st'->1<=m->m<=nr->Asc lt (arrOf st') lo (lo+m)->Q (some m) st'):wpS (model prog w) A E s (countRun' lo nr) Q st:=by
 rw [qrx];refine gw (qfq C hk g hz (gv _) h1 (fun i j i1 i2 i3=>by rw [show i=j by lia];exact C.irr _) fun n n1 n2 as hor=>?_);dsimp only
 split
 ·exact mn (h n st (Tr.rfl' _ _ _) n1 n2 as)
 ·rename_i hne
  have hne':n≠nr:=by simpa using hne
  have hl:=hor.resolve_left hne'
  split
  ·refine gw (wpS_ltK C hk g (by lia) (by lia) ?_)
   dsimp only;cases e:lt (Kz (arrOf st) lo) (Kz (arrOf st) (lo+n-1))
   ·simp only [gm,p8]
    have hz':lo+n<=(arrOf st).size:=by lia
    have tr:Tr lo (lo+nr) st (setArr st (mirror (arrOf st) lo (lo+n) ((lo+n-lo) / 2))):=Tr.mir (gv _) (by lia) hz';have all:∀k,lo<=k->k<lo+n->Eqv lt (Kz (arrOf st) k) (Kz (arrOf st) (lo+n-1)):=fun k k1 k2=>
     ⟨C.tra _ _ _ (as k (lo+n-1) k1 (by lia) (by lia) |> fun z=>by exact C.tra _ _ _ e (as lo k (gv _) k1 k2)) (C.irr _),as k (lo+n-1) k1 (by lia) (by lia)⟩
    refine gw (q6q (qfs C (tr.kind.trans hk) (tr.gs g) (by rw [tr.size];exact hz) (by lia) ?_ fun m st' tr2=>h m st' (tr.trans tr2)));have ev:=q9s C hz' all;have ds:Des lt (arrOf st) lo (lo+(n+1)):=by
     refine q4q C (fun i j i1 i2 i3=>?_) (by lia) (C.asy _ _ hl);exact(Eqv.trans C (all i i1 (by lia)) (all j (by lia) i3).symm).1
    intro i j i1 i2 i3;exact qd0 C (ev j) (ev i) (ds i j i1 i2 i3)
   ·simp only [ny]
    exact mn (h n st (Tr.rfl' _ _ _) n1 n2 as)
  ·have:n=1:=by lia
   subst this;refine qfs C hk g hz (by lia) ?_ h;exact q4q C (fun i j i1 i2 i3=>by rw [show i=j by lia];exact C.irr _) (gv _) (C.asy _ _ hl)
end
theorem qj0{xs:Array Keyed}{src d:Nat}(hs:src<xs.size)(hd:d<=src)(k:Nat): Kz (bubble xs src d) k=if k=src-d then Kz xs src else if src-d<k/\k<=src then Kz xs (k-1) else Kz xs k:=by
 have e:=getElem?_bubble hs d hd k
 split
 ·rename_i h;rw [mq h] at e;exact q0h e
 ·rename_i h;rw [mj h] at e
  split
  ·rename_i h2;rw [mq h2] at e;exact q0h e
  ·rename_i h2;rw [mj h2] at e;exact q0h e
theorem Tr.bub{lo hi src d:Nat}{st:SortSt}(h1:lo<=src-d)(h2:src<hi)(h3:src<(arrOf st).size)(hd:d<=src): Tr lo hi st (setArr st (bubble (arrOf st) src d)):=
 ⟨rfl,rfl,rfl,bubble_perm _ _ _,fun k hk=>by show(bubble (arrOf st) src d)[k]? = _;rw [getElem?_bubble h3 d hd,mj (by lia),mj (by lia)]⟩
section
variable{prog:Program}{w:World}{A:Around}{E:Value->Shared->Prop}{s:Shared}{κ : SortKind}{G:Value->Prop}{lt:Value->Value->Bool}
theorem qp3(C:Cmp prog w A s κ G lt){st:SortSt}{lo n ok:Nat}{Q:Bool->SortSt->Prop}(hk:kindOf st = κ)(g:Gs G st)(hz:lo+n<=(arrOf st).size)(hok:ok<=n)(hs:Asc lt (arrOf st) lo (lo+ok))
  (h:∀st',Tr lo (lo+n) st st'->Asc lt (arrOf st') lo (lo+n)->Q true st'):wpS (model prog w) A E s (binarySort' lo n ok) Q st:=by
 rw [binarySort'_eq];refine gw (uc (uq (I:=fun k c st'=>c=(none,())/\Tr lo (lo+n) st st'/\Asc lt (arrOf st') lo (lo+min k n))
  (Q:=fun c st'=>c=(none,())/\Tr lo (lo+n) st st'/\Asc lt (arrOf st') lo (lo+n)) ?_ ?_ ?_) ?_)
 ·rintro k c st' hk1 hk2 ⟨rfl,tr,as⟩
  rw [show min k n=k by lia] at as;have hk':=tr.kind.trans hk;have g':=tr.gs g;have hz':lo+n<=(arrOf st').size:=by rw [tr.size];exact hz
  refine gw (uc (uq (I:=fun x c st''=>st''=st'/\∃l r,c=(none,l,r)/\l<=r/\r<=k/\r-l<=k-x /\
    (∀i,i<l->lt (Kz (arrOf st') (lo+k)) (Kz (arrOf st') (lo+i))=false)/\(∀i,r<=i->i<k->lt (Kz (arrOf st') (lo+k)) (Kz (arrOf st') (lo+i))=true))
   (Q:=fun c st''=>st''=st'/\∃l r,c=(none,l,r)/\l<=k /\
    (∀i,i<l->lt (Kz (arrOf st') (lo+k)) (Kz (arrOf st') (lo+i))=false)/\(∀i,l<=i->i<k->lt (Kz (arrOf st') (lo+k)) (Kz (arrOf st') (lo+i))=true)) ?_ ?_ ?_) ?_)
  ·rintro x c st'' _ hx ⟨rfl,l,r,rfl,h1,h2,h3,h4,h5⟩
   dsimp only
   by_cases hge:l>=r
   ·rw [mq hge]
    have:l=r:=by lia
    subst this;exact mn ⟨rfl,l,l,rfl,h2,h4,h5⟩
   ·rw [mj hge]
    refine gw (wpS_ltK C hk' g' (by lia) (by lia) ?_);dsimp only;cases e:lt (Kz (arrOf st'') (lo+k)) (Kz (arrOf st'') (lo+(l+r) / 2))
    ·simp only [gm,p8]
     refine mn ⟨rfl,(l+r) / 2+1,r,rfl,by lia,by lia,by lia,fun i i1=>?_,h5⟩;exact C.tra _ _ _ (as (lo+i) (lo+(l+r) / 2) (by lia) (by lia) (by lia)) e
    ·simp only [ny]
     refine mn ⟨rfl,l,(l+r) / 2,rfl,by lia,by lia,by lia,h4,fun i i1 i2=>?_⟩;cases e2:lt (Kz (arrOf st'') (lo+k)) (Kz (arrOf st'') (lo+i))
     ·have:=C.tra _ _ _ (as (lo+(l+r) / 2) (lo+i) (by lia) (by lia) (by lia)) e2
      rw [this] at e;cases e
     ·rfl
  ·rintro c st'' ⟨rfl,l,r,rfl,h1,h2,h3,h4,h5⟩
   have:l=r:=by lia
   subst this;exact⟨rfl,l,l,rfl,h2,h4,h5⟩
  ·exact⟨rfl,0,k,rfl,by lia,by lia,by lia,fun i hi=>by lia,fun i i1 i2=>by lia⟩
  ·rintro c st'' ⟨rfl,l,r,rfl,h2,h4,h5⟩
   show wpS _ _ _ _ (do moveDown' (lo+k) (lo+l);pure (ForInStep.yield (none,()))) _ _;rw [moveDown'_eq];have hks:lo+k<(arrOf st'').size:=by lia
   refine gw (g3i (mn ⟨rfl,tr.trans (Tr.bub (by lia) (by lia) hks (by lia)),?_⟩));rw [show min (k+1) n=k+1 by lia];intro i j i1 i2 i3;show lt (Kz (bubble (arrOf st'') (lo+k) (lo+k-(lo+l))) j) (Kz (bubble (arrOf st'') (lo+k) (lo+k-(lo+l))) i)=false;rw [qj0 hks (by lia),qj0 hks (by lia),show lo+k-(lo+k-(lo+l))=lo+l by lia];have q4:∀i,lo<=i->i<lo+l->lt (Kz (arrOf st'') (lo+k)) (Kz (arrOf st'') i)=false:=fun i a b=>by
    have:=h4 (i-lo) (by lia);rwa [show lo+(i-lo)=i by lia] at this
   have q5:∀i,lo+l<=i->i<lo+k->lt (Kz (arrOf st'') i) (Kz (arrOf st'') (lo+k))=false:=fun i a b=>by
    have:=C.asy _ _ (h5 (i-lo) (by lia) (by lia));rwa [show lo+(i-lo)=i by lia] at this
   repeat' split
   all_goals first
    | (exfalso;lia)
    | exact C.irr _
    | exact q4 _ (by lia) (by lia)
    | exact q5 _ (by lia) (by lia)
    | exact as _ _ (by lia) (by lia) (by lia)
 ·rintro c st' ⟨hc,tr,as⟩
  rw [show min (max (max ok 1) n) n=n by lia] at as;exact⟨hc,tr,as⟩
 ·refine⟨rfl,Tr.rfl' _ _ _,fun i j i1 i2 i3=>?_⟩
  by_cases h1:ok=0
  ·rw [show i=j by lia];exact C.irr _
  ·exact hs i j i1 i2 (by lia)
 ·rintro c st' ⟨rfl,tr,as⟩
  exact mn (h st' tr as)
end
theorem qp4(i:Nat): mergeAt' i=(do
 let s <- get
 let(some (l,n,p),some (r,m,_)):=((pendingOf s)[i]?,(pendingOf s)[i+1]?)|unsupported "internal:list.sort.pending"
 set (setPending s (((pendingOf s).setIfInBounds i (l,n+m,p)).eraseIdxIfInBounds (i+1)))
 let some k <- q20 false (<- elem' (arrOf s) r) (arrOf s) l n 0|return false
 let(l,n):=(l+k,n-k)
 if n==0 then return true
 let some m <- q20 true (<- elem' (arrOf s) (l+n-1)) (arrOf s) r m (m-1)|return false
 if m==0 then return true
 let x:=(arrOf s).extract l r
 let y:=(arrOf s).extract r (r+m)
 let z <- if n<=m then qgu x y else qgv x y
 modify fun s=>setArr s (z.toList.zipIdx.foldl (fun a (p,j)=>a.setIfInBounds (l+j) p) (arrOf s))
 return (failedOf (<- get)).isNone):=rfl
theorem qd1{o:Nat}: ∀(l:List Keyed) (j:Nat) (xs:Array Keyed) (T Y R:List Keyed),xs.toList=T++Y++R->T.length=o+j->Y.length=l.length ->
  ((l.zipIdx j).foldl (fun a (p,j)=>a.setIfInBounds (o+j) p) xs).toList=T++l++R
 | [],j,xs,T,Y,R,h,h1,h2=>by
  have:Y=[]:=g53.mp h2;subst this;exact h
 | p :: l,j,xs,T,y :: Y,R,h,h1,h2=>by
  rw [g4u,g57];have e:(xs.setIfInBounds (o+j) p).toList=(T++[p])++Y++R:=by
   rw [g4a,h, <- h1];simp
  rw [qd1 l (j+1) _ (T++[p]) Y R e (by simp;lia) (by simpa using h2)];simp
section
variable{prog:Program}{w:World}{A:Around}{E:Value->Shared->Prop}{s:Shared}{κ : SortKind}{G:Value->Prop}{lt:Value->Value->Bool}
theorem q2h(C:Cmp prog w A s κ G lt){xs:Array Keyed}{T X R:List Keyed}{lo hi:Nat}(h:xs.toList=T++X++R)(h1:lo=T.length)(h2:hi=lo+X.length): Asc lt xs lo hi↔X.Pairwise (le lt):=by
 have hz:xs.size=T.length+X.length+R.length:=by rw [<- p7,h];simp;lia
 have at_:∀i,(hi:i<X.length)->Kz xs (lo+i)=(X[i]).1:=by
  intro i hi;have hl:lo+i<xs.size:=by lia
  rw [jg hl, <- g3k]
  congr 1
  simp only [h];rw [g4w (by simp;lia),g4i (by lia)]
  congr 1;lia
 constructor
 ·intro as
  rw [g4h];intro i j hi hj hij;have:=as (lo+i) (lo+j) (by lia) (by lia) (by lia);rw [at_ i hi,at_ j hj] at this;exact this
 ·intro pw i j i1 i2 i3
  have e1:=at_ (i-lo) (by lia);have e2:=at_ (j-lo) (by lia);rw [show lo+(i-lo)=i by lia] at e1;rw [show lo+(j-lo)=j by lia] at e2;rw [e1,e2];exact q8n C (fun x=>C.irr _) pw (by lia) (by lia)
theorem cut(l:List Keyed)(a b:Nat)(h1:a<=b)(h2:b<=l.length): l=l.take a++(l.drop a).take (b-a)++l.drop b:=by
 rw [mr];have e:(l.drop a).take (b-a)++l.drop b=l.drop a:=by
  have:=p0 (b-a) (l.drop a);rw [g3v,show a+(b-a)=b by lia] at this;exact this
 rw [e,p0]
structure Aft(i l n m p:Nat)(st st':SortSt)(lt:Value->Value->Bool): Prop where
 kind:kindOf st'=kindOf st
 fail:failedOf st'=failedOf st
 pend:pendingOf st'=((pendingOf st).setIfInBounds i (l,n+m,p)).eraseIdxIfInBounds (i+1)
 perm:(arrOf st').Perm (arrOf st)
 out:∀k,(k<l\/l+n+m<=k)->Kz (arrOf st') k=Kz (arrOf st) k
 asc:Asc lt (arrOf st') l (l+n+m)
theorem qp5(C:Cmp prog w A s κ G lt){st:SortSt}{i l n m p p':Nat}{Q:Bool->SortSt->Prop}(hk:kindOf st = κ)(hf:failedOf st=none)(g:Gs G st)
  (e1:(pendingOf st)[i]? = some (l,n,p)) (e2:(pendingOf st)[i+1]? = some (l+n,m,p')) (h1:1<=n) (h2:1<=m) (hz:l+n+m<=(arrOf st).size)
  (a1:Asc lt (arrOf st) l (l+n)) (a2:Asc lt (arrOf st) (l+n) (l+n+m)) (h:∀st',Aft i l n m p st st' lt->Q true st'):wpS (model prog w) A E s (mergeAt' i) Q st:=by
 rw [qp4];refine gw (g2t ?_);rw [e1,e2];dsimp only;obtain⟨st1,hst1⟩:∃st1,st1=setPending st (((pendingOf st).setIfInBounds i (l,n+m,p)).eraseIdxIfInBounds (i+1)):=⟨_,rfl⟩
 rw [<- hst1];have hset:∀ {R:PUnit->SortSt->Prop},R ⟨⟩ st1->wpS (model prog w) A E s (set st1:StateT SortSt Sem PUnit) R st:=by
  intro R hR;unfold wpS;rw [StateT.run_set];exact gc ⟨rfl,hR⟩
 refine gw (hset ?_);have k1:kindOf st1 = κ :=by rw [hst1];exact hk
 have f1:failedOf st1=none:=by rw [hst1];exact hf
 have r1:arrOf st1=arrOf st:=by rw [hst1]
 have p1:pendingOf st1=((pendingOf st).setIfInBounds i (l,n+m,p)).eraseIdxIfInBounds (i+1):=by rw [hst1]
 have ge:∀j,(hj:j<(arrOf st).size)->G ((arrOf st)[j]).1:=fun j hj=>g _ (by simp);have kle:∀i j,(hi:i<(arrOf st).size)->(hj:j<(arrOf st).size)->Kz (arrOf st) i=((arrOf st)[i]).1/\Kz (arrOf st) j=((arrOf st)[j]).1:=fun i j hi hj=>⟨jg hi,jg hj⟩
 refine gw (ze (by lia) (gw (q2g C k1 (ge _ (by lia)) g (by lia) (by lia) (fun x y hxy hy q1=>?_) fun k hk1 g1 g2=>?_)))
 ·simp only [far1,gm,p8,g30] at q1 ⊢
  have:=a1 (l+x) (l+y) (by lia) (by lia) (by lia);rw [jg (by lia),jg (by lia)] at this;exact C.tra _ _ _ this q1
 dsimp only;have g1':∀x,l<=x->x<l+k->lt (Kz (arrOf st) (l+n)) (Kz (arrOf st) x)=false:=by
  intro x x1 x2;have:=g1 (x-l) (by lia) (by lia);simp only [far1,gm,p8,g30] at this;rw [jg (by lia),jg (by lia)];rw [<- this];congr 3;lia
 have g2':∀x,l+k<=x->x<l+n->lt (Kz (arrOf st) (l+n)) (Kz (arrOf st) x)=true:=by
  intro x x1 x2;have:=g2 (x-l) (by lia) (by lia);simp only [far1,gm,p8,g44] at this;rw [jg (by lia),jg (by lia)];rw [<- this];congr 3;lia
 by_cases hkn:k=n
 ·rw [mq (by first|(simp;done)|(simp;lia))]
  refine mn (h st1 ⟨k1.trans hk.symm,f1.trans hf.symm,p1,by rw [r1],fun _ _=>by rw [r1],?_⟩);rw [r1];intro x y x1 x2 x3
  by_cases hy:y<l+n
  ·exact a1 x y x1 x2 hy
  ·by_cases hx:x<l+n
   ·exact C.tra _ _ _ (g1' x x1 (by lia)) (a2 (l+n) y (by lia) (by lia) (by lia))
   ·exact a2 x y (by lia) x2 x3
 rw [mj (by simp;lia)];have hlast:l+k+(n-k)-1=l+n-1:=by lia
 refine gw (ze (by lia) (gw (q2g C k1 (ge _ (by lia)) g (by lia) (by lia) (fun x y hxy hy q1=>?_) fun j hj1 j1 j2=>?_)))
 ·simp only [far1,ny] at q1 ⊢
  have:=a2 (l+n+x) (l+n+y) (by lia) (by lia) (by lia);rw [jg (by lia),jg (by lia)] at this;cases e3:lt ((arrOf st)[l+n+x]'(by lia)).1 ((arrOf st)[l+k+(n-k)-1]'(by lia)).1
  ·rw [C.tra _ _ _ e3 this] at q1;cases q1
  ·rfl
 dsimp only;have j1':∀x,l+n<=x->x<l+n+j->lt (Kz (arrOf st) x) (Kz (arrOf st) (l+n-1))=true:=by
  intro x x1 x2;have:=j1 (x-(l+n)) (by lia) (by lia);simp only [far1,ny] at this;rw [jg (by lia),jg (by lia)];rw [<- this];congr 3 <;> lia
 have j2':∀x,l+n+j<=x->x<l+n+m->lt (Kz (arrOf st) x) (Kz (arrOf st) (l+n-1))=false:=by
  intro x x1 x2;have:=j2 (x-(l+n)) (by lia) (by lia);simp only [far1,ny] at this;rw [jg (by lia),jg (by lia)];rw [<- this];congr 3 <;> lia
 by_cases hj0:j=0
 ·rw [mq (by first|(simp;done)|(simp;lia))]
  refine mn (h st1 ⟨k1.trans hk.symm,f1.trans hf.symm,p1,by rw [r1],fun _ _=>by rw [r1],?_⟩);rw [r1];intro x y x1 x2 x3
  by_cases hy:y<l+n
  ·exact a1 x y x1 x2 hy
  ·by_cases hx:x<l+n
   ·exact C.tra _ _ _ (a1 x (l+n-1) x1 (by lia) (by lia)) (j2' y (by lia) (by lia))
   ·exact a2 x y (by lia) x2 x3
 rw [mj (by simp;lia)];obtain⟨a,ha⟩:∃a,a=(arrOf st).extract (l+k) (l+n):=⟨_,rfl⟩
 obtain⟨b,hb⟩:∃b,b=(arrOf st).extract (l+n) (l+n+j):=⟨_,rfl⟩
 rw [<- ha, <- hb];obtain⟨L,hL⟩:∃L,L=(arrOf st).toList:=⟨_,rfl⟩
 have hLz:L.length=(arrOf st).size:=by rw [hL];simp
 have la:a.toList=(L.drop (l+k)).take (l+n-(l+k)):=by rw [ha,hL,g0l]
 have lb:b.toList=(L.drop (l+n)).take (l+n+j-(l+n)):=by rw [hb,hL,g0l]
 have sza:a.size=n-k:=by rw [<- p7,la];simp;lia
 have szb:b.size=j:=by rw [<- p7,lb];simp;lia
 have ga:∀q∈a.toList,G q.1:=fun q hq=>g q (by rw [la] at hq;rw [<- hL];exact g3j (g1f hq));have gb:∀q∈b.toList,G q.1:=fun q hq=>g q (by rw [lb] at hq;rw [<- hL];exact g3j (g1f hq));have memA:∀q∈a.toList,∃x,l+k<=x/\x<l+n/\q.1=Kz (arrOf st) x:=by
  intro q hq;rw [la] at hq;obtain⟨y,hy,rfl⟩:=u9.mp hq;simp only [tx,g0c] at hy;refine⟨l+k+y,by lia,by lia,?_⟩;rw [jg (by lia)];simp [hL]
 have memB:∀q∈b.toList,∃x,l+n<=x/\x<l+n+j/\q.1=Kz (arrOf st) x:=by
  intro q hq;rw [lb] at hq;obtain⟨y,hy,rfl⟩:=u9.mp hq;simp only [tx,g0c] at hy;refine⟨l+n+y,by lia,by lia,?_⟩;rw [jg (by lia)];simp [hL]
 have sA:a.toList.Pairwise (le lt):=by
  rw [la];refine(q2h C (xs:=arrOf st) (lo:=l+k) (hi:=l+n) (T:=L.take (l+k)) (R:=L.drop (l+n)) (by rw [<- hL];exact cut L (l+k) (l+n) (by lia) (by lia)) (by simp;lia) (by simp;lia)).mp ?_;exact fun x y x1 x2 x3=>a1 x y (by lia) x2 x3
 have sB:b.toList.Pairwise (le lt):=by
  rw [lb];refine(q2h C (xs:=arrOf st) (lo:=l+n) (hi:=l+n+j) (T:=L.take (l+n)) (R:=L.drop (l+n+j)) (by rw [<- hL];exact cut L (l+n) (l+n+j) (by lia) (by lia)) (by simp;lia) (by simp;lia)).mp ?_;exact fun x y x1 x2 x3=>a2 x y (by lia) x2 (by lia)
 have H:Mh G lt a b:=by
  refine⟨ga,gb,sA,sB,by lia,by lia,fun q hq=>?_,fun q hq=>?_⟩
  ·obtain⟨x,x1,x2,e⟩:=memA q hq
   have e0:(b[0]'(by lia)).1=Kz (arrOf st) (l+n):=by
    rw [jg (by lia)];simp [hb]
   rw [e,e0];exact g2' x x1 x2
  ·obtain⟨x,x1,x2,e⟩:=memB q hq
   have e0:(a[a.size-1]'(by lia)).1=Kz (arrOf st) (l+n-1):=by
    rw [jg (by lia)];simp only [ha,Array.getElem_extract]
    congr 2
    simp;lia
   rw [e,e0];exact j1' x x1 x2
 have fin:∀z st2,Eg st1 st2->Rm lt a b z->wpS (model prog w) A E s (do
   modify fun s=>setArr s (z.toList.zipIdx.foldl (fun a (p,j)=>a.setIfInBounds (l+k+j) p) (arrOf s))
   return (failedOf (<- get)).isNone) Q st2:=by
  intro z st2 eg rm;refine gw (g3i (gw (g2t ?_)));obtain⟨Z,hZ⟩:∃Z,Z=z.toList.zipIdx.foldl (fun a (p,j)=>a.setIfInBounds (l+k+j) p) (arrOf st2):=⟨_,rfl⟩
  rw [<- hZ];show wpS (model prog w) A E s (pure (failedOf st2).isNone) Q (setArr st2 Z);rw [show(failedOf st2).isNone=true by rw [eg.2.2.2,f1];rfl];have r2:arrOf st2=arrOf st:=eg.2.1.trans r1;have zlen:z.toList.length=n-k+j:=by rw [rm.1.length_eq,nj,p7,p7,sza,szb]
  have zsz:z.size=n-k+j:=by rw [<- p7];exact zlen
  obtain⟨T,hT⟩:∃T,T=L.take l:=⟨_,rfl⟩
  obtain⟨P,hP⟩:∃P,P=(L.drop l).take k:=⟨_,rfl⟩
  obtain⟨S,hS⟩:∃S,S=(L.drop (l+n+j)).take (m-j):=⟨_,rfl⟩
  obtain⟨R,hR⟩:∃R,R=L.drop (l+n+m):=⟨_,rfl⟩
  have lenT:T.length=l:=by rw [hT];simp;lia
  have lenP:P.length=k:=by rw [hP];simp;lia
  have lenS:S.length=m-j:=by rw [hS];simp;lia
  have c1:L=T++P++a.toList++b.toList++S++R:=by
   have d1:=cut L l (l+k) (by lia) (by lia);have d2:L.drop (l+k)=a.toList++L.drop (l+n):=by
    have:=p0 (l+n-(l+k)) (L.drop (l+k));rw [g3v,show l+k+(l+n-(l+k))=l+n by lia, <- la] at this;exact this.symm
   have d3:L.drop (l+n)=b.toList++L.drop (l+n+j):=by
    have:=p0 (l+n+j-(l+n)) (L.drop (l+n));rw [g3v,show l+n+(l+n+j-(l+n))=l+n+j by lia, <- lb] at this;exact this.symm
   have d4:L.drop (l+n+j)=S++R:=by
    have:=p0 (m-j) (L.drop (l+n+j));rw [g3v,show l+n+j+(m-j)=l+n+m by lia, <- hS, <- hR] at this;exact this.symm
   rw [d2,d3,d4,show l+k-l=k by lia, <- hT, <- hP] at d1;rw [d1];simp only [mr]
  have c2:Z.toList=T++P++z.toList++S++R:=by
   have:=qd1 (o:=l+k) z.toList 0 (arrOf st2) (T++P) (a.toList++b.toList) (S++R) (by rw [r2, <- hL,c1];simp only [mr]) (by simp;lia) (by simp;lia);rw [<- hZ] at this;rw [this];simp only [mr]
  have perm:Z.Perm (arrOf st):=by
   refine g1a.mpr ?_;rw [c2, <- hL,c1];have:=rm.1;have q1:(T++P++z.toList++S++R).Perm (T++P++(a.toList++b.toList)++S++R):=((uw _ this).append_right _).append_right _;rw [<- mr (T++P)] at q1;exact q1
  have zs:Z.size=(arrOf st).size:=perm.size_eq;have kout:∀x,(x<l\/l+n+m<=x)->Kz Z x=Kz (arrOf st) x:=by
   intro x hx;refine q0h ?_;rw [<- g0h, <- g0h,c2, <- hL,c1];rcases hx with hx|hx
   ·simp only [mr]
    rw [p9 (by lia),p9 (by lia)]
   ·rw [p6 (by simp;lia),p6 (by simp;lia)]
    congr 1
    simp;lia
  have sP:∀q∈P,∃x,l<=x/\x<l+k/\q.1=Kz (arrOf st) x:=by
   intro q hq;rw [hP] at hq;obtain⟨y,hy,rfl⟩:=u9.mp hq;simp only [tx,g0c] at hy;refine⟨l+y,by lia,by lia,?_⟩;rw [jg (by lia)];simp [hL]
  have sS:∀q∈S,∃x,l+n+j<=x/\x<l+n+m/\q.1=Kz (arrOf st) x:=by
   intro q hq;rw [hS] at hq;obtain⟨y,hy,rfl⟩:=u9.mp hq;simp only [tx,g0c] at hy;refine⟨l+n+j+y,by lia,by lia,?_⟩;rw [jg (by lia)];simp [hL]
  have asc:Asc lt Z l (l+n+m):=by
   refine(q2h C (T:=T) (X:=P++z.toList++S) (R:=R) (by rw [c2];simp only [mr]) lenT.symm (by simp;lia)).mpr ?_;have pP:P.Pairwise (le lt):=by
    refine(q2h C (xs:=arrOf st) (lo:=l) (hi:=l+k) (T:=T) (R:=a.toList++b.toList++S++R) (by rw [<- hL,c1];simp only [mr]) lenT.symm (by lia)).mp ?_;exact fun x y x1 x2 x3=>a1 x y x1 x2 (by lia)
   have pS:S.Pairwise (le lt):=by
    refine(q2h C (xs:=arrOf st) (lo:=l+n+j) (hi:=l+n+m) (T:=T++P++a.toList++b.toList) (R:=R) (by rw [<- hL,c1]) (by simp;lia) (by lia)).mp ?_;exact fun x y x1 x2 x3=>a2 x y (by lia) x2 x3
   refine nz.mpr ⟨nz.mpr ⟨pP,rm.2,fun q hq r hr=>?_⟩,pS,fun q hq r hr=>?_⟩
   ·obtain⟨x,x1,x2,ex⟩:=sP q hq
    unfold le;rcases nu.mp (rm.1.mem_iff.mp hr) with hr|hr
    ·obtain⟨y,y1,y2,ey⟩:=memA r hr
     rw [ex,ey];exact a1 x y x1 (by lia) y2
    ·obtain⟨y,y1,y2,ey⟩:=memB r hr
     rw [ex,ey];exact C.tra _ _ _ (g1' x x1 x2) (a2 (l+n) y (by lia) y1 (by lia))
   ·obtain⟨y,y1,y2,ey⟩:=sS r hr
    unfold le;have fromA:∀x,l<=x->x<l+n->lt (Kz (arrOf st) y) (Kz (arrOf st) x)=false:=fun x x1 x2=>C.tra _ _ _ (a1 x (l+n-1) x1 (by lia) (by lia)) (j2' y y1 y2);rcases nu.mp hq with hq|hq
    ·obtain⟨x,x1,x2,ex⟩:=sP q hq
     rw [ex,ey];exact fromA x x1 (by lia)
    ·rcases nu.mp (rm.1.mem_iff.mp hq) with hq|hq
     ·obtain⟨x,x1,x2,ex⟩:=memA q hq
      rw [ex,ey];exact fromA x (by lia) x2
     ·obtain⟨x,x1,x2,ex⟩:=memB q hq
      rw [ex,ey];exact a2 x y x1 (by lia) y2
  exact mn (h _ ⟨(eg.1.trans k1).trans hk.symm,(eg.2.2.2.trans f1).trans hf.symm,eg.2.2.1.trans p1,perm,kout,asc⟩)
 by_cases hc:n-k<=j
 ·rw [mq hc]
  exact gw (qou C H k1 fun z st2 eg rm=>fin z st2 eg rm)
 ·rw [mj hc]
  exact gw (qp0 C H k1 fun z st2 eg rm=>fin z st2 eg rm)
end
abbrev Pd:=Nat×Nat×Nat
def Rn(lt:Value->Value->Bool)(xs:Array Keyed): Nat->List Pd->Nat->Prop
 | b,[],e=>b=e
 | b,q :: r,e=>q.1=b/\1<=q.2.1/\Asc lt xs b (b+q.2.1)/\Rn lt xs (b+q.2.1) r e
section
variable{lt:Value->Value->Bool}
theorem Rn.len{xs:Array Keyed}: ∀ {l:List Pd} {b e:Nat},Rn lt xs b l e->b+l.length<=e
 | [],b,e,h=>by have:b=e:=h;simp;lia
 | q :: r,b,e,h=>by have:=Rn.len h.2.2.2;have:=h.2.1;simp;lia
theorem Asc.same{xs ys:Array Keyed}{lo hi:Nat}(h:Asc lt xs lo hi)(hs:∀k,lo<=k->k<hi->Kz ys k=Kz xs k): Asc lt ys lo hi:=by
 intro i j i1 i2 i3;rw [hs i i1 (by lia),hs j (by lia) i3];exact h i j i1 i2 i3
theorem Rn.same{xs ys:Array Keyed}: ∀ {l:List Pd} {b e:Nat},Rn lt xs b l e->(∀k,b<=k->k<e->Kz ys k=Kz xs k)->Rn lt ys b l e
 | [],b,e,h,_=>h
 | q :: r,b,e,h,hs=>by
  have:=h.2.2.2.len;exact⟨h.1,h.2.1,h.2.2.1.same fun k k1 k2=>hs k k1 (by lia),h.2.2.2.same fun k k1 k2=>hs k (by lia) k2⟩
theorem Rn.push{xs:Array Keyed}: ∀ {l:List Pd} {b e n p:Nat},Rn lt xs b l e->1<=n->Asc lt xs e (e+n)->Rn lt xs b (l++[(e,n,p)]) (e+n)
 | [],b,e,n,p,h,hn,as=>by have:b=e:=h;subst this;exact⟨rfl,hn,as,rfl⟩
 | q :: r,b,e,n,p,h,hn,as=>⟨h.1,h.2.1,h.2.2.1,h.2.2.2.push hn as⟩
theorem Rn.modif{xs:Array Keyed}(f:Pd->Pd)(hf:∀q,(f q).1=q.1/\(f q).2.1=q.2.1): ∀ {l:List Pd} {i b e:Nat},Rn lt xs b l e->Rn lt xs b (l.modify i f) e
 | [],i,b,e,h=>by simpa using h
 | q :: r,0,b,e,h=>by
  rw [List.modify_zero_cons];unfold Rn at h ⊢;rw [(hf q).1,(hf q).2];exact h
 | q :: r,i+1,b,e,h=>by
  rw [List.modify_succ_cons];exact⟨h.1,h.2.1,h.2.2.1,h.2.2.2.modif f hf⟩
theorem Rn.two{xs:Array Keyed}: ∀ {l:List Pd} {i b e:Nat} {l0 n p r m p':Nat},Rn lt xs b l e->l[i]? = some (l0,n,p)->l[i+1]? = some (r,m,p') ->
  r=l0+n/\1<=n/\1<=m/\b<=l0/\l0+n+m<=e/\Asc lt xs l0 (l0+n)/\Asc lt xs (l0+n) (l0+n+m) /\
  ∀ys:Array Keyed,(∀k,(k<l0\/l0+n+m<=k)->Kz ys k=Kz xs k)->Asc lt ys l0 (l0+n+m)->Rn lt ys b ((l.set i (l0,n+m,p)).eraseIdx (i+1)) e
 | [],i,b,e,l0,n,p,r,m,p',h,e1,e2=>by simp at e1
 | [q],0,b,e,l0,n,p,r,m,p',h,e1,e2=>by simp at e2
 | q :: q2 :: r',0,b,e,l0,n,p,r,m,p',h,e1,e2=>by
  simp at e1 e2;subst e1;subst e2;obtain⟨h1,h2,h3,h4,h5,h6,h7⟩:=h;dsimp only at h1 h2 h3 h4 h5 h6 h7;subst h1;have hl:=h7.len;refine⟨h4,h2,h5,gv _,by lia,h3,h6,fun ys hs as=>?_⟩;rw [List.set_cons_zero,g2w,List.eraseIdx_cons_zero];refine⟨rfl,by show 1<=n+m;lia,by show Asc lt ys l0 (l0+(n+m));rw [<- Nat.add_assoc];exact as,?_⟩;show Rn lt ys (l0+(n+m)) r' e;rw [<- Nat.add_assoc];exact h7.same fun k k1 k2=>hs k (.inr k1)
 | q :: l,i+1,b,e,l0,n,p,r,m,p',h,e1,e2=>by
  rw [g2x] at e1 e2;obtain⟨h1,h2,h3,h4⟩:=h;obtain⟨a1,a2,a3,a4,a5,a6,a7,a8⟩:=Rn.two h4 e1 e2;refine⟨a1,a2,a3,by lia,a5,a6,a7,fun ys hs as=>?_⟩;rw [List.set_cons_succ,g2w];exact⟨h1,h2,h3.same fun k k1 k2=>hs k (.inl (by lia)),a8 ys hs as⟩
end
abbrev OU:=Option Unit×Unit
abbrev ON:=Option Unit×Nat
noncomputable def srM(sz pw:Nat): StateT SortSt Sem OU:=
 forIn [0:sz] ((none,()):OU) fun _ _=>do
  let z <- get
  match if(pendingOf z).size>1 then(pendingOf z)[(pendingOf z).size-2]? else none with
  | some (_,_,ol)=>
   if ol<=pw then pure (.done (none,())) else do
    let y <- mergeAt' ((pendingOf z).size-2)
    if(!y)=true then pure (.done (some (),())) else pure (.yield (none,()))
  | _=>pure (.done (none,()))
noncomputable def srP(lo n:Nat): StateT SortSt Sem (ForInStep ON):=do
 modify fun z=>setPending z ((pendingOf z).push (lo,n,0))
 pure (.yield (none,lo+n))
noncomputable def srK(sz lo n:Nat): StateT SortSt Sem (ForInStep ON):=do
 let z <- get
 match(pendingOf z).back? with
 | some (s1,n1,_)=>do
  let t <- srM sz (power' sz (2*s1+n1) (2*s1+n1+n1+n) sz)
  match t.1 with
  | some r=>pure (.done (some r,lo))
  | none=>do
   modify fun z=>setPending z ((pendingOf z).modify ((pendingOf z).size-1) fun x=>(x.1,x.2.1,power' sz (2*s1+n1) (2*s1+n1+n1+n) sz))
   srP lo n
 | _=>srP lo n
noncomputable def srL(sz:Nat)(t:ON): StateT SortSt Sem (ForInStep ON):=
 if t.2>=sz then pure (.done (none,t.2))
 else do
  match <- countRun' t.2 (sz-t.2) with
  | some fo=>
   if fo<minRun' sz sz 0 then do
    rule "list.sort.binary-insertion"
    let y <- binarySort' t.2 (min (sz-t.2) (minRun' sz sz 0)) fo
    if(!y)=true then pure (.done (some (),t.2)) else srK sz t.2 (min (sz-t.2) (minRun' sz sz 0))
   else srK sz t.2 fo
  | _=>pure (.done (some (),t.2))
def srI(z:SortSt): Nat:=if Option.any (fun x=>decide (x<(pendingOf z)[(pendingOf z).size-2+1]?.elim 0 fun x=>x.2.1)) (if(pendingOf z).size-2>0 then Option.map (fun x=>x.2.1) (pendingOf z)[(pendingOf z).size-2-1]? else none)=true then(pendingOf z).size-2-1 else(pendingOf z).size-2
noncomputable def srE(sz:Nat): StateT SortSt Sem OU:=
 forIn [0:sz] ((none,()):OU) fun _ _=>do
  let z <- get
  if(pendingOf z).size<=1 then pure (.done (none,())) else do
   let y <- mergeAt' (srI z)
   if(!y)=true then pure (.done (some (),())) else pure (.yield (none,()))
theorem qp6:sortRuns'=(do
  let z <- get
  let t <- forIn [0:(arrOf z).size] ((none,0):ON) fun _=>srL (arrOf z).size
  match t.1 with
  | some r=>pure r
  | none=>do
   let u <- srE (arrOf z).size
   match u.1 with
   | some r=>pure r
   | none=>pure ()):=by
 rw [sortRuns'_eq];dsimp only;refine bc fun z=>bc2 (fc fun _ t=>?_) fun t=>?_
 ·unfold srL
  refine ux rfl (fun _=>rfl) fun _=>bc fun x=>?_;have kk:∀n (m:StateT SortSt Sem (ForInStep ON)),m=srK (arrOf z).size t.2 n->m=srK (arrOf z).size t.2 n:=fun _ _ h=>h;cases x with
  | none=>rfl
  | some fo=>
   dsimp only;refine ux rfl (fun _=>bc fun _=>bc fun y=>ux rfl (fun _=>rfl) fun _=>?_) fun _=>?_
   all_goals
    unfold srK;refine bc fun z2=>?_;cases(pendingOf z2).back? with
    | none=>rfl
    | some q=>
     obtain⟨s1,n1,p1⟩:=q;dsimp only;refine bc2 rfl fun t2=>?_;obtain⟨r2,u2⟩:=t2;cases r2 <;> rfl
 ·obtain⟨r,n⟩:=t
  cases r with
  | some r=>rfl
  | none=>
   dsimp only;refine bc2 rfl fun u=>?_;obtain⟨r2,u2⟩:=u;cases r2 <;> rfl
section
variable{prog:Program}{w:World}{A:Around}{E:Value->Shared->Prop}{s:Shared}{κ : SortKind}{G:Value->Prop}{lt:Value->Value->Bool}{a₀:Array Keyed}
structure SI(κ : SortKind)(lt:Value->Value->Bool)(a₀:Array Keyed)(lo:Nat)(st:SortSt): Prop where
 kind:kindOf st = κ
 fail:failedOf st=none
 perm:(arrOf st).Perm a₀
 runs:Rn lt (arrOf st) 0 (pendingOf st).toList lo
theorem SI.gs{lo:Nat}{st:SortSt}(h:SI κ lt a₀ lo st)(g:∀p∈a₀.toList,G p.1): Gs G st:=fun p hp=>g p ((g1a.mp h.perm).mem_iff.mp hp)
theorem SI.size{lo:Nat}{st:SortSt}(h:SI κ lt a₀ lo st): (arrOf st).size=a₀.size:=h.perm.size_eq
theorem SI.merge(C:Cmp prog w A s κ G lt)(g:∀p∈a₀.toList,G p.1){lo i:Nat}{st:SortSt}{Q:Bool->SortSt->Prop}(h:SI κ lt a₀ lo st)(hlo:lo<=a₀.size)(hi:i+1<(pendingOf st).size)
  (hq:∀st',SI κ lt a₀ lo st'->(pendingOf st').size+1=(pendingOf st).size->(∀k,lo<=k->Kz (arrOf st') k=Kz (arrOf st) k)->Q true st'):wpS (model prog w) A E s (mergeAt' i) Q st:=by
 obtain⟨l,n,p,e1⟩:∃l n p,(pendingOf st)[i]=(l,n,p):=⟨_,_,_,rfl⟩
 obtain⟨r,m,p',e2⟩:∃r m p',(pendingOf st)[i+1]=(r,m,p'):=⟨_,_,_,rfl⟩
 have f1:(pendingOf st)[i]? = some (l,n,p):=by rw [g2k _ i (by lia),e1]
 have f2:(pendingOf st)[i+1]? = some (r,m,p'):=by rw [g2k _ (i+1) hi,e2]
 obtain⟨a1,a2,a3,a4,a5,a6,a7,a8⟩:=Rn.two h.runs (by rw [g0h];exact f1) (by rw [g0h];exact f2);subst a1;have hz:=h.size;refine qp5 C h.kind h.fail (h.gs g) f1 f2 a2 a3 (by lia) a6 a7 fun st' af=>?_;have ep:(pendingOf st').toList=((pendingOf st).toList.set i (l,n+m,p)).eraseIdx (i+1):=by
  rw [af.pend,Array.toList_eraseIdxIfInBounds,g4a]
 refine hq st' ⟨af.kind.trans h.kind,af.fail.trans h.fail,af.perm.trans h.perm,?_⟩ ?_ (fun k hk=>af.out k (.inr (by lia)))
 ·rw [ep]
  exact a8 _ af.out af.asc
 ·rw [<- p7,ep,List.length_eraseIdx,mq (by simpa using hi),g0w,p7]
  lia
theorem qp7(C:Cmp prog w A s κ G lt)(g:∀p∈a₀.toList,G p.1){lo sz pw:Nat}{st:SortSt}{Q:OU->SortSt->Prop}(h:SI κ lt a₀ lo st)(hlo:lo<=a₀.size)
  (hq:∀st',SI κ lt a₀ lo st'->(∀k,lo<=k->Kz (arrOf st') k=Kz (arrOf st) k)->Q (none,()) st'):wpS (model prog w) A E s (srM sz pw) Q st:=by
 unfold srM;refine uq (I:=fun _ c st'=>c=(none,())/\SI κ lt a₀ lo st'/\∀k,lo<=k->Kz (arrOf st') k=Kz (arrOf st) k) ?_ ?_ ⟨rfl,h,fun _ _=>rfl⟩
 ·rintro x c st' _ _ ⟨rfl,hs,hf⟩
  refine gw (g2t ?_)
  split
  ·rename_i q1 q2 ol eq
   by_cases hsz:(pendingOf st').size>1
   ·split
    ·exact mn (hq st' hs hf)
    ·refine gw (hs.merge C g hlo (by lia) fun st2 hs2 _ hf2=>?_)
     simp only [g0k,gm,p8];exact mn ⟨rfl,hs2,fun k hk=>(hf2 k hk).trans (hf k hk)⟩
   ·rw [mj hsz] at eq;cases eq
  ·exact mn (hq st' hs hf)
 ·rintro c st' ⟨rfl,hs,hf⟩
  exact hq st' hs hf
theorem qft{lo n:Nat}{st:SortSt}{Q:ForInStep ON->SortSt->Prop}(h:SI κ lt a₀ lo st)(hn:1<=n)(as:Asc lt (arrOf st) lo (lo+n))
  (hq:∀st',SI κ lt a₀ (lo+n) st'->Q (.yield (none,lo+n)) st'):wpS (model prog w) A E s (srP lo n) Q st:=by
 unfold srP;refine gw (g3i (mn (hq _ ⟨h.kind,h.fail,h.perm,?_⟩)));show Rn lt (arrOf st) 0 ((pendingOf st).push (lo,n,0)).toList (lo+n);rw [Array.toList_push];exact h.runs.push hn as
theorem qfu(C:Cmp prog w A s κ G lt)(g:∀p∈a₀.toList,G p.1){lo n sz:Nat}{st:SortSt}{Q:ForInStep ON->SortSt->Prop}(h:SI κ lt a₀ lo st)(hlo:lo+n<=a₀.size)(hn:1<=n)(as:Asc lt (arrOf st) lo (lo+n))
  (hq:∀st',SI κ lt a₀ (lo+n) st'->Q (.yield (none,lo+n)) st'):wpS (model prog w) A E s (srK sz lo n) Q st:=by
 unfold srK;refine gw (g2t ?_)
 split
 ·refine gw (qp7 C g h (by lia) fun st' hs hf=>?_)
  dsimp only;refine gw (g3i ?_);refine qft (a₀:=a₀) (κ := κ) ⟨hs.kind,hs.fail,hs.perm,?_⟩ hn (as.same fun k k1 k2=>hf k k1) hq;show Rn lt (arrOf st') 0 ((pendingOf st').modify ((pendingOf st').size-1) _).toList lo;rw [Array.toList_modify];refine Rn.modif _ ?_ hs.runs;exact fun q=>⟨rfl,rfl⟩
 ·exact qft h hn as hq
theorem SI.tr{lo hi:Nat}{st st':SortSt}(h:SI κ lt a₀ lo st)(t:Tr lo hi st st'): SI κ lt a₀ lo st':=
 ⟨t.kind.trans h.kind,t.fail.trans h.fail,t.perm.trans h.perm,by rw [t.pend];exact h.runs.same fun k k1 k2=>q0h (t.out k (.inl k2))⟩
theorem qlw(C:Cmp prog w A s κ G lt)(g:∀p∈a₀.toList,G p.1){st:SortSt}{Q:Unit->SortSt->Prop}(hk:kindOf st = κ)(hf:failedOf st=none)(ha:arrOf st=a₀)(hp:pendingOf st = #[])
  (hq:∀st',failedOf st'=none->(arrOf st').Perm a₀->(arrOf st').toList.Pairwise (le lt)->Q () st'):wpS (model prog w) A E s sortRuns' Q st:=by
 have h0:SI κ lt a₀ 0 st:=⟨hk,hf,by rw [ha],by rw [hp];rfl⟩
 rw [qp6];refine gw (g2t ?_);rw [ha];refine gw (uc (uq (I:=fun x c st'=>∃lo,c=(none,lo)/\min x a₀.size<=lo/\lo<=a₀.size/\SI κ lt a₀ lo st')
  (Q:=fun c st'=>∃lo,c=(none,lo)/\lo=a₀.size/\SI κ lt a₀ lo st') ?_ ?_ ⟨0,rfl,by lia,by lia,h0⟩) ?_)
 ·rintro x c st' _ hx ⟨lo,rfl,h1,h2,hs⟩
  unfold srL;dsimp only
  split
  ·exact mn ⟨lo,rfl,by lia,hs⟩
  ·have hz:=hs.size
   refine gw (qp2 C hs.kind (hs.gs g) (by lia) (by lia) fun m st2 tr m1 m2 as=>?_);have hs2:=hs.tr tr;have hz2:=hs2.size;dsimp only
   split
   ·refine gw (wpS_lift (g01 ⟨rfl,?_⟩))
    refine gw (qp3 C hs2.kind (hs2.gs g) (by lia) (by lia) as fun st3 tr3 as3=>?_);simp only [g0k,gm,p8];exact qfu C g (hs2.tr tr3) (by lia) (by lia) as3 fun st4 hs4=>⟨_,rfl,by lia,by lia,hs4⟩
   ·exact qfu C g hs2 (by lia) m1 as fun st4 hs4=>⟨_,rfl,by lia,by lia,hs4⟩
 ·rintro c st' ⟨lo,rfl,h1,h2,hs⟩
  exact⟨lo,rfl,by lia,hs⟩
 ·rintro c st' ⟨lo,rfl,rfl,hs⟩
  dsimp only;have fin:∀st2,SI κ lt a₀ a₀.size st2->(pendingOf st2).size<=1->Q () st2:=by
   intro st2 hs2 hp2;refine hq st2 hs2.fail hs2.perm ?_;have r:=hs2.runs;have hz:=hs2.size;have as:Asc lt (arrOf st2) 0 a₀.size:=by
    match e:(pendingOf st2).toList,r with
    | [],r=>
     have:0=a₀.size:=r;intro i j i1 i2 i3;lia
    | [q],r=>
     obtain⟨r1,r2,r3,r4⟩:=r;have:0+q.2.1=a₀.size:=r4;rw [<- this];exact r3
    | q :: q2 :: l,r=>
     have:=g06 List.length e;simp at this;lia
   exact(q2h C (T:=[]) (X:=(arrOf st2).toList) (R:=[]) (by simp) rfl (by simp;lia)).mp as
  unfold srE;refine gw (uc (uq (I:=fun x c st2=>c=(none,())/\SI κ lt a₀ a₀.size st2/\((pendingOf st2).size<=1\/(pendingOf st2).size+x<=a₀.size))
   (Q:=fun c st2=>c=(none,())/\SI κ lt a₀ a₀.size st2/\(pendingOf st2).size<=1) ?_ ?_ ⟨rfl,hs,.inr (by have:=hs.runs.len;simp at this;lia)⟩) ?_)
  ·rintro x c st2 _ hx ⟨rfl,hs2,hp2⟩
   refine gw (g2t ?_)
   split
   ·rename_i h1
    exact mn ⟨rfl,hs2,h1⟩
   ·rename_i h1
    have hI:srI st2+1<(pendingOf st2).size:=by
     unfold srI;generalize (if(pendingOf st2).size-2>0 then Option.map (fun x:Pd=>x.2.1) (pendingOf st2)[(pendingOf st2).size-2-1]? else none)=zz
     split <;> lia
    refine gw (hs2.merge C g (gv _) hI fun st3 hs3 hp3 _=>?_);simp only [g0k,gm,p8];exact mn ⟨rfl,hs3,.inr (by lia)⟩
  ·rintro c st2 ⟨rfl,hs2,hp2⟩
   exact⟨rfl,hs2,by lia⟩
  ·rintro c st2 ⟨rfl,hs2,hp2⟩
   exact mn (fin st2 hs2 hp2)
end
end Srt
namespace Srt
open PySem PySem.SeqAt PySem.AutoSeq1 PySem.MeetsSeq PySem.MeetsSeq2 PySem.MeetsSeq3 PySem.SeqRoads2
def LtAt(A:Around)(s:Shared)(y x:Value)(b:Bool): Prop:=∀(prog:Program) (w:World) (E:Value->Shared->Prop) (Q:Value->Shared->Prop),Q (.bool b) s->wpAny (model prog w) A (richCompare .Lt y x) Q E s
inductive LexAt(A:Around)(s:Shared)(f:Bool): List (Value×Value)->Bool->Prop
 | nil:LexAt A s f [] f
 | eq {x y r b}:EqAt A s x y true->LexAt A s f r b->LexAt A s f ((x,y) :: r) b
 | ne {x y r b}:EqAt A s x y false->LtAt A s x y b->LexAt A s f ((x,y) :: r) b
theorem qry(l b:Addr)(is js:Array Value)(n n2:Nat)(dd dd2:Option Addr)(sl sl2:Array (Option Value)):
  Meets (Builtin.«tuple.__lt__» ⟨[.ref l,.ref b],[]⟩)
   (fun A R s=>s.heap.get? l=some {cls:=.type "tuple",dict:=dd,data:=.seq is n,slots:=sl}/\s.heap.get? b=some {cls:=.type "tuple",dict:=dd2,data:=.seq js n2,slots:=sl2} /\
    ∃c,LexAt A.in1 s (decide (is.size<js.size)) (is.toList.zip js.toList) c/\R (.ok (.ret (.bool c))) s):=
 .of_wp fun prog w A R s h=>by
  obtain⟨hp,g,d,tk,os⟩:=s;obtain⟨hl,hb,c,hc,h⟩:=h;have f2:=g1j
  wp_walk using g2d hl,g2d hb,wpAny_forIn_list _ (fun rest b s'=>b.1=none/\s'=⟨hp,g,d,tk,os⟩/\LexAt A.in1 ⟨hp,g,d,tk,os⟩ (decide (is.size<js.size)) rest c) _
  case turn=>
   rintro⟨y,x⟩ rest b s' ⟨hb',rfl,hx⟩
   cases hx with
   | eq e r=>
    refine g9 (e prog w _ _ ?_)
    wp_walk
    exact⟨rfl,rfl,r⟩
   | ne e k=>
    refine g9 (e prog w _ _ ?_);have k':∀ {E:Value->Shared->Prop} {Q:Value->Shared->Prop},Q (.bool c) ⟨hp,g,d,tk,os⟩->wpAny (model prog w) A.in1 (richCompare .Lt y x) Q E ⟨hp,g,d,tk,os⟩:=fun h=>k prog w _ _ h
    wp_walk using k'
    exact⟨_,rfl,h⟩
  case fin=>
   rintro⟨b1,b2⟩ s' ⟨hb',rfl,hx⟩
   simp only at hb';subst hb';cases hx
   wp_walk
   exact⟨_,rfl,by simpa [Builtin.Tuple.tupleCompareSizes] using h⟩
  case h=>
   exact⟨rfl,rfl,hc⟩
theorem LtAt.tuples{A:Around}{s:Shared}{l b:Addr}{is js:Array Value}{c:Bool}(hl:s.heap.IsTuple l is)(hb:s.heap.IsTuple b js)(hu:A.units<cLine)
  (he:LexAt A.in1 s (decide (is.size<js.size)) (is.toList.zip js.toList) c):LtAt A s (.ref l) (.ref b) c:=fun prog w E Q h=>by
 obtain⟨⟨cls,dd,data,sl⟩,ho,hc,n,hd⟩:=id hl;obtain⟨⟨cls2,dd2,data2,sl2⟩,ho2,hc2,n2,hd2⟩:=id hb;simp only at hc hd hc2 hd2;subst hc hd hc2 hd2;exact richCompare_meets_room (op:=.Lt) ⟨_,ho,rfl⟩ ⟨_,ho2,rfl⟩ F.slot_tuple_lt F.entry_tuple_lt (F.args_tuple_lt_2 _ _) (qry l b is js n n2 dd dd2 sl sl2)
  ⟨ho,ho2,c,he,show Value.bool c≠Value.notImplemented/\Q (.bool c) s from⟨(fun x=>nomatch x),h⟩⟩ hu
end Srt
namespace Srt
open PySem PyProof.Rows
def q0i(h:Heap)(a:Addr)(vs:List Value): Heap:=((h.update a (Obj.mapSeq fun _=> #[])).push (seqObj "tuple" vs.toArray 0)).push (seqObj "list" #[] 0)
section
variable{prog:Program}{w:World}{A:Around}{E:Value->Shared->Prop}{s:Shared}{κ : SortKind}{G:Value->Prop}{lt:Value->Value->Bool}
def srtH(h:Heap)(vs:List Value): Heap:=((h.push (seqObj "list" #[] 0)).update h.objs.size (Obj.mapSeq (· ++ vs.toArray))).push (seqObj "list" vs.toArray 0)
end
section
variable{prog:Program}{w:World}{A:Around}{E:Value->Shared->Prop}{s:Shared}
theorem qd2{kS:Addr}{f:Value}{vs:List Value}{J:List Value->Shared->Prop}{body:Value->PUnit->Sem (ForInStep PUnit)}(hz:vs.length<=sizeLine)
  (hb:∀x ks (s:Shared) (C:Value->Shared->Prop),ks.length<vs.length->wpAny (model prog w) A (call f [x]) (fun k s'=>(∃e,s'.heap.get? kS=some (seqObj "list" (List.toArray ks) e))/\C k {s' with heap:=s'.heap.update kS (Obj.mapSeq (·.push k))}) (fun _ _=>False) s ->
   wpAny (model prog w) A (body x ⟨⟩) (fun r s'=>r=.yield ⟨⟩/\∃k,C k s') E s)
  (hstep:∀l v r,vs=l++v :: r->∀ks s',ks.length=l.length->J ks s'->wpAny (model prog w) A (call f [v]) (fun k s''=>(∃e,s''.heap.get? kS=some (seqObj "list" (List.toArray ks) e))/\J (ks++[k]) {s'' with heap:=s''.heap.update kS (Obj.mapSeq (·.push k))}) (fun _ _=>False) s') :
  ∀(r l ks:List Value) (s:Shared),vs=l++r->ks.length=l.length->J ks s->wpAny (model prog w) A (forIn r PUnit.unit body) (fun _ s'=>∃ks,ks.length=vs.length/\J ks s') E s
 | [],l,ks,s,h1,h2,h3=>by
  rw [g2r];exact gc ⟨ks,by rw [h2,h1];simp,h3⟩
 | x :: r,l,ks,s,h1,h2,h3=>by
  rw [g1o];refine g9 (tf (hb x ks s (fun k s'=>J (ks++[k]) s') (by rw [h1,h2];simp) (hstep l x r h1 ks s h2 h3)) (fun q s' hq=>?_) fun _ _ x=>x);obtain⟨rfl,k,hk⟩:=hq;show wpAny (model prog w) A (forIn r PUnit.unit body) _ E s';exact qd2 hz hb hstep r (l++[x]) (ks++[k]) s' (by rw [h1];simp) (by simp [h2]) hk
theorem qlx{a:Addr}{f:Value}{vs:List Value}{n:Nat}{P:PySem.Fin->Shared->Prop}(ho:s.heap.get? a=some (seqObj "list" vs.toArray n))(hz:vs.length<=sizeLine)(J:List Value->Shared->Prop)
  (h0:J [] {s with heap:=q0i s.heap a vs})
  (hstep:∀l v r,vs=l++v :: r->∀ks s',ks.length=l.length->J ks s'->wpAny (model prog w) A (call f [v]) (fun k s''=>(∃e,s''.heap.get? (s.heap.objs.size+1)=some (seqObj "list" (List.toArray ks) e))/\J (ks++[k]) {s'' with heap:=s''.heap.update (s.heap.objs.size+1) (Obj.mapSeq (·.push k))}) (fun _ _=>False) s')
  (hfin:∀ks s',ks.length=vs.length->J ks s'->(∃e,s'.heap.get? (s.heap.objs.size+1)=some (seqObj "list" (List.toArray ks) e))/\s'.heap.get? a=(q0i s.heap a vs).get? a /\
   ∃ κ G lt,(2<=vs.length->∀(E:Value->Shared->Prop) (Q:SortKind->Shared->Prop),Q κ s'->wpAny (model prog w) A (keyKind' ks.toArray) Q E s')/\(2<=vs.length->Cmp prog w A s' κ G lt)/\(∀k∈ks,G k) /\
    ∀T:List (Value×Value),T.Perm (ks.zip vs)->T.Pairwise (le lt)->P (.done (.ret .none)) {s' with heap:=(s'.heap.update (s.heap.objs.size+1) (Obj.mapSeq fun _=> #[])).update a (Obj.mapSeq fun _=>(T.map (·.2)).toArray)}) :
  wpAny (model prog w) A (ksk_tree a f false) P E s:=by
 have ha:a<s.heap.objs.size:=gz ho;obtain⟨e1,ho1⟩:∃e1,(s.heap.update a (Obj.mapSeq fun _=>(#[]:Array Value))).get? a=some (seqObj "list" #[] e1):=⟨_,g1p ho fun _=> #[]⟩
 have hkS:((s.heap.update a (Obj.mapSeq fun _=>(#[]:Array Value))).push (seqObj "tuple" vs.toArray 0)).objs.size=s.heap.objs.size+1:=by rw [g0y,g0d]
 have ho6:(q0i s.heap a vs).get? a=some (seqObj "list" #[] e1):=by
  unfold q0i;rw [g0o _ _ _ (by rw [g0y,g0d];exact md (g1c ha)),g0o _ _ _ (by rw [g0d];exact md ha)];exact ho1
 have hsz:vs.toArray.size=vs.length:=by simp
 unfold ksk_tree;refine g9 (listItems_at ho rfl ?_);refine g9 (listUpdate_at ho rfl ?_ (by simpa using hz) (g03 _));refine g9 (seqEpoch_at ho1 rfl ?_);refine g9 (wpAny_newTuple ?_ (by simpa using hz));refine g9 (wpAny_newList ?_ (g03 _));refine ug ?_;rw [hkS];show wpAny (model prog w) A (ksk_rest a f false vs.toArray e1 (.ref (s.heap.objs.size+1))) P E {s with heap:=q0i s.heap a vs};unfold ksk_rest;refine g9 (g01 ?_);rw [List.forIn_toArray];refine g9 (tf (qd2 (vs:=vs) (J:=J) hz (fun x ks s' C hl hx=>?_) hstep vs [] [] _ rfl rfl h0) (fun _ s' hd=>?_) fun _ _ x=>x)
 ·refine g9 (g0t (tf hx (fun k s'' hk=>?_) fun _ _ hF=>hF.elim))
  obtain⟨⟨e,he⟩,hc⟩:=hk;dsimp only;refine g9 (listUpdate_at he rfl ?_ (by rw [gj];lia) (mx (g5o (Array.size_push ..)) (by rw [gj];lia)));exact gc ⟨rfl,k,hc⟩
 ·obtain⟨ks,hl,hJ⟩:=hd
  obtain⟨⟨e,he⟩,hA, κ,G,lt,hkind,C,g,fin⟩:=hfin ks s' hl hJ;rw [ho6] at hA;refine g9 (listItems_at he rfl ?_);unfold ksk_end;dsimp only;rw [mj (by simp)];have hks:a≠s.heap.objs.size+1:=md (g1c ha);have tail:∀st':SortSt,failedOf st'=none->(arrOf st').toList.Perm (ks.zip vs)->(arrOf st').toList.Pairwise (le lt)->wpAny (model prog w) A (ksk_tail a false e1 (.ref (s.heap.objs.size+1)) st') P E s':=by
   intro st' hf hp hs;unfold ksk_tail;dsimp only;have eo:(arrOf st').map (·.2)=((arrOf st').toList.map (·.2)).toArray:=by
    apply Array.ext';rw [Array.toList_map]
   rw [eo];have hlen:((arrOf st').toList.map (·.2)).length=vs.length:=by rw [mv,hp.length_eq,g2e,hl,g3e]
   refine g9 (listUpdate_at he rfl ?_ (by rw [gj,hl];exact hz) (g03 _));refine g9 (g3w ?_);have hA2:(s'.heap.update (s.heap.objs.size+1) (Obj.mapSeq fun _=> #[])).get? a=some (seqObj "list" #[] e1):=by
    rw [g0f _ _ _ _ hks];exact hA
   refine g9 (seqEpoch_at hA2 rfl ?_);refine g9 (listUpdate_at hA2 rfl ?_ (g03 _) (by simp only [gm,p8];rw [gj,hlen];lia));rw [hf];simp only [bne_self_eq_false,gm,p8];exact gc (fin _ hp hs)
  have ez:(ks.toArray.zip vs.toArray).toList=ks.zip vs:=by simp
  by_cases h2:vs.toArray.size<2
  ·rw [mq h2,mq h2]
   refine g9 (gc ?_);rw [StateT.run_pure];refine g9 (gc ?_);dsimp only;refine tail _ rfl ?_ ?_
   ·show(ks.toArray.zip vs.toArray).toList.Perm _
    rw [ez]
   ·show(ks.toArray.zip vs.toArray).toList.Pairwise _
    rw [ez];have:(ks.zip vs).length<2:=by rw [g2e,hl,g3e];lia
    match ks.zip vs,this with
    | [],_=>exact .nil
    | [_],_=>exact g2v _ _
    | _ :: _ :: _,h=>simp at h;lia
  ·rw [mj h2,mj h2]
   have h2':2<=vs.length:=by lia
   refine g9 (hkind h2' _ _ ?_);have gp:∀p∈(ks.toArray.zip vs.toArray).toList,G p.1:=fun p hp=>by
    rw [ez] at hp;exact g _ (g2c hp).1
   refine g9 (tf (qlw (a₀:=ks.toArray.zip vs.toArray) (st:=SortSt.mk' κ (ks.toArray.zip vs.toArray) #[] 7 none)
    (Q:=fun _ st'=>failedOf st'=none/\(arrOf st').Perm (ks.toArray.zip vs.toArray)/\(arrOf st').toList.Pairwise (le lt)) (C h2') gp rfl rfl rfl rfl fun st' a1 a2 a3=>⟨a1,a2,a3⟩) ?_ fun _ _ e=>e)
   rintro⟨⟨⟩,st'⟩ s'' ⟨rfl,hf,hp,hs⟩
   dsimp only;refine tail st' hf ?_ hs;rw [<- ez];exact g1a.mp hp
theorem qeh{l fa:Addr}{vs:List Value}{Q:Value->Shared->Prop}(hl:s.heap.IsList l vs.toArray)(hz:vs.length<=sizeLine)(J:List Value->Shared->Prop)
  (h0:J [] {s with heap:=q0i (srtH s.heap vs) (s.heap.objs.size+1) vs})
  (hstep:∀l v r,vs=l++v :: r->∀ks s',ks.length=l.length->J ks s'->wpAny (model prog w) A.in1.in1 (call (.ref fa) [v]) (fun k s''=>(∃e,s''.heap.get? (s.heap.objs.size+3)=some (seqObj "list" (List.toArray ks) e))/\J (ks++[k]) {s'' with heap:=s''.heap.update (s.heap.objs.size+3) (Obj.mapSeq (·.push k))}) (fun _ _=>False) s')
  (hfin:∀ks s',ks.length=vs.length->J ks s'->(∃e,s'.heap.get? (s.heap.objs.size+3)=some (seqObj "list" (List.toArray ks) e))/\s'.heap.get? (s.heap.objs.size+1)=(q0i (srtH s.heap vs) (s.heap.objs.size+1) vs).get? (s.heap.objs.size+1) /\
   ∃ κ G lt,(2<=vs.length->∀(E:Value->Shared->Prop) (Q:SortKind->Shared->Prop),Q κ s'->wpAny (model prog w) A.in1.in1 (keyKind' ks.toArray) Q E s')/\(2<=vs.length->Cmp prog w A.in1.in1 s' κ G lt)/\(∀k∈ks,G k) /\
    ∀T:List (Value×Value),T.Perm (ks.zip vs)->T.Pairwise (le lt)->Q (.ref (s.heap.objs.size+1)) {s' with heap:=(s'.heap.update (s.heap.objs.size+3) (Obj.mapSeq fun _=> #[])).update (s.heap.objs.size+1) (Obj.mapSeq fun _=>(T.map (·.2)).toArray)}) :
  wpAny (model prog w) A (call (.builtin "sorted") [.ref l] [(Str.ofString "key",.ref fa)]) Q E s:=by
 refine call_function_entry_kw kind_sorted plain_sorted entry_sorted (ksk_s1 _ _) ?_;unfold Builtin.«sorted»;refine g9 (m:=checkCount "sorted" 1 1 _) (gc ?_);refine g9 (collect_list hl ?_ hz);refine g9 (wpAny_newList ?_ (by simpa using hz));have hsz:((s.heap.push (seqObj "list" #[] 0)).update s.heap.objs.size (Obj.mapSeq (· ++ vs.toArray))).objs.size=s.heap.objs.size+1:=by
  rw [g0d,g0y]
 have hsz2:(srtH s.heap vs).objs.size=s.heap.objs.size+2:=by unfold srtH;rw [g0y,hsz]
 have hoL:(srtH s.heap vs).get? (s.heap.objs.size+1)=some (seqObj "list" vs.toArray 0):=by
  unfold srtH;rw [<- hsz];exact m4 _ rfl
 show wpAny _ _ _ _ _ {s with heap:=srtH s.heap vs};rw [hsz];refine g9 (ug (wpAny_call_entry_kw slot_list_sort ⟨_,hoL,rfl⟩ entry_list_sort ?_ (ksk_l1 _ _)));show wpAny (model prog w) A.in1.in1 (Builtin.«list.sort» ⟨[.ref (s.heap.objs.size+1)],[(Str.ofString "key",.ref fa)]⟩) _ _ _;rw [ksk_t1];refine qlx (s:={s with heap:=srtH s.heap vs}) hoL hz J h0 ?_ ?_
 ·show ∀l v r,vs=l++v :: r->∀ks s',ks.length=l.length->J ks s'->wpAny (model prog w) A.in1.in1 (call (.ref fa) [v]) (fun k s''=>(∃e,s''.heap.get? ((srtH s.heap vs).objs.size+1)=some (seqObj "list" (List.toArray ks) e))/\J (ks++[k]) {s'' with heap:=s''.heap.update ((srtH s.heap vs).objs.size+1) (Obj.mapSeq (·.push k))}) (fun _ _=>False) s'
  rw [hsz2];exact hstep
 ·intro ks s' h1 h2
  show(∃e,s'.heap.get? ((srtH s.heap vs).objs.size+1)=some (seqObj "list" (List.toArray ks) e))/\s'.heap.get? (s.heap.objs.size+1)=(q0i (srtH s.heap vs) (s.heap.objs.size+1) vs).get? (s.heap.objs.size+1)/\_;obtain⟨b1,b2, κ,G,lt,b3,b4,b5,b6⟩:=hfin ks s' h1 h2;rw [hsz2];exact⟨b1,b2, κ,G,lt,b3,b4,b5,fun T t1 t2=>⟨_,rfl,gc ⟨_,rfl,b6 T t1 t2⟩⟩⟩
end
end Srt
namespace DL
open PySem PySem.Spec PyProof.Rows L2 Srt
variable[Lam]
theorem qj1:∀n,(∀d e:D,sizeOf d<n->shD d e=true->okE d e=true/\eqD d e=(!ltT d e && !ltT e d))/\(∀ds es:List D,sizeOf ds<n->shL ds es=true->xa ds es=true/\eqL ds es=(!q0w ds es && !q0w es ds)):=by
 intro n
 induction n with
 | zero=>exact⟨fun d e h=>absurd h (t6 _),fun d e h=>absurd h (t6 _)⟩
 | succ n ih=>
  refine⟨fun d e hn h=>?_,fun ds es hn h=>?_⟩
  ·cases d <;> cases e <;> simp only [shD] at h <;> first|(cases h;done)|skip
   ·refine⟨by simp [okE,flat,flD],?_⟩
    rw [vn,vn];simp only [eqD,eqF];rename_i i j
    by_cases e1:i=j
    ·subst e1;simp
    ·have:(i==j)=false:=by simpa using e1
     rw [this]
     by_cases e2:i<j
     ·simp [e2]
     ·have e3:j<i:=by lia
      simp [e3]
   ·rw [q0p,q0p]
    simp only [okE,eqD];exact ih.2 _ _ (by simp at hn;lia) h
  ·cases ds with
   | nil=>cases es <;> simp [xa,eqL,q2q,q1r]
   | cons d ds=>
    cases es with
    | nil=>simp [xa,eqL,q2q,q1r]
    | cons e es=>
     simp only [shL,mi] at h;obtain⟨a1,a2⟩:=ih.1 d e (by simp at hn;lia) h.1;obtain⟨b1,b2⟩:=ih.2 ds es (by simp at hn;lia) h.2;refine⟨by simp only [xa,a1,b1,Bool.and_true],?_⟩;rw [q1q,q1q];simp only [eqL,a2,b2];cases e1:ltT d e <;> cases e2:ltT e d <;> simp
theorem qtr{d e:D}(h:shD d e=true): okE d e=true:=((qj1 (sizeOf d+1)).1 d e (tw _) h).1
theorem qno{d e:D}(h:shD d e=true): eqD d e=(!ltT d e && !ltT e d):=((qj1 (sizeOf d+1)).1 d e (tw _) h).2
section
variable{X:Cx}{pins:List (Addr×Obj)}{σ : St}{F H:Hp}{s:Shared}
theorem q9t{A:Around}(I:Inv X pins σ H s)(fh:Same F H)(f:Bool): ∀ {ds es:List D} {xs ys:List V} {us vs:List Value},(∀d∈ds,∀e x y u v,shD d e=true->A.units+q0g d<cLine->Rep X.K F d x->Rep X.K F e y->RelV x u->RelV y v->LtAt A s u v (ltT d e)) ->
  shL ds es=true->A.units+xb ds<cLine->RepL X.K F ds xs->RepL X.K F es ys->Vals xs us->Vals ys vs->f=decide (ds.length<es.length)->LexAt A s f (us.zip vs) (q0w ds es)
 | [],es,xs,ys,us,vs,_,_,_,k1,k2,w1,w2,hf=>by
  cases k1.nil_inv;cases w1;cases es with
  | nil=>rw [q2q];simp only [List.zip_nil_left];rw [show false=f by rw [hf];simp];exact .nil
  | cons e es=>rw [q1r];simp only [List.zip_nil_left];rw [show true=f by rw [hf];simp];exact .nil
 | d :: ds,[],xs,ys,us,vs,_,_,_,k1,k2,w1,w2,hf=>by
  cases k2.nil_inv;cases w2;rw [q2q];simp only [List.zip_nil_right];rw [show false=f by rw [hf];simp];exact .nil
 | d :: ds,e :: es,xs,ys,us,vs,ih,hs,hu,k1,k2,w1,w2,hf=>by
  obtain⟨x,r,rfl,a1,a2⟩:=k1.cons_inv;obtain⟨y,r',rfl,b1,b2⟩:=k2.cons_inv;cases w1 with
  | cons p1 p2=>
   cases w2 with
   | cons p3 p4=>
    simp only [shL,mi] at hs;simp only [xb] at hu;rw [List.zip_cons_cons];have he:=q8i I fh A (qtr hs.1) (by lia) a1 b1 p1 p3;have hl:=ih d gq e x y _ _ hs.1 (by lia) a1 b1 p1 p3;rw [qno hs.1] at he;rw [q1q];cases e1:ltT d e
    ·cases e2:ltT e d
     ·rw [e1,e2] at he
      simp only [g35,g20,g4b];exact .eq he (q9t I fh f (fun d' hd'=>ih d' (gr _ hd')) hs.2 (by lia) a2 b2 p2 p4 (by rw [hf];simp))
     ·rw [e1,e2] at he
      rw [e1] at hl;exact .ne he hl
    ·rw [e1] at he hl
     exact .ne he hl
theorem qrz(I:Inv X pins σ H s)(fh:Same F H): ∀ {d e:D} {x y:V} {u v:Value} (A:Around),shD d e=true->A.units+q0g d<cLine->Rep X.K F d x->Rep X.K F e y->RelV x u->RelV y v->LtAt A s u v (ltT d e):=by
 suffices hh:∀n,(∀d e x y u v (A:Around),sizeOf d<n->shD d e=true->A.units+q0g d<cLine->Rep X.K F d x->Rep X.K F e y->RelV x u->RelV y v->LtAt A s u v (ltT d e)) from
  fun {d e x y u v} A=>hh (sizeOf d+1) d e x y u v A (tw _)
 intro n
 induction n with
 | zero=>intro d e x y u v A h;exact absurd h (t6 _)
 | succ n ih=>
  intro d e x y u v A hn hs hu r1 r2 q1 q2;cases d <;> cases e <;> simp only [shD] at hs <;> first|(cases hs;done)|skip
  ·cases rep_int.mp r1
   cases rep_int.mp r2;obtain⟨t,rfl⟩:=q1;obtain⟨t',rfl⟩:=q2;rw [vn];intro prog w E Q h;exact lt_int h
  ·rename_i ds es
   obtain⟨a,xs,rfl,k1,k2⟩:=rep_tup.mp r1;obtain⟨b,ys,rfl,k3,k4⟩:=rep_tup.mp r2;cases q1;cases q2;obtain⟨i1,v1,t1,_⟩:=I.tuple (ql fh k1);obtain⟨i2,v2,t2,_⟩:=I.tuple (ql fh k3);simp only [q0g] at hu;rw [q0p];refine LtAt.tuples (show s.heap.IsTuple a i1.toArray from t1) (show s.heap.IsTuple b i2.toArray from t2) (by lia) ?_;refine q9t I fh _ (fun d hd e x y u v s1 s2 s3 s4 s5 s6=>ih d e x y u v A.in1 ?_ s1 s2 s3 s4 s5 s6) hs (by show A.units+1+xb ds<cLine;lia) k2 k4 v1 v2 ?_
   ·have:=List.sizeOf_lt_of_mem hd
    simp at hn;lia
   ·rw [gj,gj, <- v1.length, <- v2.length, <- k2.length, <- k4.length]
theorem qly(I:Inv X pins σ H s)(fh:Same F H): ∀ {d e:D} {x:V},kD d=true->kD e=true->Rep X.K F d x->Rep X.K F e x->d=e:=by
 suffices hh:∀n,(∀d e x,sizeOf d<n->kD d=true->kD e=true->Rep X.K F d x->Rep X.K F e x->d=e) from fun {d e x}=>hh (sizeOf d+1) d e x (tw _)
 intro n
 induction n with
 | zero=>intro d e x h;exact absurd h (t6 _)
 | succ n ih=>
  intro d e x hn kd ke r1 r2;cases d <;> simp only [kD] at kd <;> first|(cases kd;done)|skip
  all_goals (cases e <;> simp only [kD] at ke <;> first|(cases ke;done)|skip)
  ·cases rep_int.mp r1
   cases rep_int.mp r2
   rfl
  ·cases rep_int.mp r1
   obtain⟨_,_,z,_⟩:=rep_tup.mp r2;cases z
  ·obtain⟨_,_,z,_⟩:=rep_tup.mp r1
   cases rep_int.mp r2;cases z
  ·rename_i ds es
   obtain⟨a,xs,rfl,k1,k2⟩:=rep_tup.mp r1;obtain⟨b,ys,z,k3,k4⟩:=rep_tup.mp r2;cases z;cases I.tuple_inj (ql fh k1) (ql fh k3);have seq:∀(ds es:List D) (xs:List V),sizeOf ds<n->kDL ds=true->kDL es=true->RepL X.K F ds xs->RepL X.K F es xs->ds=es:=by
    intro ds
    induction ds with
    | nil=>
     intro es xs _ _ _ k1 k2;cases k1.nil_inv;cases es with
     | nil=>rfl
     | cons e es=>obtain⟨_,_,z,_⟩:=k2.cons_inv;cases z
    | cons d ds ihd=>
     intro es xs hs h1 h2 k1 k2;obtain⟨x,r,rfl,a1,a2⟩:=k1.cons_inv;cases es with
     | nil=>cases k2.nil_inv
     | cons e es=>
      obtain⟨x',r',z,b1,b2⟩:=k2.cons_inv;cases z;simp only [kDL,mi] at h1 h2;rw [ih d e x (by simp at hs;lia) h1.1 h2.1 a1 b1,ihd es r (by simp at hs;lia) h1.2 h2.2 a2 b2]
   rw [seq ds es xs (by simp at hn;lia) kd ke k2 k4]
theorem qj2{d e:D}{x y:V}{u:Value}{K:Frag}(kd:kD d=true)(ke:kD e=true)(r1:Rep K F d x)(r2:Rep K F e y)(q1:RelV x u)(q2:RelV y u): x=y:=by
 cases d <;> simp only [kD] at kd <;> first|(cases kd;done)|skip
 all_goals (cases e <;> simp only [kD] at ke <;> first|(cases ke;done)|skip)
 ·cases rep_int.mp r1
  cases rep_int.mp r2;obtain⟨t,rfl⟩:=q1;obtain⟨t',z⟩:=q2;cases z
  rfl
 ·cases rep_int.mp r1
  obtain⟨_,_,rfl,_⟩:=rep_tup.mp r2;obtain⟨t,rfl⟩:=q1;cases q2
 ·obtain⟨_,_,rfl,_⟩:=rep_tup.mp r1
  cases rep_int.mp r2;cases q1;obtain⟨t',z⟩:=q2;cases z
 ·obtain⟨_,_,rfl,_⟩:=rep_tup.mp r1
  obtain⟨_,_,rfl,_⟩:=rep_tup.mp r2;cases q1;cases q2
  rfl
def q40(K:Frag)(F:Hp)(d:D)(u:Value): Prop:=kD d=true/\∃x,Rep K F d x/\RelV x u
open Classical in
noncomputable def keyOf(K:Frag)(F:Hp)(u:Value): D:=if h:∃d,q40 K F d u then Classical.choose h else .non
theorem q7k(I:Inv X pins σ H s)(fh:Same F H){d:D}{u:Value}(h:q40 X.K F d u): keyOf X.K F u=d:=by
 unfold keyOf;rw [dif_pos ⟨d,h⟩];obtain⟨k1,x,a1,a2⟩:=Classical.choose_spec (⟨d,h⟩:∃d,q40 X.K F d u);obtain⟨k2,y,b1,b2⟩:=h;obtain rfl:=qj2 k1 k2 a1 b1 a2 b2;exact qly I fh k1 k2 a1 b1
theorem qj3{α β : Type}(f : α -> β){l:List β}{m:List β}(p:l.Perm m): ∀ {L:List α},m=L.map f->∃L':List α,L'.Perm L/\l=L'.map f:=by
 induction p with
 | nil=>intro L h;cases L with
  | nil=>exact⟨[],.refl _,rfl⟩
  | cons a L=>cases h
 | cons x p ih=>
  intro L h;cases L with
  | nil=>cases h
  | cons a L=>
   rw [gu] at h;injection h with h1 h2
   obtain⟨L',p',e⟩:=ih h2;exact⟨a :: L',p'.cons a,by rw [gu, <- e,h1]⟩
 | swap x y r=>
  intro L h
  match L,h with
  | [],h=>cases h
  | [a],h=>injection h with h1 h2;cases h2
  | a :: b :: L,h=>
   rw [gu,gu] at h;injection h with h1 h2
   injection h2 with h2 h3
   exact⟨b :: a :: L,.swap a b L,by rw [gu,gu, <- h1, <- h2, <- h3]⟩
 | trans p q ih1 ih2=>
  intro L h;obtain⟨L2,p2,e2⟩:=ih2 h;obtain⟨L1,p1,e1⟩:=ih1 e2;exact⟨L1,p1.trans p2,e1⟩
end
end DL
namespace DL
open PySem PySem.Spec PyProof.Rows L2 Srt PySem.W
variable[Lam]
def isI:D->Bool
 | .int _=>true
 | _=>false
def qnp:D->Bool
 | .tup (.int _ :: _)=>true
 | _=>false
def qbn(ks:List D): Bool:=ks.all kD&&(ks.all fun d=>ks.all fun e=>shD d e)&&(ks.all isI || (ks.all qnp&&ks.all fun d=>decide (q0g d<=50)))
section
variable{X:Cx}{pins:List (Addr×Obj)}{σ : St}{F H:Hp}{s:Shared}
theorem qj4{prog:Program}{w:World}{A:Around}{f c:Bool}{Q:Bool->Shared->Prop}{l:List (Value×Value)}(h:LexAt A s f l c): ∀i,1<=i->Q c s->KatLex prog w A true f Q l i s:=by
 induction h with
 | nil=>intro i _ q;exact kat_nil q
 | eq e _ ih=>intro i hi q;exact kat_cons (e prog w _ _ (kat_yes (ih (i+1) (by lia) q)))
 | ne e k=>
  intro i hi q;refine kat_cons (e prog w _ _ (kat_no ?_));have:(true&&i==0)=false:=by simp;lia
  rw [this];exact kat_one _ _ (k prog w _ _ q)
theorem q8p{h:Heap}: ∀ {vs:List Value},(∀v∈vs,∃a o xs n i t,v=.ref a/\h.get? a=some o/\o.cls=.type "tuple" /\ o.data=.seq xs n/\xs[0]? = some (Value.int i t)) ->
  ∃fs:List Value,KatTups h vs fs/\fs.length=vs.length/\∀v∈fs,∃i t,v=Value.int i t
 | [],_=>⟨[],.nil,rfl,fun v hv=>by cases hv⟩
 | v :: vs,hh=>by
  obtain⟨a,o,xs,n,i,t,rfl,h1,h2,h3,h4⟩:=hh v gq;obtain⟨fs,k1,k2,k3⟩:=q8p fun v hv=>hh v (gr _ hv);refine⟨.int i t :: fs,.cons h1 h2 h3 h4 k1,by simp [k2],fun v hv=>?_⟩;rcases m6.mp hv with rfl|hv
  ·exact⟨i,t,rfl⟩
  ·exact k3 v hv
theorem qts(I:Inv X pins σ H s)(fh:Same F H)(A:Around)(hu:A.units+60<cLine){us:List Value}{ks:List D}(st:∀u∈us,∃d∈ks,q40 X.K F d u)(ok:qbn ks=true):
  ∃ κ,(2<=us.length->∀(E:Value->Shared->Prop) (Q:SortKind->Shared->Prop),Q κ s->wpAny (model X.prog X.w) A (keyKind' us.toArray) Q E s) /\
   Cmp X.prog X.w A s κ (fun u=>u∈us) (fun u v=>ltT (keyOf X.K F u) (keyOf X.K F v)):=by
 unfold qbn at ok;rw [mi,mi,g0r,mi] at ok;obtain⟨⟨_,o2⟩,o3⟩:=ok;have sh:∀d∈ks,∀e∈ks,shD d e=true:=fun d hd e he=>my.mp (my.mp o2 d hd) e he;rcases o3 with o3|⟨o3,o4⟩
 ·have hin:∀u∈us,∃n t,u=Value.int n t/\keyOf X.K F u=.int n:=fun u hu=>by
   obtain⟨d,hd,hs⟩:=st u hu;have hk:=q7k I fh hs;have:=my.mp o3 d hd;cases d <;> simp only [isI] at this <;> first|(cases this;done)|skip
   obtain⟨_,x,r,q⟩:=hs;cases rep_int.mp r;obtain⟨t,rfl⟩:=q;exact⟨_,t,rfl,hk⟩
  refine⟨oneType',fun h2 E Q q=>?_,⟨fun x y gx gy Q q=>?_,fun x y h=>qcw h,fun x y z h k=>qcx h k⟩⟩
  ·match us,h2,hin with
   | v₁ :: v₂ :: vs,_,hin=>
    rw [keyKind_ints (intsAre_map _ fun v hv=>let⟨n,t,e,_⟩:=hin v hv; ⟨n,t,e⟩)];exact gc q
  ·obtain⟨n,t,rfl,e1⟩:=hin x gx
   obtain⟨m,t',rfl,e2⟩:=hin y gy;rw [e1,e2,vn] at q;exact kat_lt_int q
 ·have tups:∀u∈us,∃d∈ks,q40 X.K F d u/\keyOf X.K F u=d/\q0g d<=50/\∃i ds,d=.tup (.int i :: ds):=fun u hu=>by
   obtain⟨d,hd,hs⟩:=st u hu;have hk:=q7k I fh hs;have:=my.mp o3 d hd;have h4:=uk (my.mp o4 d hd);unfold qnp at this
   split at this
   ·exact⟨_,hd,hs,hk,h4,_,_,rfl⟩
   ·cases this
  refine⟨tuples' true,fun h2 E Q q=>?_,⟨fun x y gx gy Q q=>?_,fun x y h=>qcw h,fun x y z h k=>qcx h k⟩⟩
  ·obtain⟨fs,k1,k2,k3⟩:=q8p (h:=s.heap) (vs:=us) fun v hv=>by
    obtain⟨d,_,⟨_,x,r,qx⟩,_,_,i,ds,rfl⟩:=tups v hv;obtain⟨a,xs,rfl,q1,q2⟩:=rep_tup.mp r;cases qx;obtain⟨x0,r0,rfl,z1,z2⟩:=q2.cons_inv;cases rep_int.mp z1;obtain⟨its,r1,⟨o,ho,hc,n,hd⟩,_⟩:=I.tuple (ql fh q1);cases r1 with
    | cons p1 p2=>
     obtain⟨t,rfl⟩:=p1;exact⟨a,o,_,n,i,t,rfl,ho,hc,hd,by simp⟩
   refine kat_kind (T:=.type "int") k1 (by lia) (fun v hv=>?_) (by rfl) q;obtain⟨i,t,rfl⟩:=k3 v hv;exact Looks.of_pure rfl
  ·obtain⟨d,hd,⟨_,x',r,qx⟩,e1,dp,i,ds,rfl⟩:=tups x gx
   obtain⟨e,he,⟨_,y',r',qy⟩,e2,dp',j,es,rfl⟩:=tups y gy;rw [e1,e2] at q;have hs:=sh _ hd _ he;obtain⟨a,xs,rfl,q1,q2⟩:=rep_tup.mp r;obtain⟨b,ys,rfl,q3,q4⟩:=rep_tup.mp r';cases qx;cases qy;obtain⟨x0,r0,rfl,z1,z2⟩:=q2.cons_inv;obtain⟨y0,w0,rfl,z3,z4⟩:=q4.cons_inv;have z1':=z1;have z3':=z3;cases rep_int.mp z1;cases rep_int.mp z3;obtain⟨its,r1,⟨o,ho,hc,n,hdt⟩,_⟩:=I.tuple (ql fh q1);obtain⟨its2,r2,⟨o2,ho2,hc2,n2,hdt2⟩,_⟩:=I.tuple (ql fh q3);have l1:=r1.length;have l2:=r2.length;have m1:=q2.length;have m2:=q4.length;cases r1 with
   | cons p1 p2=>
    cases r2 with
    | cons p3 p4=>
     have hp1:=p1;have hp3:=p3;obtain⟨t,rfl⟩:=p1;obtain⟨t',rfl⟩:=p3;simp only [shD,shL,mi] at hs;simp only [q0g,xb] at dp;refine kat_lt ho hdt ho2 hdt2 ?_;rw [q0p,q1q] at q;have hE:=q8i I fh A (d:=.int i) (e:=.int j) (by simp [okE,flat,flD]) (by simp only [q0g];lia) z1' z3' hp1 hp3;rw [qno (by simp only [shD])] at hE;simp only [List.zip_cons_cons];have lex:=q9t I fh (A:=A) (decide (ds.length<es.length)) (fun d _ e x y u v s1 s2 s3 s4 s5 s6=>qrz I fh A s1 s2 s3 s4 s5 s6) hs.2 (by lia) z2 z4 p2 p4 rfl;have ef:∀ {m1 m2:List Value},Paired RelV r0 m1->Paired RelV w0 m2->decide ((Value.int i t :: m1).toArray.size<(Value.int j t' :: m2).toArray.size)=decide (ds.length<es.length):=fun a3 a4=>by
      simp only [gj,p5];rw [<- g46 a3, <- g46 a4, <- z2.length, <- z4.length];simp
     rw [ef p2 p4];cases c1:ltT (.int i) (.int j)
     ·cases c2:ltT (.int j) (.int i)
      ·rw [c1,c2] at hE q
       simp only [g35,g20,g4b] at q;exact kat_cons (hE X.prog X.w _ _ (kat_yes (qj4 lex 1 (gv _) q)))
      ·rw [c1,c2] at hE q
       refine kat_cons (hE X.prog X.w _ _ (kat_no ?_));have c1':decide (i<j)=false:=by rw [<- vn];exact c1
       refine oneLt_int ?_;rw [c1'];exact q
     ·rw [c1] at hE q
      refine kat_cons (hE X.prog X.w _ _ (kat_no ?_));have c1':decide (i<j)=true:=by rw [<- vn];exact c1
      refine oneLt_int ?_;rw [c1'];exact q
theorem qs0{K:Frag}: ∀ {ds:List D} {ys:List V} {its:List Value},RepL K F ds ys->Vals ys its->∃T:List (V×Value×D),T.map (·.1)=ys/\T.map (·.2.1)=its/\T.map (·.2.2)=ds/\∀t∈T,Rep K F t.2.2 t.1/\RelV t.1 t.2.1
 | [],ys,its,k2,r1=>by
  cases k2.nil_inv;cases r1;exact⟨[],rfl,rfl,rfl,fun t ht=>by cases ht⟩
 | d :: ds,ys,its,k2,r1=>by
  obtain⟨x,r,rfl,a1,a2⟩:=k2.cons_inv;cases r1 with
  | cons b1 b2=>
   rename_i u' us';obtain⟨T,t1,t2,t3,t4⟩:=qs0 a2 b2;refine⟨(x,u',d) :: T,by simp [t1],by simp [t2],by simp [t3],fun t ht=>?_⟩;rcases m6.mp ht with rfl|ht
   ·exact⟨a1,b1⟩
   ·exact t4 t ht
end
section
variable{X:Cx}{pins:List (Addr×Obj)}{σ : St}{F H:Hp}{s:Shared}
structure Late(X:Cx)(pins:List (Addr×Obj))(b:Addr): Prop where
 loc:b≠X.env.locals
 up:X.s₀.heap.objs.size<=b
 cel:∀x c,X.env.cells.lookup x=some c->c≠b
 pin:∀p∈X.pn++pins,p.1≠b
 frs:b∉frs X.stack
theorem qs1(I:Inv X pins σ H s){b:Addr}(hb:s.heap.objs.size<=b): Late X pins b where
 loc:=tu (m8 I.lt hb)
 up:=mx I.sz hb
 cel:=fun x c e z=>by
  subst z;obtain⟨v,o,ho,_⟩:=I.cell x c e;exact absurd (gz ho) (g5l.mpr hb)
 pin:=fun p hp z=>by
  subst z;exact absurd (gz (I.pin p hp).1) (g5l.mpr hb)
 frs:=fun z=>(m6.mp (I.stkSub b z)).elim (tu (m8 I.lt hb)) (I.nofs hb)
theorem qd3(I:Inv X pins σ H s){b:Addr}(l:Late X pins b){h':Heap}(k:∀c o,c≠b->s.heap.get? c=some o->h'.get? c=some o)(hn:H b=none): Inv X pins σ H {s with heap:=h'}:=
 I.turned (t':=s.toks) k hn l.loc (.inr l.up) l.cel l.pin
theorem qj5(I:Inv X pins σ H s){b:Addr}(l:Late X pins b){h':Heap}{o:HO}(k:∀c o,c≠b->s.heap.get? c=some o->h'.get? c=some o)(hn:H b=none)(new:ObjOk X.prog X.w (upd H b o) h' b o):
  Inv X pins σ (upd H b o) {s with heap:=h'}:=by
 have nb:∀c u,H c=some u->c≠b:=fun c u e z=>by rw [z,hn] at e;cases e
 refine I.step (t':=s.toks) (g':=s.gens) (d':=s.drawn) (ch:=[b]) (fun c hc=>?_) (fun c u _ _ hc e _=>k c u (fun z=>hc (by simp [z])) e) (fun c u _ _ hc e _=>⟨u.slots,k c u (fun z=>hc (by simp [z])) e⟩)
  (fun c u hc _ n=>by rw [qk (fun z=>hc (by simp [z]))];exact n) (fun c u hc e=>⟨u,k c u (fun z=>hc (by simp [z])) e⟩) (fun c xs e=>by rw [qk (nb c _ e)];exact e) (fun c _ _ e=>by rw [qk (nb c _ e)];exact e)
  (fun c ps e=>⟨#[],by rw [qk (nb c _ e),e];simp⟩) (fun m hm=>?_) (fun c u e=>?_) I.bare
 ·have e:c=b:=by simpa using hc
  subst e;exact⟨.inr l.up,l.loc,l.cel,l.pin⟩
 ·obtain⟨u,es,ep,ho,r⟩:=hm
  exact⟨u,es,ep,k _ u (nh l.loc) ho,r⟩
 ·by_cases hc:c=b
  ·subst hc;rw [qt] at e;cases e;exact new
  ·rw [qk hc] at e
   refine(I.hok c u e).stay (fun d v hd q=>k d v ?_ q) (fun d q=>by rw [qk (nb d _ q)];exact q) fun d xs q=>by rw [qk (nb d _ q)];exact q
   rcases hd with z|z
   ·rw [z];exact hc
   ·exact nb d _ z
def q0c(op:List D->Option D): List D->Option (List D)
 | []=>some []
 | d :: ds=>(op [d]).bind fun k=>(q0c op ds).map fun ks=>k :: ks
def q9u:List D->Bool
 | []=>true
 | k :: r=>(r.all fun e=>ltT k e || ltT e k)&&q9u r
def q5q(op:List D->Option D): D->Option (List D)
 | .lst ds=>(q0c op ds).bind fun ks=>if qbn ks&&q9u ks then some ((q4m (ks.zip ds)).map Prod.snd) else none
 | _=>none
theorem q8q{op:List D->Option D}: ∀ {l:List D} {d k:D} {ks:List D},q0c op l=some ks->op [d]=some k->q0c op (l++[d])=some (ks++[k])
 | [],d,k,ks,h,e=>by
  cases h;simp [q0c,e]
 | x :: l,d,k,ks,h,e=>by
  simp only [q0c] at h;obtain⟨k1,h1,h2⟩:=gh.mp h;obtain⟨ks1,h3,h4⟩:=ml.mp h2;subst h4;simp only [g36,q0c,h1,mm,q8q h3 e,pb]
theorem qam{op:List D->Option D}: ∀ {l ks:List D},q0c op l=some ks->ks.length=l.length
 | [],ks,h=>by cases h;rfl
 | x :: l,ks,h=>by
  simp only [q0c] at h;obtain⟨k1,h1,h2⟩:=gh.mp h;obtain⟨ks1,h3,h4⟩:=ml.mp h2;subst h4;simp [qam h3]
theorem qan{op:List D->Option D}: ∀ {l ks:List D} {d:D},q0c op l=some ks->d∈l->∃k,op [d]=some k
 | x :: l,ks,d,h,hd=>by
  simp only [q0c] at h;obtain⟨k1,h1,h2⟩:=gh.mp h;obtain⟨ks1,h3,h4⟩:=ml.mp h2;rcases m6.mp hd with rfl|hd
  ·exact⟨k1,h1⟩
  ·exact qan h3 hd
theorem qfv:∀ {ks:List D},q9u ks=true->∀ {i j:Nat} (hi:i<ks.length) (hj:j<ks.length),ltT ks[i] ks[j]=false->ltT ks[j] ks[i]=false->i=j
 | k :: r,h,0,0,_,_,_,_=>rfl
 | k :: r,h,0,j+1,hi,hj,a,b=>by
  simp only [q9u,mi] at h;have:=my.mp h.1 (r[j]'(by simpa using hj)) (by simp);simp only [g5c,g1r] at a b;rw [a,b] at this;cases this
 | k :: r,h,i+1,0,hi,hj,a,b=>by
  simp only [q9u,mi] at h;have:=my.mp h.1 (r[i]'(by simpa using hi)) (by simp);simp only [g5c,g1r] at a b;rw [a,b] at this;cases this
 | k :: r,h,i+1,j+1,hi,hj,a,b=>by
  simp only [q9u,mi] at h;simp only [g1r] at a b;rw [qfv h.2 (by simpa using hi) (by simpa using hj) a b]
theorem qd4{α β γ δ : Type}: ∀ {a:List α} {b:List β} {c:List γ} {d:List δ},a.length=b.length->b.length=c.length->c.length=d.length ->
  ∃T:List (α × β × γ × δ),T.map (·.1)=a/\T.map (·.2.1)=b/\T.map (·.2.2.1)=c/\T.map (·.2.2.2)=d
 | [],[],[],[],_,_,_=>⟨[],rfl,rfl,rfl,rfl⟩
 | x :: a,y :: b,z :: c,w :: d,h1,h2,h3=>by
  obtain⟨T,t1,t2,t3,t4⟩:=qd4 (a:=a) (b:=b) (c:=c) (d:=d) (by simpa using h1) (by simpa using h2) (by simpa using h3);exact⟨(x,y,z,w) :: T,by simp [t1],by simp [t2],by simp [t3],by simp [t4]⟩
theorem qd5{h:Heap}{a:Addr}{ks:List Value}{e:Nat}(ho:h.get? a=some (seqObj "list" ks.toArray e))(k:Value): ∃e',(h.update a (Obj.mapSeq (·.push k))).get? a=some (seqObj "list" (ks++[k]).toArray e'):=by
 have:=g1p ho (·.push k);have e2:(ks.toArray.push k)=(ks++[k]).toArray:=by simp
 rw [e2] at this;exact⟨_,this⟩
theorem qj6{k k':Nat}{fn l:Addr}{fd:FuncData}{ps:List Str}{sp:Sp}{op:List D->Option D}{ds es:List D}{Q:VK}(Fk:FnOk X.prog X.w X.K X.mg X.base CX0 k fn fd ps sp)
  (hsp:∀(F' H':Hp) (dv kd:D) (x:V) (Q':VK),Grow F H F' H'->Rep X.K F' dv x->op [dv]=some kd->(∀v F'' H'',Grow F' H' F'' H''->Rep X.K F'' kd v->Q' v H'')->sp [x] H' Q' E0) (hb:Binds X.K fd ps []) (hr:Room k' X.A) (hk:k+2<=k')
  (I:Inv X pins σ H s) (fh:Same F H) (rl:Rep X.K F (.lst ds) (.ref l)) (ho:q5q op (.lst ds)=some es)
  (q:∀a ys F' H',Grow F H F' H'->F' a=none->H a=none->H' a=some (.lst ys)->RepL X.K F' es ys->Q (.ref a) H') :
  wpAny (model X.prog X.w) X.A (call (.builtin "sorted") [.ref l] [(Str.ofString "key",.ref fn)]) (EP X pins σ Q) X.xe s:=by
 unfold q5q at ho;dsimp only at ho;obtain⟨dks,hks,ho⟩:=gh.mp ho
 split at ho
 ·rename_i hok
  rw [mi] at hok;cases ho;obtain⟨a,ys,z,k1,k2⟩:=rep_lst.mp rl;cases z;obtain⟨its,r1,p1,hz⟩:=I.list (fh.seq k1);have hlen:its.length<=sizeLine:=by rw [<- r1.length];exact hz
  have hlds:ds.length=its.length:=by rw [k2.length,r1.length]
  have hlks:=qam hks;have L1:Late X pins (s.heap.objs.size+1):=qs1 I (g29 _);have L3:Late X pins (s.heap.objs.size+3):=qs1 I (g37 _ _);have rm:Room k X.A.in1.in1:=((hr.mono hk).in1).in1;have hu:X.A.in1.in1.units+60<cLine:=by have:=rm.units;lia
  have z1:((s.heap.push (seqObj "list" #[] 0)).update s.heap.objs.size (Obj.mapSeq (· ++ its.toArray))).objs.size=s.heap.objs.size+1:=by rw [g0d,g0y]
  have keep:∀b o,s.heap.get? b=some o->(q0i (srtH s.heap its) (s.heap.objs.size+1) its).get? b=some o:=fun b o qb=>by
   have hlt:b<s.heap.objs.size:=gz qb;unfold q0i srtH;have ne:∀k,b≠s.heap.objs.size+k:=fun k=>md (m8 hlt (g37 _ _));rw [g0o _ _ _ (by rw [g0y,g0d,g0y,z1];exact ne 3),g0o _ _ _ (by rw [g0d,g0y,z1];exact ne 2),g0f _ _ _ _ (ne 1),
    g0o _ _ _ (by rw [z1];exact ne 1),g0f _ _ _ _ (show b≠s.heap.objs.size from ne 0),g0o _ _ _ (show b≠s.heap.objs.size from ne 0)]
   exact qb
  have I6:Inv X pins σ H {s with heap:=q0i (srtH s.heap its) (s.heap.objs.size+1) its}:=I.kept (t':=s.toks) keep;have hoL:(srtH s.heap its).get? (s.heap.objs.size+1)=some (seqObj "list" its.toArray 0):=by
   unfold srtH;rw [<- z1];exact m4 _ rfl
  have zs:(srtH s.heap its).objs.size=s.heap.objs.size+2:=by unfold srtH;rw [g0y,z1]
  obtain⟨e1,ho1⟩:∃e1,((srtH s.heap its).update (s.heap.objs.size+1) (Obj.mapSeq fun _=>(#[]:Array Value))).get? (s.heap.objs.size+1)=some (seqObj "list" #[] e1):=⟨_,g1p hoL fun _=> #[]⟩
  have hoA:(q0i (srtH s.heap its) (s.heap.objs.size+1) its).get? (s.heap.objs.size+1)=some (seqObj "list" #[] e1):=by
   unfold q0i;rw [g0o _ _ _ (by rw [g0y,g0d,zs];exact md (by lia)),g0o _ _ _ (by rw [g0d,zs];exact md (by lia))];exact ho1
  have hoK:(q0i (srtH s.heap its) (s.heap.objs.size+1) its).get? (s.heap.objs.size+3)=some (seqObj "list" ([]:List Value).toArray 0):=by
   unfold q0i;have:s.heap.objs.size+3=(((srtH s.heap its).update (s.heap.objs.size+1) (Obj.mapSeq fun _=>(#[]:Array Value))).push (seqObj "tuple" its.toArray 0)).objs.size:=by rw [g0y,g0d,zs]
   rw [this];exact m4 _ rfl
  have hn1:H (s.heap.objs.size+1)=none:=I.hok.fresh (g29 _);have hn3:H (s.heap.objs.size+3)=none:=I.hok.fresh (g37 _ _);refine qeh p1.isList hlen (fun ks s'=>∃F' H' xks kds e,Inv X pins σ H' s'/\Grow F H F' H'/\RepL X.K F' kds xks/\Vals xks ks/\q0c op (ds.take ks.length)=some kds /\
   s'.heap.get? (s.heap.objs.size+3)=some (seqObj "list" ks.toArray e)/\H' (s.heap.objs.size+3)=none/\s'.heap.get? (s.heap.objs.size+1)=some (seqObj "list" #[] e1)/\H' (s.heap.objs.size+1)=none)
   ⟨F,H,[],[],0,I6,.refl fh,.nil,.nil,rfl,hoK,hn3,hoA,hn1⟩ ?_ ?_
  ·rintro l0 v r0 hv ks s' hl ⟨F',H',xks,kds,e,I',g',rk,vk,hkd,hK,nK,hA,nA⟩
   -- the next item
   have hi:ks.length<ds.length:=by rw [hlds,hv,hl];simp
   have hvi:its[ks.length]? = some v:=by rw [hv,hl];simp
   obtain⟨dv,hdv⟩:∃dv,ds[ks.length]? = some dv:=⟨_,g2k ds _ hi⟩
   obtain⟨x,hx,rx⟩:=k2.get hdv;obtain⟨u,hu',ru⟩:=r1.get hx;rw [hvi] at hu';obtain rfl:v=u:=mh hu';obtain⟨kd,hkd'⟩:=qan hks (g0b hdv);have hbs:BindsTo s' fd ⟨[v],[]⟩ (ps.zip ([v]++[])):=hb s' [v] I'.kIn (by
    have:=Fk.len [x] H' (fun v H''=>∃F'',Grow F' H' F'' H''/\Rep X.K F'' kd v) E0 (hsp F' H' dv kd x _ g' (rx.mono g'.ff) hkd' fun v F'' H'' g'' r''=>⟨F'',g'',r''⟩)
    simpa using this)
   refine g3c (g2f (Fk.run X.A.in1.in1 X.stack s' H' ⟨[v],[]⟩ [v] [x] (fun v H''=>∃F'',Grow F' H' F'' H''/\Rep X.K F'' kd v) E0 rm ⟨I'.ok.frames,I'.ok.mod,I'.bs,mx I'.ok.bsz I'.sz,I'.stack,I'.stkFree,I'.hok,I'.bare⟩ hbs (.cons ru .nil)
    (hsp F' H' dv kd x _ g' (rx.mono g'.ff) hkd' fun v F'' H'' g'' r''=>⟨F'',g'',r''⟩)) fun r s'' hq=>?_)
   cases r with
   | error er=>exact hq.elim
   | ok fl=>
    cases fl with
    | next=>exact False.elim hq
    | brk=>exact False.elim hq
    | cont=>exact False.elim hq
    | ret kv=>
     obtain⟨vv,H'',os,bare,un,hok',rv,F'',g'',rr⟩:=(show CE X.stack X.prog X.w H' s' _ kv s'' from hq)
     have hK2:=un.keep _ _ hK nK L3.frs (by simp);have hA2:=un.keep _ _ hA nA L1.frs (by simp);have nK2:=un.free _ _ hK nK (by simp);have nA2:=un.free _ _ hA nA (by simp);obtain⟨hh,gg,dd,tt,oo⟩:=s'';obtain rfl:oo=s'.os:=os;have I2:=I'.call (h':=hh) (g':=gg) (d':=dd) (t':=tt) (ch:=[]) un hok' bare (fun b z=>absurd z (by simp));obtain⟨e',hK3⟩:=qd5 hK2 kv;have I3:=qd3 I2 L3 (h':=hh.update (s.heap.objs.size+3) (Obj.mapSeq (·.push kv))) (fun c o hc e=>by rw [g0f _ _ _ _ hc];exact e) nK2;refine⟨⟨e,hK2⟩,F'',H'',xks++[vv],kds++[kd],e',I3,g'.trans g'',(rk.mono g''.ff).append (.cons rr .nil),vk.append (.cons rv .nil),?_,hK3,nK2,?_,nA2⟩
     ·rw [nj,g3a,ph hi]
      refine q8q hkd ?_;have:ds[ks.length]=dv:=by rw [g2k ds _ hi] at hdv;exact mh hdv
      rw [this];exact hkd'
     ·show(hh.update _ _).get? _=_
      rw [g0f _ _ _ _ (md (by lia))];exact hA2
  ·rintro ks s' hl ⟨F',H',xks,kds,e,I',g',rk,vk,hkd,hK,nK,hA,nA⟩
   rw [hl, <- hlds,g4s,hks] at hkd;obtain rfl:dks=kds:=mh hkd;refine⟨⟨e,hK⟩,by rw [hA,hoA],?_⟩;have hkl:ks.length=dks.length:=by rw [<- vk.length,rk.length]
   obtain⟨T,t1,t2,t3,t4⟩:=qs0 rk vk;have kdk:∀d∈dks,kD d=true:=by
    have:=hok.1;unfold qbn at this;rw [mi,mi] at this;exact my.mp this.1.1
   have st:∀u∈ks,∃d∈dks,q40 X.K F' d u:=fun u hu=>by
    rw [<- t2] at hu;obtain⟨t,ht,rfl⟩:=nv.mp hu;have hm:t.2.2∈dks:=by rw [<- t3];exact g2a ht
    exact⟨t.2.2,hm,kdk _ hm,t.1,t4 t ht⟩
   obtain⟨κ,hkind,C⟩:=qts I' g'.fh X.A.in1.in1 hu st hok.1;refine⟨κ,_,_,fun h2=>hkind (by lia),fun _=>C,fun _ h=>h,fun Tz tp ts=>?_⟩
   -- all five rows together
   obtain⟨T,w1,w2,w3,w4⟩:=qd4 (a:=xks.zip ks) (b:=dks) (c:=its) (d:=ys.zip ds) (by rw [g2e,rk.length,vk.length];simp) (by rw [hlks,hlds]) (by rw [g2e,r1.length,hlds];simp);have uT:ks.zip its=T.map fun t=>(t.1.2,t.2.2.1):=by
    rw [<- w3, <- List.map_snd_zip (l₁:=xks) (l₂:=ks) (by rw [vk.length];exact gv _), <- w1];simp [List.zip_map',t8,g4g]
   obtain⟨T',pT,eT⟩:=qj3 (fun t:(V×Value)×D×Value×V×D=>(t.1.2,t.2.2.1)) tp uT;have rel:∀t∈T,Rep X.K F' t.2.1 t.1.1/\RelV t.1.1 t.1.2/\Rep X.K F' t.2.2.2.2 t.2.2.2.1/\RelV t.2.2.2.1 t.2.2.1/\t.2.1∈dks:=by
    intro t ht;obtain⟨i,hi,rfl⟩:=u9.mp ht;have e1':(xks.zip ks)[i]? = some T[i].1:=by rw [<- w1];simp [hi]
    have e2':dks[i]? = some T[i].2.1:=by rw [<- w2];simp [hi]
    have e3':its[i]? = some T[i].2.2.1:=by rw [<- w3];simp [hi]
    have e4':(ys.zip ds)[i]? = some T[i].2.2.2:=by rw [<- w4];simp [hi]
    rw [List.getElem?_zip_eq_some] at e1' e4';obtain⟨x,hx,rx⟩:=rk.get e2';rw [e1'.1] at hx;obtain rfl:=mh hx;obtain⟨u,hu2,ru⟩:=vk.get e1'.1;rw [e1'.2] at hu2;obtain rfl:=mh hu2;obtain⟨y,hy,ry⟩:=k2.get e4'.2;rw [e4'.1] at hy;obtain rfl:=mh hy;obtain⟨w,hw,rw'⟩:=r1.get e4'.1;rw [e3'] at hw;obtain rfl:=mh hw;exact⟨rx,ru,ry.mono g'.ff,rw',g0b e2'⟩
   have rel':∀t∈T',_:=fun t ht=>rel t (pT.mem_iff.mp ht);have hkey:∀t∈T',keyOf X.K F' t.1.2=t.2.1:=fun t ht=>q7k I' g'.fh ⟨kdk _ (rel' t ht).2.2.2.2,_,(rel' t ht).1,(rel' t ht).2.1⟩;have eD:T'.map (fun t=>t.2.2.2.2)=(q4m (dks.zip ds)).map Prod.snd:=by
    have ez:dks.zip ds=T.map fun t=>(t.2.1,t.2.2.2.2):=by
     rw [<- w2, <- List.map_snd_zip (l₁:=ys) (l₂:=ds) (by rw [<- k2.length];exact gv _), <- w4];simp [List.zip_map',t8,g4g]
    have e1:T'.map (fun t=>(t.2.1,t.2.2.2.2))=q4m (dks.zip ds):=by
     refine qlq ?_ ?_ ?_
     ·rw [ez];exact pT.map _
     ·rw [g1d]
      rw [eT,g1d] at ts;refine g2n (fun {x y} hx hy h=>?_) ts;have h':ltT (keyOf X.K F' y.1.2) (keyOf X.K F' x.1.2)=false:=h;rw [hkey x hx,hkey y hy] at h';exact h'
     ·intro x hx y hy h1 h2
      obtain⟨i,hi,rfl⟩:=u9.mp hx;obtain⟨j,hj,rfl⟩:=u9.mp hy;rw [g2e] at hi hj;simp only [List.getElem_zip] at h1 h2 ⊢;have:i=j:=qfv hok.2 (by lia) (by lia) h1 h2;subst this;rfl
    rw [<- e1,t8]
    rfl
   have hout:Tz.map (·.2)=T'.map fun t=>t.2.2.1:=by rw [eT,t8];rfl
   have vo:Vals (T'.map fun t=>t.2.2.2.1) (Tz.map (·.2)):=by
    rw [hout];clear eT eD pT hkey hout
    induction T' with
    | nil=>exact .nil
    | cons t T' ih=>exact .cons (rel' t gq).2.2.2.1 (ih fun t ht=>rel' t (gr _ ht))
   have ro:RepL X.K F' (T'.map fun t=>t.2.2.2.2) (T'.map fun t=>t.2.2.2.1):=by
    clear eT eD pT hkey hout vo
    induction T' with
    | nil=>exact .nil
    | cons t T' ih=>exact .cons (rel' t gq).2.2.1 (ih fun t ht=>rel' t (gr _ ht))
   have ll:(T'.map fun t=>t.2.2.2.1).length<=sizeLine:=by
    rw [mv,pT.length_eq];have:=g06 List.length w3;rw [mv] at this;rw [this];exact hlen
   have I8:=qd3 I' L3 (h':=s'.heap.update (s.heap.objs.size+3) (Obj.mapSeq fun _=> #[])) (fun c o hc e=>by rw [g0f _ _ _ _ hc];exact e) nK;have hA8:(s'.heap.update (s.heap.objs.size+3) (Obj.mapSeq fun _=> #[])).get? (s.heap.objs.size+1)=some (seqObj "list" #[] e1):=by
    rw [g0f _ _ _ _ (md (by lia))];exact hA
   obtain⟨e9,hA9⟩:∃e9,((s'.heap.update (s.heap.objs.size+3) (Obj.mapSeq fun _=> #[])).update (s.heap.objs.size+1) (Obj.mapSeq fun _=>(Tz.map (·.2)).toArray)).get? (s.heap.objs.size+1)=some (seqObj "list" (Tz.map (·.2)).toArray e9):=⟨_,g1p hA8 fun _=>(Tz.map (·.2)).toArray⟩
   have I9:=qj5 I8 L1 (o:=.lst (T'.map fun t=>t.2.2.2.1)) (h':=(s'.heap.update (s.heap.objs.size+3) (Obj.mapSeq fun _=> #[])).update (s.heap.objs.size+1) (Obj.mapSeq fun _=>(Tz.map (·.2)).toArray))
    (fun c o hc e=>by rw [g0f _ _ _ _ hc];exact e) nA ⟨ll,_,e9,vo,hA9⟩
   refine⟨.ref (s.heap.objs.size+1),_,I9,rfl,?_⟩;have gg:Grow F' H' F' (upd H' (s.heap.objs.size+1) (.lst (T'.map fun t=>t.2.2.2.1))):=Grow.own g'.fh nA;exact q _ _ F' _ (g'.trans gg) (g'.fh.free nA) hn1 qt (by rw [<- eD];exact ro)
 ·cases ho
def q9v(op:List D->Option D): List D->Option (List D)
 | [d]=>q5q op d
 | _=>none
end
end DL
namespace Srt
end Srt
namespace DL
open PySem PySem.Spec PyProof.Rows L2 Srt PySem.W
variable[Lam]
structure ClsOk(K:Frag)(x:Str)(C:Addr): Prop where
 ns:PySem.W.nsIn K mainGlobals x=some (some (.ref C))
 makes:PySem.W.makesIn K C=true
 init:PySem.W.findIn K (.ref C) "__init__" = some (some (.builtin "object.__init__"))
 kp:PySem.W.keepIn K (.ref C)=true
 cls:Cls K C
 n:ql5 K C
structure CalM(P:Program)(w:World)(K:Frag)(mg:Str->Option Value)(base:Heap)(x m:Str)(C:Addr)(k:Nat)(ps:List Str)(ar:Nat)(op:List D->Option D)(fn:Addr)(fd:FuncData): Prop where
 ok:FnOk P w K mg base CX0 k fn fd ps (spD K ar op)
 me:Meth K C m fn
theorem qj7{K:Frag}{C:Addr}{T:String}(hm:PySem.W.kitMeta T=true)(h:PySem.W.subIn K (.ref C) (.type T)=some false): PySem.W.kitOne K (.ref C) (.type T)=some false:=by
 unfold PySem.W.kitOne PySem.W.kitCls;rw [mj (fun z=>by have:=eq_of_beq z;cases this)];dsimp only;rw [mq hm];exact h
theorem qp8{K:Frag}{C:Addr}(h1:PySem.W.subIn K (.ref C) (.type "int")=some false)(h2:PySem.W.subIn K (.ref C) (.type "bool")=some false)(h3:PySem.W.subIn K (.ref C) (.type "tuple")=some false)
  (h4:PySem.W.subIn K (.ref C) (.type "list")=some false) (h5:PySem.W.subIn K (.ref C) (.type "str")=some false) (h6:PySem.W.subIn K (.ref C) (.type "dict")=some false) :
  ∀T:String,T∈["int","bool","tuple","list","str","dict"]->PySem.W.kitOne K (.ref C) (.type T)=some false:=by
 intro T hT;simp only [m6,t7,g0x] at hT;rcases hT with rfl|rfl|rfl|rfl|rfl|rfl <;> exact qj7 (by decide +kernel) (by assumption)
section
variable{X:Cx}{pins:List (Addr×Obj)}{σ : St}{F H:Hp}{s:Shared}
theorem qj8{C:Addr}{Q:VK}(makes:PySem.W.makesIn X.K C=true)(init:PySem.W.findIn X.K (.ref C) "__init__" = some (some (.builtin "object.__init__")))(I:Inv X pins σ H s)
  (h:Q (.ref (s.heap.objs.size+1)) (upd (upd H s.heap.objs.size (.own (s.heap.objs.size+1))) (s.heap.objs.size+1) (.ins C s.heap.objs.size []))):wpAny (model X.prog X.w) X.A (call (.ref C) []) (EP X pins σ Q) X.xe s:=by
 have I2:=Inv.made (C:=C) I;have kin:=I.kIn;obtain⟨hh,g,d,t,os⟩:=s;have Y:=makes_of (M:=model X.prog X.w) kin makes;refine g3c (make_core Y (looks_findIn kin init) (fun self=>Looks.of_pure (oi_bind self)) (.inr ⟨rfl,rfl⟩) ?_);have hx:((hh.push emptyDict).push (instObj C hh.objs.size)).get? (hh.objs.size+1)=some (instObj C hh.objs.size):=by
  have:hh.objs.size+1=(hh.push emptyDict).objs.size:=(g0y _ _).symm;rw [this];exact m4 _ rfl
 have t1:Looks (model X.prog X.w) ((hh.push emptyDict).push (instObj C hh.objs.size)) (typeOf (.ref (hh.objs.size+1))) (.ref C):=(Looks.ld hx).andThen .now;have t2:Looks (model X.prog X.w) ((hh.push emptyDict).push (instObj C hh.objs.size)) (isInstance (.ref (hh.objs.size+1)) (.type "object")) true:=t1.andThen (Y.top.keeps fun b o e=>gf _ (gf _ e));refine g25 oi_plain entry_oi (@check_slot (model X.prog X.w) _ _ _ "object.__init__" "object" "__init__" (.ref (hh.objs.size+1)) [] [] _ oi_kind oi_split t2 (oi_args (.ref (hh.objs.size+1))) ?_);rw [oi_run];exact gc (And.intro rfl ⟨V.ref (hh.objs.size+1),_,I2,rfl,h⟩)
theorem qs2{x:Str}{C:Addr}{p pos:Pos}(O:ClsOk X.K x C)(hm:X.mg x=some (.ref C))(hg:Gl X x)(hdb:(x==("__debug__" : Str))=false:=by decide): PE X (.Call (.Name x p) [] [] pos) (tD X.K (eC (.obj x))):=by
 intro pins s σ H Q I h;obtain⟨F0,H0,F, ρ,d,r,hf,q⟩:=h;cases hf;refine g1n (qf3 I hg hm ?_ hdb);refine PySem.W.callWith_K0 I.kIn O.kp (qj8 O.makes O.init I ?_);have n0:H s.heap.objs.size=none:=I.hok.fresh (gv _);have n1:H (s.heap.objs.size+1)=none:=I.hok.fresh (g29 _);have fh:=r.fh;have g1:Grow F H F (upd H s.heap.objs.size (.own (s.heap.objs.size+1))):=Grow.own fh n0;have n1':upd H s.heap.objs.size (.own (s.heap.objs.size+1)) (s.heap.objs.size+1)=none:=by rw [qk (tu (tw _))];exact n1
 have g2:=Grow.new (o:=.ins C s.heap.objs.size []) g1.fh n1';exact q _ _ _ (g1.trans g2) (rep_obj.mpr ⟨s.heap.objs.size+1,s.heap.objs.size,C,rfl,qt,O.ns,O.n⟩)
def isO(x:Str): D->Bool
 | .obj y=>x==y
 | _=>false
def qd6(x:Str)(ar:Nat)(op:List D->Option D)(g:FE)(fa:FA): FE:=fun ρ =>(g ρ).bind fun d=>(fa ρ).bind fun ds=>if isO x d then qo ar [] op (d :: ds) else none
theorem qj9{x m:Str}{C:Addr}{o e:Expr}{es:List Expr}{apos pos:Pos}{k k' ar:Nat}{fn:Addr}{fd:FuncData}{ps:List Str}{op:List D->Option D}{g:FE}{fa:FA}{pl:Sem Bool}(O:ClsOk X.K x C)
  (M:CalM X.prog X.w X.K X.mg X.base x m C k ps ar op fn fd) (b:Binds X.K fd ps []) (hr:Room k' X.A) (hk:k<=k') (ho:PE X o (tD X.K g)) (ha:PA X (e :: es) (tDA X.K fa))
  (hst:starEach (e :: es) X.env=(false,eval e X.env) :: starEach es X.env:=by rfl) (hpl:(backTo pos (starEach es X.env)).any (·.1)=false:=by rfl)
  (ht:eval (.Call (.Attribute o m apos) (e :: es) [] pos) X.env=(do
   let ov <- eval o X.env
   standAt apos.atName
   let(f,first) <- holding [ov] (getMethod ov m pl)
   callWith pos f first (backTo pos (starEach (e :: es) X.env)) (backToKw pos (keywordEach [] X.env))):=by rfl) :
  PE X (.Call (.Attribute o m apos) (e :: es) [] pos) (tD X.K (qd6 x ar op g fa)):=
 zx (qo5 (pl:=pl) ho O.cls M.me M.ok (hr.mono hk) b .nil qnh ha hst hpl ht) fun σ H Q ⟨F0,H0,F, ρ,d,r,hf,q⟩=>by
  obtain⟨d1,h1,hf⟩:=gh.mp hf;obtain⟨ds,h2,hf⟩:=gh.mp hf
  split at hf
  ·rename_i hi
   obtain rfl:d1=.obj x:=by
    cases d1 <;> simp only [isO] at hi <;> first|(cases hi;done)|skip
    rw [(by simpa using hi:x=_)]
   refine⟨F0,H0,F, ρ,.obj x,r,h1,fun v F1 H1 g1 r1=>?_⟩;obtain⟨a,dx,C',rfl,e1,e2,e3⟩:=rep_obj.mp r1;have hC:C'=C:=by
    have:=e2.symm.trans O.ns;cases this;rfl
   subst hC;refine⟨a,dx,[],rfl,g1.fh _ _ e1,rfl,F0,H0,F1, ρ,ds,r.grow g1,h2,fun vs F2 H2 g2 r2=>?_⟩;unfold qo at hf
   split at hf
   ·rename_i hl
    refine⟨F2,(.obj x :: ds)++[],d,r.sameT (g1.trans g2),(RepL.cons (r1.mono g2.ff) r2).append .nil,hl,hf,fun v F3 H3 g3 r3=>q v F3 H3 (g1.trans (g2.trans g3)) r3⟩
   ·cases hf
  ·cases hf
end
end DL
namespace DL
open PySem PySem.Spec PyProof.Rows L2
variable[Lam]
theorem qja{P:Program}{w:World}{K:Frag}{mg:Str->Option Value}{base:Heap}{k ar:Nat}{f:Addr}{fd:FuncData}{ps:List Str}: FnOk P w K mg base CX0 k f fd ps (spD K ar fun _=>none):=
 FnOk.mk (fun vs H Q E z=>by
   obtain⟨F,ds,d,_,_,_,h,_⟩:=z;cases h)
  (fun A outer s H args us vs Q E _ _ _ _ z=>by
   obtain⟨F,ds,d,_,_,_,h,_⟩:=z;cases h)
end DL
namespace DL
open PySem PySem.Spec PyProof.Rows L2 Srt PySem.W
variable[Lam]
def q2b(mg:Str->Option Value)(base:Heap): Prop:=∃bm ob,mg "__builtins__" = some (.ref bm)/\bm≠builtinsNs/\base.get? bm=some ob/\ob.cls=.type "module" /\ ob.dict=some builtinsNs/\ob.data=.plain
def tabOf(o:Obj): Option Addr:=match o.data with
 | .fields vs=>(match(vs[11]? : Option Value) with
  | some (.ref P)=>some P
  | _=>none)
 | _=>none
omit [Lam] in
theorem qlz{K:Frag}{x:Str}{f c P:Addr}{oc:Value}{od:Option Addr}{fd:FuncData}{sl:Array (Option Value)}{o:Obj}(h1:nsIn K mainGlobals x=some (some (.ref f)))(h2:K.lookup f=some ⟨oc,od,.func fd,sl⟩)(h3:fd.code=.ref c)(h4:K.lookup c=some o)(h5:tabOf o=some P): tabIn K x=some (c,P):=by
 unfold tabIn;rw [h1];dsimp only;rw [h2];dsimp only;rw [h3];dsimp only;rw [h4];obtain⟨a,b,d,e⟩:=o;unfold tabOf at h5;dsimp only at h5;cases d <;> simp only at h5 ⊢ <;> first|(cases h5;done)|skip
 split at h5
 ·rename_i hv
  rw [hv];cases h5
  rfl
 ·cases h5
omit [Lam] in
theorem qei{K:Frag}{c P:Addr}{o:Obj}(h1:K.lookup c=some o)(h2:codeHdIn [(c,o)] c P=true): codeHdIn K c P=true:=by
 have e:List.lookup c [(c,o)]=some o:=by simp [List.lookup]
 unfold codeHdIn at h2 ⊢;rw [h1];rw [e] at h2;exact h2
def qtt(K:Frag)(ar:Nat)(op:List D->Option D)(f c:Addr)(φ ψ : Heap->Prop): Sp:=fun vs H Q E=>H f=some (.ext φ)/\H c=some (.ext ψ)/\spD K ar op vs H Q E
theorem qs3{P:Program}{w:World}{K:Frag}{mg:Str->Option Value}{base:Heap}{k:Nat}{f c:Addr}{qual:Str}{params:Arguments}{body:Expr}{scope:Scope}{pm ct:Value}{N ps:List Str}{u:FE}{φ ψ : Heap->Prop}
  (hφ : ∀h, φ h->h.get? f=some (kla_obj "<lambda>" qual params body scope [] pm c ct)) (hψ : ∀h, ψ h->h.CodeRec (.ref c) qual) (S:FnScope N ps scope)
  (hb:∀(A:Around) (outer:List Env) (s:Shared) (H:Hp) (E:XK),Room k (A.deeper (envOfC qual scope s.heap.objs.size f (.ref c)))->PE (zg CX0 P w K mg base N qual scope f (.ref c) A outer s H E).nox body (tD K u)) :
  FnOk P w K mg base CX0 (k+1) f (kla_fn "<lambda>" qual params body scope [] pm (.ref c) ct) ps (qtt K ps.length (z7 N.length (zb u)) f c φ ψ):=by
 have hpl:ps.length<=N.length:=by have:=g06 List.length S.pre;rw [tx] at this;omega
 refine⟨fun vs H Q E h=>?_,fun A outer s H args us vs Q E hr e0 hbd r ⟨h1,h2,hsp⟩=>?_⟩
 ·obtain⟨_,_,F,ds,d,_,rl,el,_⟩:=h
  rw [<- rl.length];exact el
 have hl:vs.length=ps.length:=by
  obtain⟨F,ds,d,_,rl,el,_⟩:=id hsp;rw [<- rl.length];exact el
 have lim:s.heap.NoLimit:=e0.mod.nolimit.keeps fun b o e=>(e0.bs b o e).1;have hkind:∀y∈ps.zip us,scope.names.lookup y.1=some .local\/(scope.names.lookup y.1=some .cell/\((cellsFrom (s.heap.objs.size+1) scope.names []).lookup y.1).isSome=true):=fun⟨n,v⟩ hy=>by
  rcases S.par n (g2c hy).1 with q|q
  ·exact .inl q
  ·exact .inr ⟨q,g32 _ _ _ (.inl q)⟩
 have ho:=hφ _ (e0.hok f _ h1).1;have hcd:=hψ _ (e0.hok c _ h2).1;refine kla_callFunE hr.depth ho rfl S.co S.gen rfl hcd (hbd _ _ _ _ ?_);refine wpAny_newFunctionEnv_cells S.kind hkind fun env he s1 x=>?_;subst he;refine⟨lim.keeps x.toInCall.keep,kla_codeExpr ?_⟩;have I:Inv (zg CX0 P w K mg base N qual scope f (.ref c) A outer s H E) [] (start N vs) H s1:=qad S hr.hd e0 hl r x;have hD:tD K u (start N vs) H Q:=by
  obtain⟨F0,H0,F, ρ,fl, ρ',r',hf,q⟩:=qil (P:=P) (w:=w) hpl hsp;obtain⟨d,h3,h4⟩:=ml.mp hf;cases h4;exact⟨F0,H0,F, ρ,d,r',h3,fun v F' H' g' r''=>q v F' H' (r'.g.trans g') r''⟩
 refine tf ((hb A outer s H E (hr.deeper _)).nox [] s1 (start N vs) H Q I hD) (fun v s' hs=>?_) fun e s' hs=>hs;obtain⟨v',H',J,rv,q⟩:=hs;exact⟨v',H',J.os,J.bare,J.base,J.hok,rv,q⟩
theorem qgw{pos pos':Pos}{c cv:Value}: ∀(l:List Value),TriplesOk l->codeAmong pos' (l++[rawInt pos.line,rawInt pos.col,c])=some cv->codeAmong pos' l=some cv\/cv=c:=fun l h e=>by
 fun_induction TriplesOk l with
 | case1=>
  simp only [g08,codeAmong,rawInt] at e
  split at e
  ·exact .inr (mh e).symm
  ·cases e
 | case2 a t b u x rest ih=>
  simp only [g36,codeAmong] at e ⊢
  split at e
  ·rename_i hc;rw [mq hc];exact .inl e
  ·rename_i hc;rw [mj hc];exact ih h e
 | case3 l h1 h2=>exact h.elim
section
variable{X:Cx}{pins:List (Addr×Obj)}{σ : St}{F H:Hp}{s:Shared}
theorem qm0{c P:Addr}{q:Str}{params:Arguments}{body:Expr}{scope:Scope}{pos:Pos}{Q:Value->Shared->Prop}(hcode:X.env.code=.ref c)(hd:codeHdIn X.K c P=true)(hP:(P,q)∈Lam.tab)(hU:∀p∈Lam.tab,p.1=P->p.2=q)
  (hq:X.env.qual++"<lambda>" = q) (B:q2b X.mg X.base) (hdef:defaultsOf params X.env=([],[])) (hcl:closureFor scope X.env=pure []) (I:Inv X pins σ H s) (st:SameT F H)
  (h:∀f c' φ ψ ct pm s' H',Inv X pins σ H' s'->Grow F H F H'->H' f=some (.ext φ)->H' c'=some (.ext ψ)->(∀h, φ h->h.get? f=some (kla_obj "<lambda>" q params body scope [] pm c' ct))->(∀h, ψ h->h.CodeRec (.ref c') q)->Q (.ref f) s') :
  wpAny (model X.prog X.w) X.A (eval (.Lambda params body scope pos) X.env) Q X.xe s:=by
 refine kla_eval hdef ?_;rw [hq];obtain⟨ps,e,ht,k⟩:=st.t _ hP;have hPg:s.heap.get? P=some (tabObj ps):=I.hok P _ e;have C:CodeHd s.heap c P:=codeHd_of_K I.kIn hd;have hg:s.heap.Ns mainGlobals X.mg:=I.mod.glob.keeps I.bk;obtain⟨bm,ob,B1,B2,B3,B4,B5,B6⟩:=B;have hbo:=I.bk _ _ B3;have hbP:bm≠P:=fun z=>by
  have e1:=hbo;rw [z,hPg] at e1;have e2:=B4;rw [<- mh e1] at e2;cases e2
 have hgP:mainGlobals≠P:=fun z=>by
  obtain⟨o,es,ep,e1,e2,_⟩:=hg;rw [z,hPg] at e1;rw [<- mh e1] at e2;cases e2
 have hb:s.heap.BuiltinsAt X.mg P:=⟨bm,ob,B1,B2,fun z=>(by
  obtain⟨o,es,ep,e1,e2,_⟩:=hg;rw [<- z,hbo] at e1;rw [<- mh e1,B6] at e2;cases e2),hbP,hbo,B4,B5,B6⟩
 cases hf:codeAmong pos ps.toList with
 | some cv=>
  obtain⟨c', ψ,rfl,e2,e3⟩:=k pos cv hf;refine kla_makeFunctionHit hcl I.ok.glob hg hcode C hPg ht hf hb fun ctv h' tk hk hsz=>?_;have I1:Inv X pins σ H {s with heap:=h',toks:=tk}:=I.kept (t':=tk) hk;have hn:H h'.objs.size=none:=I1.hok.fresh (gv _);have I2:=I1.laid (t':=tk) (a:=h'.objs.size) (o:=.ext fun g=>g.get? h'.objs.size=some (kla_obj "<lambda>" q params body scope [] ((X.mg "__name__").getD .none) c' ctv)) (h':=h'.push (kla_obj "<lambda>" q params body scope [] ((X.mg "__name__").getD .none) c' ctv))
   (fun b u z=>gf _ z) (gv _) ⟨m4 _ rfl,⟨_,m4 _ rfl⟩,fun h1 h2 z1 z2=>z2 _ z1⟩
  exact h _ c' _ ψ ctv _ _ _ I2 (Grow.own st.s hn) qt ((Kept.new hn).ext _ _ e2) (fun g z=>z) e3
 | none=>
  refine kla_makeFunction hcl I.ok.glob hg hcode C hPg ht hf hgP hb fun c' ctv h' tk hx hge hlt hrec htb=>?_;have hnc:H c'=none:=I.hok.fresh hge;have hcP:c'≠P:=fun z=>by rw [z,e] at hnc;cases hnc
  have nP:∀b o,H b=some o->(∀ps,o ≠ .tbl ps)->b≠P:=fun b o z n y=>by rw [y,e] at z;exact n _ (mh z).symm
  have nP':∀b,H b=none->b≠P:=fun b z y=>by rw [y,e] at z;cases z
  have nc:∀b o,H b=some o->b≠c':=fun b o z y=>by rw [y,hnc] at z;cases z
  have ncs:∀b o,s.heap.get? b=some o->b≠c':=fun b o z y=>absurd (gz z) (by rw [y];exact g5l.mpr hge)
  let H1:Hp:=upd (upd H P (.tbl (ps ++ #[rawInt pos.line,rawInt pos.col,.ref c']))) c' (.ext fun g=>g.CodeRec (.ref c') q)
  have a1:∀b,b≠P->b≠c'->H1 b=H b:=fun b z1 z2=>by show upd (upd H P _) c' _ b=_;rw [qk z2,qk z1]
  have a2:H1 P=some (.tbl (ps ++ #[rawInt pos.line,rawInt pos.col,.ref c'])):=by show upd (upd H P _) c' _ P=_;rw [qk (nh hcP),qt]
  have a3:H1 c'=some (.ext fun g=>g.CodeRec (.ref c') q):=qt;have un:Un X.fs [] H H1 s.heap h':=⟨fun b o z n _ _=>hx b o (nP' b n) z,fun b o z n _ _=>⟨o.slots,hx b o (nP' b n) z⟩,fun b o z n _=>by rw [a1 b (nP' b n) (ncs b o z)];exact n,
   fun b o z _=>by
    by_cases y:b=P
    ·exact⟨_,by rw [y];exact htb⟩
    ·exact⟨o,hx b o y z⟩,fun b xs z=>by rw [a1 b (nP b _ z nofun) (nc b _ z)];exact z,fun b o' u z=>by rw [a1 b (nP b _ z nofun) (nc b _ z)];exact z,
   fun b ps' z=>by
    by_cases y:b=P
    ·subst y
     rw [e] at z;cases z;exact⟨_,a2⟩
    ·exact⟨#[],by rw [a1 b y (nc b _ z),z];simp⟩⟩
  have hok:HOk X.prog X.w H1 h':=fun b o z=>by
   by_cases y:b=P
   ·subst y
    rw [a2] at z;cases z;exact htb
   by_cases y2:b=c'
   ·subst y2
    rw [a3] at z;cases z;obtain⟨c2,oc,vs,t,e2,hoc,r⟩:=hrec;cases e2;exact⟨⟨_,oc,vs,t,rfl,hoc,r⟩,⟨_,hoc⟩,fun h1 h2 ⟨c3,o3,v3,t3,e3,h3,r3⟩ z2=>by cases e3;exact⟨_,o3,v3,t3,rfl,z2 _ h3,r3⟩⟩
   rw [a1 b y y2] at z;refine(I.hok b o z).stay (fun b' u hb' z'=>hx b' u ?_ z') (fun b' z'=>by rw [a1 b' (nP b' _ z' nofun) (nc b' _ z')];exact z') fun b' xs z'=>by rw [a1 b' (nP b' _ z' nofun) (nc b' _ z')];exact z'
   rcases hb' with z1|z1
   ·rw [z1];exact y
   ·exact nP b' _ z1 nofun
  have I1:Inv X pins σ H1 {s with heap:=h',toks:=tk}:=I.un (t':=tk) un hok;have hn:H1 h'.objs.size=none:=I1.hok.fresh (gv _);have I2:=I1.laid (t':=tk) (a:=h'.objs.size) (o:=.ext fun g=>g.get? h'.objs.size=some (kla_obj "<lambda>" q params body scope [] ((X.mg "__name__").getD .none) c' ctv)) (h':=h'.push (kla_obj "<lambda>" q params body scope [] ((X.mg "__name__").getD .none) c' ctv))
   (fun b u z=>gf _ z) (gv _) ⟨m4 _ rfl,⟨_,m4 _ rfl⟩,fun h1 h2 z1 z2=>z2 _ z1⟩
  have hfP:h'.objs.size≠P:=fun z=>by rw [z,a2] at hn;cases hn
  have kp:Kept H H1:=⟨fun b xs z=>by rw [a1 b (nP b _ z nofun) (nc b _ z)];exact z,fun b φ z=>by rw [a1 b (nP b _ z nofun) (nc b _ z)];exact z,fun {b} z=>by
    by_cases y:b=P
    ·subst y;rw [a2] at z;cases z
    by_cases y2:b=c'
    ·rw [y2];exact hnc
    rw [a1 b y y2] at z;exact z,fun t p hp=>by
    obtain⟨ps1,e1,t1,k1⟩:=t p hp
    by_cases y:p.1=P
    ·have e2:=hU p hp y
     rw [y,e] at e1;cases e1;rw [y];refine⟨_,a2,by simpa using TriplesOk_snoc pos.line pos.col (.ref c') ps.toList ht,fun pos' cv z=>?_⟩;rw [pf] at z;rcases qgw ps.toList ht (by simpa using z) with z|z
     ·obtain⟨c2, φ,z1,z2,z3⟩:=k1 pos' cv z
      exact⟨c2, φ,z1,by rw [a1 c2 (nP _ _ z2 nofun) (nc _ _ z2)];exact z2,z3⟩
     ·exact⟨c',_,z,a3,fun g z=>by rw [e2];exact z⟩
    ·refine⟨ps1,by rw [a1 _ y (nc _ _ e1)];exact e1,t1,fun pos' cv z=>?_⟩
     obtain⟨c2, φ,z1,z2,z3⟩:=k1 pos' cv z;exact⟨c2, φ,z1,by rw [a1 c2 (nP _ _ z2 nofun) (nc _ _ z2)];exact z2,z3⟩,fun b φ z=>by rw [a1 b (nP b _ z nofun) (nc b _ z)];exact z⟩
  have g1:Grow F H F H1:=⟨.refl _,kp,fun b o z=>by
    have y:b≠P:=fun y=>by have:=st.f _ hP;rw [show b=P from y] at z;rw [z] at this;cases this
    rw [a1 b y (nc b _ (st.s b o z))];exact st.s b o z,fun _ z=>.inl z⟩
  exact h _ c' _ _ ctv _ _ _ I2 (g1.trans (Grow.own g1.fh hn)) qt ((Kept.new hn).ext _ _ a3) (fun g z=>z) fun g z=>z
end
section
variable{X:Cx}{pins:List (Addr×Obj)}{σ : St}{F H:Hp}{s:Shared}
theorem qm1{e:Expr}{p kp pos lpos:Pos}{params:Arguments}{body:Expr}{scope:Scope}{k k':Nat}{c P:Addr}{q:Str}{N ps:List Str}{u:FE}{fa:FA}(hcode:X.env.code=.ref c)(hd:codeHdIn X.K c P=true)(hP:(P,q)∈Lam.tab)
  (hU:∀p∈Lam.tab,p.1=P->p.2=q) (B:q2b X.mg X.base) (hr:Room k' X.A) (hgs:Gl X "sorted") (hms:X.mg "sorted" = none) (ha:PA X [e] (tDA X.K fa)) (S:FnScope N ps scope)
  (hb:∀(f c':Addr) (A:Around) (outer:List Env) (s:Shared) (H:Hp) (E:XK),Room k (A.deeper (envOfC q scope s.heap.objs.size f (.ref c')))->PE (zg CX0 X.prog X.w X.K X.mg X.base N q scope f (.ref c') A outer s H E).nox body (tD X.K u))
  (hbd:∀(pm cdv ct:Value) (us:List Value),us.length=ps.length->bindArgs (kla_fn "<lambda>" q params body scope [] pm cdv ct) ⟨us,[]⟩=pure (ps.zip us)) (hk:k+3<=k') (h1:ps.length=1)
  (hq:X.env.qual++"<lambda>" = q:=by rfl) (hdef:defaultsOf params X.env=([],[]):=by rfl) (hcl:closureFor scope X.env=pure []:=by rfl) (he:backTo pos (starEach [e] X.env)=(false,eval e X.env) :: backTo pos (starEach [] X.env):=by rfl)
  (hpl:(backTo pos (starEach [e] X.env)).any (·.1)=false:=by rfl):PE X (.Call (.Name "sorted" p) [e] [⟨some "key",.Lambda params body scope lpos,kp⟩] pos) (tL X.K (q6l (q9v (z7 N.length (zb u))) fa)):=by
 intro pins s σ H Q I h;obtain⟨F0,H0,F, ρ,ds,r,hf,q'⟩:=h;obtain⟨es,h3,h2⟩:=gh.mp hf;unfold q9v at h2
 split at h2
 ·rename_i d
  refine g1n (q1i I hgs hms boot_sorted ?_ (by decide) (by decide));refine callWith_kw (thn (ha pos pins s σ H (fun vs H1=>∃F1,Grow F H F1 H1/\RepL X.K F1 [d] vs) I ⟨F0,H0,F, ρ,[d],r,h3,fun vs F1 H1 g1 r1=>⟨F1,g1,r1⟩⟩) fun us s1 ⟨vs,H1,I1,rv,F1,g1,r1⟩=>?_) he hpl rfl rfl;refine kws_cons (qm0 hcode hd hP hU hq B hdef hcl I1 (r.sameT g1) fun f c' φ ψ ct pm s2 H2 I2 g2 hf' hc' hφ hψ =>kws_nil ?_);obtain⟨x,rfl,rx⟩:=rep1 r1;obtain⟨v,rfl,ru⟩:=vals1 rv;cases d <;> simp only [q5q] at h2 <;> first|(cases h2;done)|skip
  rename_i ds';obtain⟨a,ys,rfl,_⟩:=rep_lst.mp rx;cases ru;exact qj6 (qs3 hφ hψ S (hb f c')) (fun F' H' dv kd x Q' g' rx' hk' q''=>⟨g'.hh.ext _ _ hf',g'.hh.ext _ _ hc',F',[dv],kd,((r.sameT g1).grow g2).grow g',.cons rx' .nil,h1.symm,hk',q''⟩) (.all (hbd pm _ ct)) hr (by omega) I2 g2.fh (rx.mono g2.ff) (by simp only [q5q];exact h2)
   fun a ys F3 H3 g3 k1 k2 k3 k4=>q' a ys F3 H3 (g1.trans (g2.trans g3)) k1 (g1.hh.free (g2.hh.free k2)) k3 k4
 ·cases h2
end
structure Fun3(K:Frag)(x qual:Str)(st:Stmt)(dV:Value)(f:Addr)(fd:FuncData)(c P:Addr): Prop where
 ex:∃(oc:Value) (od:Option Addr) (kV doc pm:Value) (an:Option Addr) (ct:Value) (osl:Array (Option Value)),
  fd=PySem.W.fnOf x qual (vj st) (qp st) (qc st) dV kV doc pm an (.ref c) ct/\K.lookup f=some ⟨oc,od,.func fd,osl⟩/\PySem.W.codeIn K (.ref c) qual=true
 hd:codeHdIn K c P=true
 kp:PySem.W.keepIn K (.ref f)=true
section
variable{P:Program}{w:World}{K:Frag}{mg:Str->Option Value}{base:Heap}{x qual:Str}{st:Stmt}{dV:Value}{f c T:Addr}{fd:FuncData}{N ps:List Str}
theorem Fun3.okn{k n ar k1:Nat}{u:FS}(F:Fun3 K x qual st dV f fd c T)(S:FnScope N ps (qc st))(hn:N.length=n)(ha:ps.length=ar)(hk:k+1=k1)
  (hb:∀(A:Around) (outer:List Env) (s:Shared) (H:Hp) (E:XK),Room k (A.deeper (envOfC qual (qc st) s.heap.objs.size f (.ref c)))->PSs (zg CX0 P w K mg base N qual (qc st) f (.ref c) A outer s H E).nox (qp st) (tDS K u)) :
  FnOk P w K mg base CX0 k1 f fd ps (spD K ar (z7 n u)):=by
 subst hn ha hk;obtain⟨oc,od,kV,doc,pm,an,ct,osl,rfl,lk,hcd⟩:=F.ex;exact qnl lk hcd S fun A outer s H E hr=>hb A outer s H E hr
theorem qp9{oc:Value}{od an:Option Addr}{osl:Array (Option Value)}{kV doc pm ct:Value}(l:K.lookup f=some ⟨oc,od,.func (PySem.W.fnOf x qual (vj st) (qp st) (qc st) dV kV doc pm an (.ref c) ct),osl⟩)
  (cd:PySem.W.codeIn K (.ref c) qual=true) (hd:codeHdIn K c T=true) (k:PySem.W.keepIn K (.ref f)=true):Fun3 K x qual st dV f (PySem.W.fnOf x qual (vj st) (qp st) (qc st) dV kV doc pm an (.ref c) ct) c T:=⟨⟨oc,od,kV,doc,pm,an,ct,osl,rfl,l,cd⟩,hd,k⟩
theorem Fun3.bindsTo(F:Fun3 K x qual st dV f fd c T){P:FuncData->Prop}(h:∀(kV doc pm:Value) (an:Option Addr) (cdv ct:Value),P (PySem.W.fnOf x qual (vj st) (qp st) (qc st) dV kV doc pm an cdv ct)): P fd:=by
 obtain⟨oc,od,kV,doc,pm,an,ct,osl,rfl,lk,hcd⟩:=F.ex;exact h kV doc pm an _ ct
end
theorem qjb{P:Program}{w:World}{K:Frag}{mg mb:Str->Option Value}{k:Nat}{fa a:Addr}{fd:FuncData}{x:Str}{s₁:Shared}{vs:List Value}{ns:List Int}{tabs:List (Addr×Addr)}(hT:TabsAt tabs s₁.heap)(hL:∀p∈Lam.tab,p.1∈tabs.map (·.2))(hKT:∀p∈tabs,K.lookup p.2=none)
  (KX:K.In s₁.heap) (hns:s₁.heap.Ns mainGlobals mg) (hb:s₁.heap.Ns builtinsNs mb) (hbb:∀x:Str,x≠"__name__" -> mb x=bootBuiltins x) (hlim:s₁.heap.NoLimit) (hg:s₁.gens = #[])
  (ha:s₁.heap.get? a=some {cls:=.type "list",data:=.seq vs.toArray}) (hi:IntsAre vs ns) (hl:ns.length<=63) (hr:Room k callerA)
  (hB:q2b mg s₁.heap) (Fn:∀base:Heap,K.In base->base.Ns mainGlobals mg->q2b mg base->FnOk P w K mg base CX0 k fa fd [x] (qbm K)) (hbind:∀(s:Shared) (u:Value),BindsTo s fd ⟨[u],[]⟩ [(x,u)]) :
  codeAny (model P w) callerA (.call (.ref fa) ⟨[.ref a],[]⟩) (fun r s'=>r=.ok (.ret (.bool true))/\OldK s₁.heap s'.heap/\s'.os=s₁.os/\AllBare s'.gens) s₁:=by
 have rv:=q1k hi;have lenV:=hi.length;have aT:a∉tabs.map (·.2):=fun z=>by
  obtain⟨p,hp,e⟩:=nv.mp z;have e1:=(hT p hp).2;rw [e,ha] at e1;cases e1
 let G:Hp:=fun b=>if b=a/\K.lookup a=none then some (.frz {cls:=.type "list",data:=.seq vs.toArray} (.lst (ns.map V.int))) else none
 let H:Hp:=fun b=>if b∈tabs.map (·.2) then some (.tbl #[]) else G b
 have hG:∀b o,G b=some o->b=a/\K.lookup a=none/\o=.frz {cls:=.type "list",data:=.seq vs.toArray} (.lst (ns.map V.int)):=fun b o z=>by
  by_cases y:b=a/\K.lookup a=none
  ·exact⟨y.1,y.2,(mh ((mq y).symm.trans z)).symm⟩
  ·have:=(mj y).symm.trans z;cases this
 have hH1:∀b,b∈tabs.map (·.2)->H b=some (.tbl #[]):=fun b z=>mq z;have hH2:∀b,b∉tabs.map (·.2)->H b=G b:=fun b z=>mj z;have tabAt:∀b,b∈tabs.map (·.2)->∃c,CodeHd s₁.heap c b/\s₁.heap.get? b=some (tabObj #[])/\K.lookup b=none:=fun b z=>by
  obtain⟨p,hp,rfl⟩:=nv.mp z;exact⟨p.1,(hT p hp).1,(hT p hp).2,hKT p hp⟩
 have gH:Same G H:=fun b o z=>by
  obtain⟨rfl,_,_⟩:=hG b o z;rw [hH2 _ aT];exact z
 have hok:HOk P w H s₁.heap:=fun b u z=>by
  by_cases y:b∈tabs.map (·.2)
  ·rw [hH1 b y] at z
   cases z;exact(tabAt b y).elim fun c z=>z.2.1
  ·rw [hH2 b y] at z
   obtain⟨rfl,_,rfl⟩:=hG b u z;exact⟨ha,by rw [mv];exact mx hl (by decide),vs,_,rv,ha⟩
 have base_of:∀ {b:Addr} {o:Obj},s₁.heap.get? b=some o->H b=none->(q3g s₁.heap H).get? b=some o:=fun e n=>qkg e n;have noA:∀ {b:Addr} {o:Obj} {es:Array DictEntry} {ep:Nat},s₁.heap.get? b=some o->o.data=.dict es ep->H b=none:=fun {b o es ep} e d=>by
  by_cases y:b∈tabs.map (·.2)
  ·obtain⟨c,_,e1,_⟩:=tabAt b y
   rw [e] at e1;rw [mh e1] at d;cases d
  ·rw [hH2 b y]
   cases q:G b with
   | none=>rfl
   | some u=>
    obtain⟨rfl,_,_⟩:=hG b u q;rw [ha] at e;rw [<- mh e] at d;cases d
 have nsK:∀ {b:Addr} {m:Str->Option Value},s₁.heap.Ns b m->(q3g s₁.heap H).Ns b m:=fun {b m} ⟨o,es,ep,e,d,r⟩=>⟨o,es,ep,base_of e (noA e d),d,r⟩
 have hKb:K.In (q3g s₁.heap H):=fun b o e=>base_of (KX b o e) (by
  by_cases y:b∈tabs.map (·.2)
  ·obtain⟨c,_,_,e1⟩:=tabAt b y
   rw [e1] at e;cases e
  ·rw [hH2 b y]
   cases q:G b with
   | none=>rfl
   | some u=>
    obtain⟨rfl,e1,_⟩:=hG b u q;rw [e1] at e;cases e)
 have hM:Mod K mg (q3g s₁.heap H):=⟨hKb,nsK hns,⟨mb,nsK hb,hbb⟩,let⟨mc,h1,h2⟩:=hlim; ⟨mc,nsK h1,h2⟩⟩
 have e0:Env0 P w K mg (q3g s₁.heap H) callerA [] s₁ H:=⟨rfl,hM,fun b o e=>qnu e,g5o (qht _ _),trivial,fun b hb=>absurd (show b∈([]:List Addr) from hb) (by simp),hok,.of_eq hg⟩
 have hS:SqL K G a (ns.map V.int):=by
  cases hk:K.lookup a with
  | some o=>
   have e:=KX a o hk;rw [ha] at e;cases e;exact .inr ⟨_,vs.toArray,_,hk,rfl,rfl,rfl,by rw [gj,lenV];exact mx hl (by decide),by simpa using rv⟩
  | none=>exact .inl (.inr ⟨{cls:=.type "list",data:=.seq vs.toArray},mq ⟨rfl,hk⟩⟩)
 have sT:SameT G H:=⟨gH,fun p hp=>⟨#[],hH1 _ (hL p hp),trivial,fun pos cv z=>by simp [codeAmong] at z⟩,fun p hp=>by
  cases q:G p.1 with
  | none=>rfl
  | some u=>
   obtain⟨e,_,_⟩:=hG _ u q;exact absurd (e ▸ hL p hp) aT⟩
 have hBb:q2b mg (q3g s₁.heap H):=by
  obtain⟨bm,ob,B1,B2,B3,B4,B5,B6⟩:=hB;refine⟨bm,ob,B1,B2,base_of B3 ?_,B4,B5,B6⟩
  by_cases y:bm∈tabs.map (·.2)
  ·obtain⟨c,_,e1,_⟩:=tabAt bm y
   rw [B3] at e1;rw [mh e1] at B4;cases B4
  ·rw [hH2 bm y]
   cases q:G bm with
   | none=>rfl
   | some u=>
    obtain⟨rfl,_,_⟩:=hG bm u q;rw [ha] at B3;rw [<- mh B3] at B6;cases B6
 refine g2f ((Fn _ hKb (nsK hns) hBb).run callerA [] s₁ H ⟨[.ref a],[]⟩ [.ref a] [.ref a] (fun v _=>v=.bl true) E0 hr e0 (hbind s₁ (.ref a)) (.cons rfl .nil) ⟨a,ns,G,rfl,sT,hS,hl,fun _=>rfl⟩) fun r s' h=>?_;cases r with
 | error e=>exact h.elim
 | ok fl=>
  cases fl with
  | next=>exact False.elim h
  | brk=>exact False.elim h
  | cont=>exact False.elim h
  | ret u=>
   obtain⟨v,H',os,bare,un,hok',r',q⟩:=h;have q':v=.bl true:=q;subst q';obtain rfl:u=Value.bool true:=r';have tab':∀b,b∈tabs.map (·.2)->∃more,s'.heap.get? b=some (tabObj (#[]++more)):=fun b y=>by
    obtain⟨more,e⟩:=un.tbls b #[] (hH1 b y);exact⟨more,hok' b _ e⟩
   have keep:∀b o,b∉tabs.map (·.2)->s₁.heap.get? b=some o->s'.heap.get? b=some o:=fun b o y e=>by
    cases q:H b with
    | none=>exact un.keep b o e q (by intro z;exact absurd (show b∈([]:List Addr) from z) (by simp)) (by simp)
    | some u=>
     have q2:=q;rw [hH2 b y] at q2;obtain⟨rfl,_,rfl⟩:=hG b u q2;obtain⟨e2,_⟩:=hok' _ _ (un.frzs _ _ _ q);rw [ha] at e;rw [<- mh e];exact e2
   refine⟨rfl,⟨fun b o e=>?_,fun b o e=>?_⟩,os,bare⟩
   ·by_cases y:b∈tabs.map (·.2)
    ·obtain⟨c,C,e1,_⟩:=tabAt b y
     rw [e] at e1;obtain rfl:=mh e1;obtain⟨more,e2⟩:=tab' b y;exact .inr (.inl ⟨(C.tab e).isCodeTable,rfl, #[],more,rfl,e2⟩)
    ·exact .inl (keep b o y e)
   ·by_cases y:b∈tabs.map (·.2)
    ·obtain⟨more,e2⟩:=tab' b y
     exact⟨_,e2⟩
    ·exact⟨o,keep b o y e⟩
omit [Lam] in
theorem qpa{l:PySem.W.OpenLaw}{k:Nat}{x:Str}{q:Program}{loose:List Str}{XP:(Str->Option Value)->Heap->Prop}{YP:World->Heap->Prop}{d:DefRec}{K:Params->Frag}(hn:l.most=some 63)(hdf:d.params.defaults=[])(hk:Room k callerA)
  (hY:∀(w:World) (h:Heap),YP w h->(K w.params).In h)
  (F:∀(w:World) (mg:Str->Option Value) (fa:Addr) (h:Heap),(K w.params).In h->h.Ns mainGlobals mg->mg d.name=some (.ref fa) ->
   ∃(L:Lam) (tabs:List (Addr×Addr)) (fd:FuncData),(∀p∈L.tab,p.1∈tabs.map (·.2))/\(∀p∈tabs,(K w.params).lookup p.2=none/\∃y:Str,((recsOf q).find? (fun e=>e.name==y)).isSome=true/\tabIn (K w.params) y=some p) /\
    (∀(s:Shared) (u:Value),BindsTo s fd ⟨[u],[]⟩ [(x,u)])/\∀base:Heap,(K w.params).In base->base.Ns mainGlobals mg->q2b mg base->FnOk l.prog w (K w.params) mg base CX0 k fa fd [x] (qbm (K w.params))) :
  PySem.W.WalkO q loose XP YP l.row.toRowW d [] (fun f vs=>PySem.call f vs):=by
 refine Att.attach_call hn hdf fun w s₀ s₁ mg mb fa o pm cd doc a vs ns G Y ho hd hcd hmg hobj hints hlen hg=>?_;have KX:=hY w _ Y;obtain⟨L,tabs,fd,hL,hT,hb,hF⟩:=F w mg fa _ KX G.T.g hmg;refine qjb (tabs:=tabs) (fun p hp=>?_) hL (fun p hp=>(hT p hp).1) KX G.T.g G.T.b G.T.builtins G.T.nolimit hg hobj hints hlen hk (let⟨bm,ob,b1,b2,b3,b4,b5,b6⟩:=G.T.bmain; ⟨bm,ob,b1,b2,b3,b4,b5,b6⟩) hF hb;obtain⟨_,y,e1,e2⟩:=hT p hp;obtain⟨d',e3⟩:=g0v.mp e1;exact tab_of G.T KX e3 e2
end DL
namespace Srt
end Srt
namespace DL
open PySem PySem.Spec PyProof.Rows L2 Srt PySem.W
variable[Lam]
set_option maxRecDepth 8000 in
omit [Lam] in
theorem qm2(l:Addr)(items:Array Value)(n:Nat)(b:Addr)(items2:Array Value)(n2:Nat)(sl:Array (Option Value))(hc0:¬(!items.isEmpty&&Builtin.List.listTooLong (items.size+items2.size))=true)(hc1:items.size<=sizeLine)(hs2:items.size+items2.size<=sizeLine+1):
  Meets (Builtin.«list.extend» ⟨[.ref l,.ref b],[]⟩) (fun _ R s=>s.heap.get? l=some {cls:=.type "list",dict:=none,data:=.seq items n,slots:= #[]}/\s.heap.get? b=some {cls:=.type "list",dict:=none,data:=.seq items2 n2,slots:=sl} /\
   R (.ok (.ret Value.none)) {s with heap:=s.heap.update l (Obj.mapSeq fun x=>x++items2),toks:=s.toks}):=
 .of_wp fun prog w A R s h=>by
  obtain⟨hp,g,d,tk,os⟩:=s;obtain⟨hl,hb,h⟩:=h;have hz':(items++items2).size<=sizeLine+1:=by rw [Array.size_append];exact hs2
  have f3:=sub_list_list
  wp_walk using(g58 hl rfl (hz:=hc1) (_hz':=hz')),g2d hl,g2d hb
  exact⟨_,rfl,h⟩
section
variable{X:Cx}
omit [Lam] in
theorem qpb:MtM X "list.extend" (fun x vs H Q=>∃l b xs zs,x=.ref l/\vs=[.ref b]/\H l=some (.lst xs)/\SqL X.K H b zs/\xs.length+zs.length<=sizeLine/\Q .non (upd H l (.lst (xs++zs)))):=by
 intro pins s σ H x vs v us Q I rx rv h;obtain⟨l,b,xs,zs,rfl,rfl,hH,hB,hz,q⟩:=h;cases rx;obtain⟨u,rfl,ru⟩:=rv.one;cases ru;obtain⟨z,its,n,r,hl,e⟩:=I.lstM hH;obtain⟨its2,r2,⟨o,n2,e2,c1,c2,c3⟩,hl2⟩:=I.list hB;obtain⟨oc,od,oda,osl⟩:=o;dsimp only at c1 c2 c3;subst c1 c2 c3;have hl1:=r.length;have hl3:=r2.length;have hsz:its.toArray.size+its2.toArray.size<=sizeLine:=by rw [gj,gj];lia
 have hlong:¬(!its.toArray.isEmpty&&Builtin.List.listTooLong (its.toArray.size+its2.toArray.size))=true:=by
  rw [qku hsz,Bool.and_false];exact m9
 refine g3d F.slot_list_extend ⟨_,e,rfl⟩ F.entry_list_extend (F.args_list_extend_2 _ _)
  (qm2 l its.toArray n b its2.toArray n2 osl hlong (by rw [gj];lia) (by lia)) ⟨e,e2,?_⟩
 refine⟨.non,_,I.lset (its':=its++its2) hH e (by simp) (r.append r2) ?_,rfl,q⟩;rw [nj];lia
def qm3(i:Nat)(f:FE): FS:=fun ρ =>(q7h i ρ).bind fun ds=>(f ρ).bind fun d=>match d with
 | .lst es=>if ds.length+es.length<=lim then some (.nx, ρ.set i (some (.ow (ds++es)))) else none
 | _=>none
theorem qs4{i:Nat}{x:Str}{e:Expr}{f:FE}{px apos cpos pos:Pos}(hv:PE X (.Name x px) (qbu i))(he:PE X e (tD X.K f))
  (hbase:attributeBase (.Name x px) "extend" X.env (eval (.Name x px) X.env)=eval (.Name x px) X.env:=by rfl)
  (hfew:((backTo cpos (starEach [e] X.env)).all (fun x=> !x.1)&&(backToKw cpos (keywordEach [] X.env)).all (fun x=>x.1.isSome)&&decide ([e].length+([]:List Keyword).length+(if([]:List Keyword).isEmpty then 0 else 1)<30))=true:=by rfl)
  (hline:(apos.endLine==cpos.line)=true:=by rfl) (hse:starEach [e] X.env=(false,eval e X.env) :: starEach [] X.env:=by rfl)
  (hs:swapsWith (.Call (.Attribute (.Name x px) "extend" apos) [e] [] cpos) none pos.line X.env=pure false:=by rfl):PS X (.Expr (.Call (.Attribute (.Name x px) "extend" apos) [e] [] cpos) pos) (tDS X.K (qm3 i f)):=
 q0u (qf4 (qng g52 PySem.F.slot_list_extend PySem.F.type_list_extend qpb hv (q0m he q2j hse) hbase hfew hline hse rfl) hs) fun D σ H ⟨F0,H0,F, ρ,fl, ρ',r,hf,q⟩=>by
  obtain⟨ds,h1,hf⟩:=gh.mp hf;obtain⟨d,h2,h3⟩:=gh.mp hf;have h1:=qag h1;cases d <;> simp only at h3 <;> first|(cases h3;done)|skip
  rename_i es
  split at h3
  ·rename_i hl
   cases h3;obtain⟨a,xs,e1,e2,e3,e4,e5⟩:=r.ow i ds h1;refine⟨.ref a,e1,.inl ⟨rfl,xs,SqL.of e2⟩,F0,H0,F, ρ,_,r,h2,fun v F' H' g' r'=>?_⟩;have r2:=r.grow g';obtain⟨b,zs,rfl,k1,k2⟩:=rep_lst.mp r';refine⟨a,b,xs,zs,rfl,rfl,g'.hh.lst _ _ e2,g'.fh.seq k1,mx (by rw [<- e5.length, <- k2.length];exact hl) (by decide),?_⟩;exact q _ F' _ g'.ff (r2.wrt h1 e1 ((e5.mono g'.ff).append k2))
  ·cases h3
end
end DL
namespace Js
open PySem
theorem qgx(A B:List Nat)(j:Nat)(hA:∀x∈A,x<j)(hB:∀x∈B,j<=x): ∀fuel lo hi,lo<=A.length->A.length<=hi->hi<=A.length+B.length->hi-lo<=fuel ->
  SetTable.below.go (A++B).toArray j fuel lo hi=A.length
 | 0,lo,hi,h1,h2,_,h3=>by unfold SetTable.below.go;lia
 | fuel+1,lo,hi,h1,h2,h4,h3=>by
  unfold SetTable.below.go
  by_cases c:lo<hi
  ·rw [mq c]
   show(if(A++B).toArray.getD ((lo+hi) / 2) j<j then _ else _)=_;have hm:(lo+hi) / 2<hi:=by lia
   have hm2:lo<=(lo+hi) / 2:=by lia
   by_cases d:(lo+hi) / 2<A.length
   ·have e:(A++B).toArray.getD ((lo+hi) / 2) j=A[(lo+hi) / 2]:=by
     simp [Array.getD,g4w d];lia
    rw [e,mq (hA _ (g4x d))];exact qgx A B j hA hB fuel _ _ (by lia) h2 h4 (by lia)
   ·have hb:(lo+hi) / 2-A.length<B.length:=by lia
    have e:(A++B).toArray.getD ((lo+hi) / 2) j=B[(lo+hi) / 2-A.length]:=by
     have hlt:(lo+hi) / 2<A.length+B.length:=by lia
     simp [Array.getD,g4i (Nat.le_of_not_lt d),hlt]
    rw [e,mj (g5l.mpr (hB _ (g4x hb)))];exact qgx A B j hA hB fuel _ _ h1 (by lia) (by lia) (by lia)
  ·rw [mj c];lia
theorem below_at{A B:List Nat}{j:Nat}(hA:∀x∈A,x<j)(hB:∀x∈B,j<=x): SetTable.below (A++B).toArray j=A.length:=by
 unfold SetTable.below;exact qgx A B j hA hB _ 0 _ (g03 _) (by simp) (by simp) (by simp)
theorem cut(j:Nat): ∀l:List Nat,l.Pairwise (· < ·)->∃A B,l=A++B/\(∀x∈A,x<j)/\(∀x∈B,j<=x)
 | [],_=>⟨[],[],rfl,by simp,by simp⟩
 | x :: l,h=>by
  by_cases c:x<j
  ·obtain⟨A,B,e,a,b⟩:=cut j l (g14.mp h).2
   exact⟨x :: A,B,by rw [e];rfl,by intro y hy;rcases m6.mp hy with rfl|hy;exact c;exact a y hy,b⟩
  ·exact⟨[],x :: l,rfl,by simp,by
    intro y hy;rcases m6.mp hy with rfl|hy
    ·lia
    ·have:=(g14.mp h).1 y hy;lia⟩
theorem q73{α : Type}(A B:List α)(x : α): SetTable.insertAt (A++B).toArray A.length x=(A++x :: B).toArray:=by
 unfold SetTable.insertAt;apply Array.ext';simp
theorem has_none(j:Nat): SetTable.has #[] j=false:=by unfold SetTable.has;simp
theorem qd7{t:SetTable}{l:List Nat}{j:Nat}(ep:t.place=l.toArray)(ed:t.dummies = #[])(hr:l.Pairwise (· < ·))(h:j∉l): t.slot j=.empty:=by
 obtain⟨A,B,rfl,hA,hB⟩:=cut j l hr;unfold SetTable.slot;rw [ep,ed,below_at hA hB,has_none];have:((A++B).toArray[A.length]? == some j)=false:=by
  cases B with
  | nil=>simp
  | cons b B=>
   have:b≠j:=fun e=>h (by simp [e]);simp [this]
 simp only [this];rfl
theorem qpc{t:SetTable}{l:List Nat}{j:Nat}(ep:t.place=l.toArray)(ed:t.dummies = #[])(hr:l.Pairwise (· < ·))(h:j∈l): ∃i,t.slot j=.live i:=by
 obtain⟨A,B,rfl,hA,hB⟩:=cut j l hr;unfold SetTable.slot;rw [ep,below_at hA hB];have:((A++B).toArray[A.length]? == some j)=true:=by
  rcases nu.mp h with h|h
  ·have:=hA j h;lia
  ·cases B with
   | nil=>simp at h
   | cons b B=>
    have hb:=hB b (gq ..);have:b=j:=by
     rcases m6.mp h with rfl|h
     ·rfl
     ·have:=(g14.mp (nz.mp hr).2.1).1 j h;lia
    simp [this]
 simp only [this, ↓reduceIte];exact⟨_,rfl⟩
def orb:Nat->Nat->Nat
 | 0,i=>i
 | d+1,i=>orb d ((i*5+1)%8)
theorem qpd:∀i<8,∀j<8,∃d<8,orb d i=j:=by decide
theorem qut{t:SetTable}(hm:t.mask=7){i pt:Nat}(hp:pt<32)(hi:i<8): t.advance {j:=i,more:=0,i:=i,perturb:=pt,dummy:=none} = {j:=(i*5+1)%8,more:=0,i:=(i*5+1)%8,perturb:=0,dummy:=none}:=by
 have e0:pt / 32=0:=by lia
 have e1:SetTable.runEnd 7 ((i*5+1)%8)=(i*5+1)%8:=by unfold SetTable.runEnd;rw [mj (by lia)]
 unfold SetTable.advance;rw [mj (by simp),hm];unfold SetTable.leap;simp only [e0,Nat.add_zero];show({j:=(i*5+1)%8,more:=SetTable.runEnd 7 ((i*5+1)%8)-(i*5+1)%8,i:=(i*5+1)%8,perturb:=0,dummy:=none}:SetTable.Probe)=_;rw [e1,Nat.sub_self]
theorem go7{t:SetTable}{l:List Nat}{h:Int}(ep:t.place=l.toArray)(ed:t.dummies = #[])(hr:l.Pairwise (· < ·))(hm:t.mask=7): ∀(k:Nat) (i pt:Nat),pt<32->i<8->(∃d<k,orb d i∉l) ->
  ∃j,SetTable.probe.go t (fun _=>h+1) h k {j:=i,more:=0,i:=i,perturb:=pt,dummy:=none}=some (.empty j none)/\j∉l/\j<8
 | 0,i,pt,_,_,⟨d,hd,_⟩=>by lia
 | k+1,i,pt,hp,hi,⟨d,hd,hn⟩=>by
  unfold SetTable.probe.go
  by_cases c:i∈l
  ·obtain⟨x,e⟩:=qpc ep ed hr c
   have hne:(h+1==h)=false:=by simp;lia
   simp only [e,hne,gm, ↓reduceIte];rw [qut hm hp hi];refine go7 ep ed hr hm k _ 0 (by lia) (Nat.mod_lt _ (by lia)) ?_;cases d with
   | zero=>exact absurd c hn
   | succ d=>exact⟨d,by lia,hn⟩
  ·simp only [qd7 ep ed hr c]
   exact⟨i,rfl,c,hi⟩
theorem q7l{α : Type}[DecidableEq α]: ∀ {a l:List α},a.Nodup->a ⊆ l->a.length<=l.length
 | [],_,_,_=>by simp
 | x :: a,l,hn,hs=>by
  have hx:x∈l:=hs (gq ..);have h2:a ⊆ l.erase x:=fun y hy=>(List.mem_erase_of_ne (fun e:y=x=>(g17.mp hn).1 (e ▸ hy))).mpr (hs (gr _ hy));have:=q7l (g17.mp hn).2 h2;rw [List.length_erase_of_mem hx] at this;have:0<l.length:=List.length_pos_of_mem hx;simp only [p5];lia
theorem qgy:∀(l:List Nat),(∀j<8,j∈l)->8<=l.length:=by
 intro l h;have:(List.range 8) ⊆ l:=fun j hj=>h j (g05.mp hj);have h2:=q7l g4y this
 simpa using h2
theorem qtu{t:SetTable}{l:List Nat}{n:Nat}(ep:t.place=l.toArray)(ed:t.dummies = #[])(hr:l.Pairwise (· < ·))(hm:t.mask=7)(hl:l.length<8)(hn:n<12):
  ∃j,t.freeSlot (n:Int)=some (j,false)/\j∉l/\j<8:=by
 have hb:SetTable.bits (n:Int)=n:=by unfold SetTable.bits;lia
 have hi:n%8<8:=Nat.mod_lt _ (by lia);have hex:∃d<10*SetTable.turns t.mask,orb d (n%8)∉l:=by
  have:∃j,j<8/\j∉l:=g1g fun c=>by
   have:=qgy l (fun j hj=>g1g fun d=>c ⟨j,hj,d⟩);lia
  obtain⟨j,hj,hnj⟩:=this;obtain⟨d,hd,e⟩:=qpd _ hi j hj;refine⟨d,?_,by rw [e];exact hnj⟩;rw [hm];unfold SetTable.turns;lia
 have hst:t.probeStart (n:Int) = {j:=n%8,more:=0,i:=n%8,perturb:=n,dummy:=none}:=by
  unfold SetTable.probeStart;rw [hb,hm];have e1:SetTable.runEnd 7 (n%(7+1))=n%8:=by unfold SetTable.runEnd;rw [mj (by lia)]
  simp only [e1];simp
 obtain⟨j,e,h1,h2⟩:=go7 (h:=(n:Int)) ep ed hr hm (10*SetTable.turns t.mask) (n%8) n (by lia) hi hex;refine⟨j,?_,h1,h2⟩;unfold SetTable.freeSlot SetTable.probe;rw [hst,e]
 rfl
theorem qs5{t:SetTable}{l:List Nat}{n:Nat}(ep:t.place=l.toArray)(ed:t.dummies = #[])(hr:l.Pairwise (· < ·))(hm:15<=t.mask)(hn:n<12)(hnl:n∉l):
  t.freeSlot (n:Int)=some (n,false):=by
 have hb:SetTable.bits (n:Int)=n:=by unfold SetTable.bits;lia
 have hmod:n%(t.mask+1)=n:=Nat.mod_eq_of_lt (by lia);unfold SetTable.freeSlot SetTable.probe SetTable.probeStart;rw [hb];simp only [hmod];have:10*SetTable.turns t.mask=(10*SetTable.turns t.mask-1)+1:=by unfold SetTable.turns;lia
 rw [this];unfold SetTable.probe.go;simp only [qd7 ep ed hr hnl]
 rfl
def el(p:Nat×Nat): Int×Value:=((p.1:Int),.int (p.1:Int) p.2)
structure Tb(t:SetTable)(ks:List (Nat×Nat)): Prop where
 dm:t.dummies = #[]
 pl:t.plain=true
 nd:(ks.map Prod.fst).Nodup
 lt:∀p∈ks,p.1<12
 sz:t.place.toList.length=ks.length
 rs:t.place.toList.Pairwise (· < ·)
 mz:(t.mask=7/\(∀p∈t.place.toList,p<8))\/((t.mask=15\/t.mask=31\/t.mask=63)/\t.place.toList=ks.map Prod.fst)
theorem Tb.n12{t:SetTable}{ks:List (Nat×Nat)}(T:Tb t ks): ks.length<=12:=by
 have:=q7l (l:=List.range 12) T.nd (fun x hx=>by
  obtain⟨p,hp,rfl⟩:=nv.mp hx;exact g05.mpr (T.lt p hp))
 simpa using this
theorem Tb.fits{t:SetTable}{ks:List (Nat×Nat)}(T:Tb t ks)(h:t.mask=7->ks.length<8): t.fits ks.length=true:=by
 have h1:t.place.size=ks.length:=by rw [<- T.sz];simp
 have h2:=T.n12;unfold SetTable.fits SetTable.fill;rw [T.dm,h1];have:ks.length<=t.mask:=by
  rcases T.mz with⟨e,_⟩|⟨e,_⟩
  ·have:=h e;lia
  ·lia
 simp [this]
theorem toArr(a:Array Nat): a=a.toList.toArray:=by simp
theorem qs6{A B:List Nat}{j:Nat}(h:(A++B).Pairwise (· < ·))(hA:∀x∈A,x<j)(hB:∀x∈B,j<=x)(hj:j∉A++B): (A++j :: B).Pairwise (· < ·):=by
 have hB':∀x∈B,j<x:=fun x hx=>by
  have:=hB x hx;have:x≠j:=fun e=>hj (by rw [<- e];exact mw _ hx);lia
 obtain⟨a,b,c⟩:=nz.mp h;refine nz.mpr ⟨a,g14.mpr ⟨hB',b⟩,fun x hx y hy=>?_⟩;rcases m6.mp hy with rfl|hy
 ·exact hA x hx
 ·exact c x hx y hy
theorem qm4:∀ {l:List Nat},l.Pairwise (· < ·)->l.Nodup:=fun h=>List.Pairwise.imp (fun a=>md a) h
theorem lay{t:SetTable}{ks:List (Nat×Nat)}(T:Tb t ks){n k:Nat}(hn:n<12)(hnk:n∉ks.map Prod.fst)(h7:t.mask=7->ks.length<7):
  ∃t' ks',layNew t (ks.map el).toArray (n:Int) (.int (n:Int) k)=((ks'.map el).toArray,t',false,false)/\Tb t' ks'/\ks'.Perm ((n,k) :: ks)/\t'.mask=t.mask/\t'.led=t.led/\t'.finger=t.finger/\t'.moves=t.moves:=by
 have key:∃j,t.freeSlot (n:Int)=some (j,false)/\j∉t.place.toList/\((t.mask=7/\j<8)\/((t.mask=15\/t.mask=31\/t.mask=63)/\j=n)):=by
  rcases T.mz with⟨e,_⟩|⟨e,ep⟩
  ·obtain⟨j,h1,h2,h3⟩:=qtu (n:=n) (toArr t.place) T.dm T.rs e (by rw [T.sz];have:=h7 e;lia) hn
   exact⟨j,h1,h2,.inl ⟨e,h3⟩⟩
  ·exact⟨n,qs5 (toArr t.place) T.dm T.rs (by lia) hn (by rw [ep];exact hnk),by rw [ep];exact hnk,.inr ⟨e,rfl⟩⟩
 obtain⟨j,hf,hj,hm⟩:=key;obtain⟨A,B,eAB,hA,hB⟩:=cut j _ T.rs;have hp:t.place=(A++B).toArray:=by rw [<- eAB]
 have hbel:SetTable.below t.place j=A.length:=by rw [hp];exact below_at hA hB
 have hlen:A.length<=ks.length:=by have:=T.sz;rw [eAB,nj] at this;lia
 let ks':=ks.take A.length++(n,k) :: ks.drop A.length
 let t':SetTable:={t with place:=(A++j :: B).toArray,dummies:= #[]}
 have hput:t.put j=(t',A.length):=by
  unfold SetTable.put;simp only [hbel,T.dm,has_none,gm, ↓reduceIte];rw [hp,q73]
 have hins:SetTable.insertAt (ks.map el).toArray A.length ((n:Int),Value.int (n:Int) k)=(ks'.map el).toArray:=by
  have e:ks.map el=(ks.take A.length).map el++(ks.drop A.length).map el:=by rw [<- g02,p0]
  have el1:((ks.take A.length).map el).length=A.length:=by simp [hlen]
  have:=q73 ((ks.take A.length).map el) ((ks.drop A.length).map el) ((n:Int),Value.int (n:Int) k);rw [el1] at this;rw [e,this];simp [ks',el]
 have hperm:ks'.Perm ((n,k) :: ks):=by
  have:=@List.perm_middle _ (n,k) (ks.take A.length) (ks.drop A.length);rwa [p0] at this
 have hrs:(A++j :: B).Pairwise (· < ·):=qs6 (by rw [<- eAB];exact T.rs) hA hB (by rw [<- eAB];exact hj);have T':Tb t' ks':=by
  refine⟨rfl,T.pl,?_,?_,?_,by simpa [t'] using hrs,?_⟩
  ·refine((hperm.map Prod.fst).nodup_iff).mpr ?_
   exact g17.mpr ⟨hnk,T.nd⟩
  ·intro p hp
   rcases m6.mp (hperm.mem_iff.mp hp) with rfl|h
   ·exact hn
   ·exact T.lt p h
  ·rw [hperm.length_eq]
   have:=T.sz;rw [eAB] at this;simp only [nj] at this;simp [t'];lia
  ·rcases hm with⟨e,hj8⟩|⟨e,rfl⟩
   ·refine .inl ⟨e,fun p hp=>?_⟩
    have hp':p∈A++j :: B:=by simpa [t'] using hp
    rcases T.mz with⟨_,hq⟩|⟨e',_⟩
    ·rw [eAB] at hq
     rcases nu.mp hp' with h|h
     ·exact hq p (g23 _ h)
     ·rcases m6.mp h with rfl|h
      ·exact hj8
      ·exact hq p (mw _ h)
    ·lia
   ·refine .inr ⟨e,?_⟩
    rcases T.mz with⟨e',_⟩|⟨_,ep⟩
    ·lia
    ·have e1:A=(ks.map Prod.fst).take A.length:=by rw [<- ep,eAB];simp
     have e2:B=(ks.map Prod.fst).drop A.length:=by rw [<- ep,eAB];simp
     show(A++j :: B).toArray.toList=ks'.map Prod.fst;simp only [ks',g02,gu,List.map_take,List.map_drop];rw [<- e1, <- e2]
 have h7':t'.mask=7->ks'.length<8:=fun e=>by rw [hperm.length_eq];have:=h7 e;simp;lia
 have hfit:t'.fits (ks'.map el).toArray.size=true:=by
  have:=T'.fits h7'
  simpa using this
 refine⟨t',ks',?_,T',hperm,rfl,rfl,rfl,rfl⟩;unfold layNew;simp only [hf,hput,hins];unfold SetTable.orStandIn;rw [mq hfit,hfit]
 rfl
theorem qm5{mask:Nat}{owner:Array (Option Nat)}{i pt f:Nat}(h:owner.getD i (some 0)=none): SetTable.layClean.free mask owner (f+1) i pt=some i:=by
 unfold SetTable.layClean.free;have hr:SetTable.runEnd mask i+1-i=(SetTable.runEnd mask i-i)+1:=by
  unfold SetTable.runEnd;split <;> lia
 rw [hr,g1q];have:(List.find? (fun k=>(owner.getD (i+k) (some 0)).isNone) (0 :: List.map Nat.succ (List.range (SetTable.runEnd mask i-i))))=some 0:=by
  rw [List.find?_cons];simp only [Nat.add_zero,h,Option.isNone_none]
 rw [this];rfl
def Own(mask:Nat)(hs:List Nat)(c:Nat)(owner:Array (Option Nat)): Prop:=owner.size=mask+1/\∀j,j<=mask->∀k,owner[j]? = some (some k)↔(k<c/\hs[k]? = some j)
theorem qd8(mask:Nat)(hm:15<=mask)(hs:List Nat)(hnd:hs.Nodup)(hlt:∀x∈hs,x<12): ∀(r:List Nat) (c:Nat) (owner:Array (Option Nat)),hs.drop c=r->c<=hs.length->Own mask hs c owner ->
  ∃ ow,(r.map (Int.ofNat)).foldl (fun acc h=>do
    let(owner,k) <- acc
    let j <- SetTable.layClean.free mask owner (SetTable.turns mask) (SetTable.bits h%(mask+1)) (SetTable.bits h)
    pure (owner.setIfInBounds j (some k),k+1)) (some (owner,c))=some (ow,hs.length)/\Own mask hs hs.length ow
 | [],c,owner,hd,hc,ho=>by
  have:c=hs.length:=by have:=g06 List.length hd;simp at this;lia
  subst this;exact⟨owner,rfl,ho⟩
 | x :: r,c,owner,hd,hc,ho=>by
  have hcl:c<hs.length:=by have:=g06 List.length hd;simp at this;lia
  have hx:hs[c]? = some x:=by
   have:=g06 (fun l=>l[0]?) hd
   simpa using this
  have hxm:x∈hs:=g0b hx;have hx12:=hlt x hxm;have hb:SetTable.bits (Int.ofNat x)=x:=by unfold SetTable.bits;simp;lia
  have hmod:x%(mask+1)=x:=Nat.mod_eq_of_lt (by lia);have hnone:owner.getD x (some 0)=none:=by
   have hlt':x<owner.size:=by rw [ho.1];lia
   simp only [Array.getD,hlt', ↓reduceDIte,Array.getInternal_eq_getElem];cases e:owner[x] with
   | none=>rfl
   | some k=>
    have:owner[x]? = some (some k):=by rw [g4j hlt',e]
    obtain⟨h1,h2⟩:=(ho.2 x (by lia) k).mp this;have hkl:k<hs.length:=by lia
    rw [ng hkl] at h2;rw [ng hcl] at hx;have:=(g4m hnd).mp ((mh h2).trans (mh hx).symm);lia
  have hfree:SetTable.layClean.free mask owner (SetTable.turns mask) (SetTable.bits (Int.ofNat x)%(mask+1)) (SetTable.bits (Int.ofNat x))=some x:=by
   rw [hb,hmod];have:SetTable.turns mask=(mask+14)+1:=by unfold SetTable.turns;lia
   rw [this];exact qm5 hnone
  rw [gu,g57];have hstep:(do
    let(owner,k) <- some (owner,c)
    let j <- SetTable.layClean.free mask owner (SetTable.turns mask) (SetTable.bits (Int.ofNat x)%(mask+1)) (SetTable.bits (Int.ofNat x))
    pure (owner.setIfInBounds j (some k),k+1):Option (Array (Option Nat)×Nat))=some (owner.setIfInBounds x (some c),c+1):=by
   show(SetTable.layClean.free mask owner (SetTable.turns mask) (SetTable.bits (Int.ofNat x)%(mask+1)) (SetTable.bits (Int.ofNat x))).bind _=_;rw [hfree];rfl
  refine qd8 mask hm hs hnd hlt r (c+1) (owner.setIfInBounds x (some c)) ?_ hcl ⟨by simp [ho.1],fun j hj k=>?_⟩ |> fun⟨ow,a,b⟩=>⟨ow,?_,b⟩
  ·rw [<- List.tail_drop,hd];rfl
  ·rw [Array.getElem?_setIfInBounds]
   have hxs:x<owner.size:=by rw [ho.1];lia
   by_cases e:x=j
   ·subst e
    rw [mq rfl,mq hxs]
    constructor
    ·intro h;have:c=k:=by simpa using h
     subst this;exact⟨by lia,hx⟩
    ·rintro⟨h1,h2⟩
     have hkl:k<hs.length:=by lia
     rw [ng hkl] at h2;rw [ng hcl] at hx;have:=(g4m hnd).mp ((mh h2).trans (mh hx).symm);rw [this]
   ·rw [mj e,ho.2 j hj k]
    constructor
    ·rintro⟨h1,h2⟩;exact⟨by lia,h2⟩
    ·rintro⟨h1,h2⟩
     refine⟨?_,h2⟩;have:k≠c:=fun e2=>by subst e2;rw [hx] at h2;exact e (mh h2)
     lia
  ·rw [<- a];exact g06 (fun z=>List.foldl _ z _) hstep
theorem qd9{mask:Nat}(hm:15<=mask){hs:List Nat}(hnd:hs.Nodup)(hlt:∀x∈hs,x<12): ∃ow,SetTable.layClean mask (hs.map Int.ofNat).toArray=some ow/\Own mask hs hs.length ow:=by
 obtain⟨ow,a,b⟩:=qd8 mask hm hs hnd hlt hs 0 (Array.replicate (mask+1) none) rfl (g03 _) ⟨by simp,fun j hj k=>by simp [Array.getElem?_replicate]⟩;refine⟨ow,?_,b⟩;unfold SetTable.layClean;rw [List.foldl_toArray',a]
 ·rfl
 ·simp
theorem qm6{mask:Nat}{hs:List Nat}(hnd:hs.Nodup)(hlt:∀x∈hs,x<=mask){ow:Array (Option Nat)}(ho:Own mask hs hs.length ow):
  let live:=(List.range (mask+1)).filterMap fun j=>(ow.getD j none).map (j, ·)
  (live.map Prod.fst).Pairwise (· < ·)/\(∀p∈live,hs[p.2]? = some p.1)/\(live.map Prod.snd).Perm (List.range hs.length):=by
 intro live;have hmem:∀p:Nat×Nat,p∈live↔hs[p.2]? = some p.1:=by
  intro p;obtain⟨j,k⟩:=p;simp only [live,g3x,g05,ml];have hg:∀j,j<=mask->(ow.getD j none=some k↔hs[k]? = some j):=fun j hj=>by
   have hlt':j<ow.size:=by rw [ho.1];lia
   have:ow.getD j none=some k↔ow[j]? = some (some k):=by
    simp [Array.getD,hlt']
   rw [this,ho.2 j hj k];exact⟨fun h=>h.2,fun h=>⟨(ni.mp h).1,h⟩⟩
  constructor
  ·rintro⟨j',hj',k',e,e2⟩
   injection e2 with e3 e4
   subst e3;subst e4;exact(hg _ (by lia)).mp e
  ·intro h
   have hj:=hlt j (g0b h);exact⟨j,by lia,k,(hg j hj).mpr h,rfl⟩
 have hf:live.map Prod.fst=(List.range (mask+1)).filter (fun j=>(ow.getD j none).isSome):=by
  simp only [live];generalize List.range (mask+1)=l
  induction l with
  | nil=>rfl
  | cons a l ih=>
   rw [g11,nt];cases e:ow.getD a none with
   | none=>simpa using ih
   | some k=>simpa using ih
 have hpw:(live.map Prod.fst).Pairwise (· < ·):=by
  rw [hf];exact g1h _ g5d
 refine⟨hpw,fun p hp=>(hmem p).mp hp,?_⟩;have hn2:(live.map Prod.snd).Nodup:=by
  have h1:=qm4 hpw;refine g1d.mpr ?_;have h1':=g1d.mp h1;refine g2n ?_ h1';intro p q hp hq hne e;have a:=(hmem p).mp hp;have b:=(hmem q).mp hq;rw [e,b] at a;exact hne (mh a).symm
 refine(g4c hn2 g4y).mpr fun k=>?_;rw [g05,nv]
 constructor
 ·rintro⟨p,hp,rfl⟩
  exact(ni.mp ((hmem p).mp hp)).1
 ·intro hk
  exact⟨(hs[k],k),(hmem _).mpr (ng hk),rfl⟩
theorem range_all{α : Type}: ∀l:List α,(List.range l.length).filterMap (l[·]?)=l
 | []=>rfl
 | a :: l=>by
  rw [p5,g1q,g11];simp only [g2y,g2h];have:((fun x=>(a :: l)[x]?) ∘ Nat.succ)=(l[·]?):=by funext i;simp
  rw [this,range_all l]
theorem q7m{mask f m:Nat}{led:Bool}(hm:mask=15\/mask=31\/mask=63){ks:List (Nat×Nat)}(hnd:(ks.map Prod.fst).Nodup)(hlt:∀p∈ks,p.1<12):
  ∃t order ks',SetTable.laid mask f m led true ((ks.map el).toArray.map (·.1))=some (t,order)/\order.filterMap ((ks.map el).toArray[·]?)=(ks'.map el).toArray/\ks'.Perm ks/\Tb t ks'/\t.mask=mask/\t.led=led /\
   coversAll order ks.length=true:=by
 have hlt':∀x∈ks.map Prod.fst,x<12:=fun x hx=>by obtain⟨p,hp,rfl⟩:=nv.mp hx;exact hlt p hp
 obtain⟨ow,a,b⟩:=qd9 (mask:=mask) (by lia) hnd hlt';obtain⟨h1,h2,h3⟩:=qm6 hnd (fun x hx=>by have:=hlt' x hx;lia) b;generalize hlv:((List.range (mask+1)).filterMap fun j=>(ow.getD j none).map (j, ·))=live at h1 h2 h3;have ehs:(ks.map el).toArray.map (·.1)=((ks.map Prod.fst).map Int.ofNat).toArray:=by
  simp [el,g4g]
 have h3':(live.map Prod.snd).Perm (List.range ks.length):=by simpa using h3
 let ks':=live.filterMap (fun p=>ks[p.2]?)
 have hk2:∀p∈live,∃q,ks[p.2]? = some q/\q.1=p.1:=fun p hp=>by
  have:=h2 p hp;rw [n9,ml] at this;exact this
 have hfst:ks'.map Prod.fst=live.map Prod.fst:=by
  simp only [ks'];clear h3 h3' h1 hlv h2
  induction live with
  | nil=>rfl
  | cons p l ih=>
   obtain⟨q,e,e2⟩:=hk2 p (gq ..);rw [g11,e,gu,gu,e2,ih (fun r hr=>hk2 r (gr _ hr))]
 have hperm:ks'.Perm ks:=by
  have e1:ks'=(live.map Prod.snd).filterMap (ks[·]?):=by rw [g2h];rfl
  rw [e1];refine(List.Perm.filterMap _ h3').trans ?_;rw [range_all]
 refine⟨{mask:=mask,place:=(live.map (·.1)).toArray,dummies:= #[],finger:=f,led:=led,moves:=m,plain:=true},(live.map (·.2)).toArray,ks',?_,?_,hperm,?_,rfl,rfl,?_⟩
 ·unfold SetTable.laid
  rw [ehs,a];simp only [Option.bind_eq_bind,mm,hlv]
  rfl
 ·rw [List.filterMap_toArray]
  congr 1
  rw [g2h];have e3:((fun x=>(ks.map el).toArray[x]?) ∘ fun x:Nat×Nat=>x.2)=fun p=>(ks[p.2]?).map el:=by
   funext p;simp
  rw [e3];simp only [ks'];rw [List.map_filterMap]
 ·refine⟨rfl,rfl,?_,?_,?_,?_,.inr ⟨hm,?_⟩⟩
  ·exact((hperm.map Prod.fst).nodup_iff).mpr hnd
  ·exact fun p hp=>hlt p (hperm.mem_iff.mp hp)
  ·have:=g06 List.length hfst
   simpa using this.symm
  ·simpa using h1
  ·simpa using hfst.symm
 ·unfold coversAll
  rw [List.isPerm_iff]
  simpa using h3'
theorem q8r{α : Type}: ∀(l:List α) {i:Nat} (hi:i<l.length),([l[i]]++l.eraseIdx i).Perm l
 | [],i,hi=>by simp at hi
 | a :: l,0,hi=>by simp
 | a :: l,i+1,hi=>by
  have:=q8r l (i:=i) (by simpa using hi);simp only [g1r,g2w,g36,g08] at this ⊢;exact(List.Perm.swap _ _ _).trans (List.Perm.cons _ this)
theorem qao{α : Type}(nx:Nat->Nat): ∀(f k:Nat) (l:List α) (out:Array α),l.length<=f->((pickOrder.go nx f k l out).toList).Perm (out.toList++l)
 | 0,k,l,out,h=>by
  have:l=[]:=by cases l <;> simp_all
  subst this;simp [pickOrder.go]
 | f+1,k,[],out,h=>by simp [pickOrder.go]
 | f+1,k,a :: l,out,h=>by
  have hi:nx k%(a :: l).length<(a :: l).length:=Nat.mod_lt _ (by simp);unfold pickOrder.go;rw [ng hi];refine(qao nx f (k+1) _ _ (by rw [List.length_eraseIdx];simp only [hi,ny];simp at h ⊢;lia)).trans ?_;rw [Array.toList_push,mr];exact uw _ (q8r _ hi)
theorem q41{α : Type}(nx:Nat->Nat)(xs:Array α): ((pickOrder nx xs).toList).Perm xs.toList:=by
 unfold pickOrder;have:=qao nx xs.size 0 xs.toList #[] (by simp)
 simpa using this
theorem q3h{n:Nat}(h:8<=n)(h2:n<64): (SetTable.sizeAbove n=16/\n<16)\/(SetTable.sizeAbove n=32/\16<=n/\n<32)\/(SetTable.sizeAbove n=64/\32<=n):=by
 have:∀n<64,8<=n->((SetTable.sizeAbove n=16/\n<16)\/(SetTable.sizeAbove n=32/\16<=n/\n<32)\/(SetTable.sizeAbove n=64/\32<=n)):=by decide +kernel
 exact this n h2 h
abbrev byT(w:World): Bool:=w.params.followText "set-order"
structure SI(w:World)(h:Heap)(a:Addr)(t:SetTable)(ks:List (Nat×Nat)): Prop where
 ob:∃o ep,h.get? a=some o/\o.ExactSet/\o.data=.set (ks.map el).toArray ep t
 tb:Tb t ks
 ld:t.led = !byT w
section
variable{prog:Program}{w:World}{A:Around}{E:Value->Shared->Prop}{s:Shared}{a:Addr}{t:SetTable}{ks:List (Nat×Nat)}
theorem q4r{n:Nat}(h:n<12): (intKind prog w).hash (n:Int)=(n:Int):=by
 have:∀n<12,hashInt ((n:Nat):Int)=((n:Nat):Int):=by decide
 exact this n h
theorem elems(hl:∀p∈ks,p.1<12): ElemsOf (intKind prog w) (ks.map el):=by
 intro e he;obtain⟨p,hp,rfl⟩:=nv.mp he;exact⟨⟨(p.1:Int),g3m _ _ _ _,(q4r (hl p hp)).symm⟩,rfl⟩
theorem q4s(T:Tb t ks)(h7:t.mask=7->ks.length<8): t.fits (ks.map el).toArray.size=true:=by
 have:=T.fits h7;simpa using this
theorem qpe{n:Nat}(h:n∈ks.map Prod.fst): ∃j,List.findIdx? (fun e=>(intKind prog w).is (n:Int) e.2) (ks.map el)=some j:=by
 obtain⟨p,hp,rfl⟩:=nv.mp h;cases e:List.findIdx? (fun e=>(intKind prog w).is (p.1:Int) e.2) (ks.map el) with
 | some j=>exact⟨j,rfl⟩
 | none=>
  have:=g4k.mp e (el p) (g2a hp);have h2:(intKind prog w).is (p.1:Int) (el p).2=true:=g3m _ _ _ _;rw [h2] at this;exact absurd this (by decide)
theorem qm7{n:Nat}(h:n∉ks.map Prod.fst): List.findIdx? (fun e=>(intKind prog w).is (n:Int) e.2) (ks.map el)=none:=by
 refine g4k.mpr fun e he=>?_;obtain⟨p,hp,rfl⟩:=nv.mp he;cases e:(intKind prog w).is (n:Int) (el p).2 with
 | false=>rfl
 | true=>
  have:=(intKind prog w).inj (el p).2 _ _ e (g3m _ _ (p.1:Int) p.2);have:n=p.1:=by lia
  exact absurd (g2a hp) (this ▸ h)
def Step(t:SetTable)(ks:List (Nat×Nat))(p:Nat×Nat)(t':SetTable)(ks':List (Nat×Nat)): Prop:=
 Tb t' ks'/\t'.led=t.led/\if p.1∈ks.map Prod.fst then ks'=ks/\t'=t else
  ks'.Perm (p :: ks)/\t'.mask=(if(ks.length+1)*5>=t.mask*3 then SetTable.sizeAbove ((ks.length+1)*4)-1 else t.mask)
theorem qpf{h:Heap}{o:Obj}{es es':Array (Int×Value)}{ep:Nat}{t t':SetTable}(ho:h.get? a=some o)(hd:o.data=.set es ep t):
  (h.update a (Obj.putSet es' t')).get? a=some {o with data:=.set es' (ep+1) t'}:=by
 have:=g18 (Obj.putSet es' t') ho (by rw [putSet_of es' t' hd];rfl);rw [putSet_of es' t' hd] at this;exact this
theorem SI.put{h:Heap}{t':SetTable}{ks':List (Nat×Nat)}(S:SI w h a t ks)(T':Tb t' ks')(hl:t'.led=t.led): SI w (h.update a (Obj.putSet (ks'.map el).toArray t')) a t' ks':=by
 obtain⟨o,ep,ho,hx,hd⟩:=S.ob;exact⟨⟨_,_,qpf ho hd,hx,rfl⟩,T',by rw [hl];exact S.ld⟩
theorem size_le(T:Tb t ks): (ks.map el).toArray.size<=sizeLine:=by
 have:=T.n12;rw [g28];simp;lia
theorem qjc{n k:Nat}{Q:Bool->Shared->Prop}(S:SI w s.heap a t ks)(hn:n<12)(h7:t.mask=7->ks.length<7)
  (h:∀h' t' ks',Heap.SameBut a s.heap h'->SI w h' a t' ks'->Step t ks (n,k) t' ks'->Q (!(decide (n∈ks.map Prod.fst))) {s with heap:=h'}) :
  wpAny (model prog w) A (setAddHashed a (.int (n:Int) k) (n:Int)) Q E s:=by
 obtain⟨o,ep,ho,hx,hd⟩:=id S.ob;have T:=S.tb;have hf:t.fits (ks.map el).toArray.size=true:=q4s T (fun e=>by have:=h7 e;lia);have hel:ElemsOf (intKind prog w) (ks.map el).toArray.toList:=by simpa using elems T.lt
 have hn12:=T.n12;unfold setAddHashed setAddHashedIn;refine ug (g9 (g31 ho hd hf ?_));dsimp only;rw [byScan_of (knd:=intKind prog w) rfl (by unfold scanBound;simp;lia) hel];simp only [↓reduceIte];unfold setAddByScan;refine g9 ?_;refine g9 (g01 ?_);have hsc:=@wpAny_setScan_of prog w Int _ (intKind prog w) A E s a o (ks.map el).toArray ep t (.int (n:Int) k) (n:Int) true;rw [q4r hn] at hsc;refine g9 (hsc (g3m _ _ _ _) ho hd hf hel ?_)
 by_cases hm:n∈ks.map Prod.fst
 ·obtain⟨j,hj⟩:=qpe (prog:=prog) (w:=w) hm
  have hj':List.findIdx? (fun e=>(intKind prog w).is (n:Int) e.2) (ks.map el).toArray.toList=some j:=by simpa using hj
  rw [hj'];dsimp only;refine gc (gc ?_);have e:s = {s with heap:=s.heap}:=by cases s;rfl
  have:=h s.heap t ks (g1u a s.heap) S ⟨T,rfl,by rw [mq hm];exact⟨rfl,rfl⟩⟩;rw [nk hm] at this;rw [e];exact this
 ·have hj':List.findIdx? (fun e=>(intKind prog w).is (n:Int) e.2) (ks.map el).toArray.toList=none:=by simpa using qm7 (prog:=prog) (w:=w) hm
  rw [hj'];dsimp only;obtain⟨t1,ks1,hL,T1,p1,m1,l1,f1,v1⟩:=lay T (k:=k) hn hm h7;rw [hL];dsimp only;have hgw:∀(b:Bool) {s₁:Shared} {Q':Unit->Shared->Prop},Q' () s₁->wpAny (model prog w) A (match b with|true=>rule "set.scan.the-table-gave-way" | false=>pure ()) Q' E s₁:=
   fun b s₁ Q' hq=>by cases b <;> first|exact gc hq|exact g01 hq
  refine g9 (hgw false ?_);rw [T1.pl];simp only [↓reduceIte];rw [hashByValue_scannable 8 rfl];refine g9 (gc ?_);simp only [plainKind, ↓reduceIte];have S1:SI w (s.heap.update a (Obj.putSet (ks1.map el).toArray t1)) a t1 ks1:=S.put T1 l1;have hsb1:=ur s.heap a (Obj.putSet (ks1.map el).toArray t1);have hlen:ks1.length=ks.length+1:=by rw [p1.length_eq];rfl
  have htf:t1.tooFull=decide ((ks.length+1)*5>=t.mask*3):=by
   unfold SetTable.tooFull SetTable.fill;have:t1.place.size=ks.length+1:=by rw [<- hlen, <- T1.sz];simp
   rw [T1.dm,this,m1];simp
  refine g9 (g1w ho hd ?_ (size_le T1))
  by_cases hfull:(ks.length+1)*5>=t.mask*3
  ·rw [htf,nk hfull]
   simp only [g20,Bool.and_self, ↓reduceIte];have hn1:=T1.n12;have hg:SetTable.grown (ks1.map el).toArray.size=(ks.length+1)*4:=by
    unfold SetTable.grown;simp only [gj,mv,hlen];rw [mj (by lia)]
   have hsa:SetTable.sizeAbove ((ks.length+1)*4)-1=15\/SetTable.sizeAbove ((ks.length+1)*4)-1=31\/SetTable.sizeAbove ((ks.length+1)*4)-1=63:=by
    have hm7:7<=t.mask:=by rcases T.mz with⟨e,_⟩|⟨e,_⟩ <;> lia
    rcases q3h (n:=(ks.length+1)*4) (by lia) (by lia) with h|h|h <;> lia
   obtain⟨t2,ord,ks2,e2,f2,p2,T2,m2,l2,c2⟩:=q7m (f:=t1.finger) (m:=t1.movedTo (SetTable.sizeAbove ((ks.length+1)*4)-1)) (led:=t1.led) hsa T1.nd T1.lt;have hrl:t1.relaid ((ks1.map el).toArray.map (·.1)) (SetTable.grown (ks1.map el).toArray.size)=some (t2,ord):=by
    unfold SetTable.relaid;rw [hg,T1.pl];exact e2
   have hlen2:ks2.length=ks1.length:=p2.length_eq;have hra:relayAll t1 (ks1.map el).toArray (SetTable.grown (ks1.map el).toArray.size)=((ks2.map el).toArray,t2,false):=by
    unfold relayAll;rw [hrl];dsimp only;rw [f2];have hc:coversAll ord (ks1.map el).toArray.size=true:=by simpa using c2
    have hft:t2.fits (ks2.map el).toArray.size=true:=q4s T2 (fun e=>by lia);rw [hc,hft];rfl
   rw [hra];dsimp only;refine g9 (hgw false ?_);obtain⟨o1,ep1,ho1,hx1,hd1⟩:=id S1.ob;refine g9 (g1w ho1 hd1 ?_ (size_le T2));refine gc ?_;dsimp only;refine gc ?_;have:=h _ t2 ks2 (hsb1.trans (ur _ a _)) (S1.put T2 l2) ⟨T2,l2.trans l1,by
    rw [mj hm,mq hfull];exact⟨p2.trans p1,m2⟩⟩
   rw [pq hm] at this;exact this
  ·rw [htf,pq hfull]
   simp only [g20,g4b,gm, ↓reduceIte];refine gc ?_;have:=h _ t1 ks1 hsb1 S1 ⟨T1,l1,by rw [mj hm,mj hfull];exact⟨p1,m1⟩⟩;rw [pq hm] at this;exact gc this
end
theorem q7n{α β : Type}[DecidableEq α]{f : α -> β}: ∀ {l:List β} {ks:List α},l.Perm (ks.map f)->∃ls:List α,ls.Perm ks/\l=ls.map f
 | [],ks,h=>by
  have:ks=[]:=by simpa using h.symm
  exact⟨[],by rw [this],rfl⟩
 | x :: l,ks,h=>by
  have hx:x∈ks.map f:=h.mem_iff.mp (gq ..);obtain⟨p,hp,rfl⟩:=nv.mp hx;have h1:=List.perm_cons_erase hp;have h2:(f p :: l).Perm (f p :: (ks.erase p).map f):=h.trans (h1.map f);obtain⟨ls,a,e⟩:=q7n (List.Perm.cons_inv h2);exact⟨p :: ls,(List.Perm.cons _ a).trans h1.symm,by rw [e];rfl⟩
section
variable{prog:Program}{w:World}{A:Around}{E:Value->Shared->Prop}{s:Shared}{a b:Addr}{t u:SetTable}{ks ls:List (Nat×Nat)}
theorem SI.state{Q:(Array (Int×Value)×Nat×SetTable)->Shared->Prop}(S:SI w s.heap a t ks)(h7:t.mask=7->ks.length<8)
  (h:∀ep,(∃o,s.heap.get? a=some o/\o.ExactSet/\o.data=.set (ks.map el).toArray ep t)->Q ((ks.map el).toArray,ep,t) s):wpAny (model prog w) A (setState a) Q E s:=by
 obtain⟨o,ep,ho,hx,hd⟩:=S.ob;exact g31 ho hd (q4s S.tb h7) (h ep ⟨o,ho,hx,hd⟩)
theorem SI.keep{h h':Heap}(S:SI w h a t ks)(e:∀o,h.get? a=some o->h'.get? a=some o): SI w h' a t ks:=by
 obtain⟨o,ep,ho,r⟩:=S.ob;exact⟨⟨o,ep,e o ho,r⟩,S.tb,S.ld⟩
theorem q8s{es:Array (Int×Value)}{t':SetTable}{ord:Array Nat}{es':Array (Int×Value)}{α : Type}{F:Array (Int×Value)×SetTable->Sem α}{Q : α -> Shared->Prop}(e:ord.filterMap (es[·]?)=es')(hs:es'.size=es.size)
  (h:wpAny (model prog w) A (F (es',t')) Q E s) :
  wpAny (model prog w) A ((do
   let some (t,order):=some (t',ord)|unsupported "internal:set-table-without-room"
   let es':=order.filterMap (es[·]?)
   if es'.size != es.size then unsupported "internal:set-table-lost-an-element"
   pure (es',t):Sem (Array (Int×Value)×SetTable)) >>= F) Q E s:=by
 refine g9 ?_;dsimp only;rw [e];have:(es'.size != es.size)=false:=by simp [hs]
 rw [this];simp only [gm, ↓reduceIte];exact gc h
theorem qm8{wanted:Nat}{Q:Unit->Shared->Prop}(S:SI w s.heap a t ks)(h7:t.mask=7->ks.length<8)(hw:8<=wanted)(hw2:wanted<64)
  (h:∀h' t' ks',Heap.SameBut a s.heap h'->SI w h' a t' ks'->t'.mask=SetTable.sizeAbove wanted-1->ks'.Perm ks->Q () {s with heap:=h'}) :
  wpAny (model prog w) A (setRelay a wanted) Q E s:=by
 unfold setRelay;refine g9 (S.state h7 fun ep ⟨o,ho,hx,hd⟩=>?_);dsimp only;have hc:=q3h hw hw2;have hsz:¬(SetTable.sizeAbove wanted>sizeLine):=by rw [g28];lia
 rw [mj hsz];obtain⟨t2,ord,ks2,e2,f2,p2,T2,m2,l2,c2⟩:=q7m (f:=t.finger) (m:=t.movedTo (SetTable.sizeAbove wanted-1)) (led:=t.led) (mask:=SetTable.sizeAbove wanted-1) (by lia) S.tb.nd S.tb.lt;have hrl:t.relaid ((ks.map el).toArray.map (·.1)) wanted=some (t2,ord):=by
  unfold SetTable.relaid;rw [S.tb.pl];exact e2
 rw [hrl];refine q8s f2 (by simp [p2.length_eq]) ?_;dsimp only;refine g1w ho hd ?_ (size_le T2);exact h _ t2 ks2 (ur _ a _) (S.put T2 l2) m2 p2
theorem wp_walk{Q:Array (Int×Value)->Shared->Prop}(S:SI w s.heap a t ks)(h7:t.mask=7->ks.length<8)
  (h:∀ls:List (Nat×Nat),ls.Perm ks->Q (ls.map el).toArray s):wpAny (model prog w) A (setWalk a) Q E s:=by
 unfold setWalk;refine g9 (S.state h7 fun ep _=>?_);dsimp only;unfold setsByText;refine g9 (g9 (uh (gc ?_)))
 by_cases hb:byT w=true
 ·refine t9 (fun _=>?_) (fun c=>absurd hb c)
  refine g9 (uh (gc ?_));have hp:=q41 ((⟨(model prog w).prog,(model prog w).w.params⟩:Setting).params.setOrder a ep) (ks.map el).toArray;generalize pickOrder ((⟨(model prog w).prog,(model prog w).w.params⟩:Setting).params.setOrder a ep) (ks.map el).toArray=xs at hp;have hp':xs.toList.Perm (ks.map el):=by simpa using hp
  obtain⟨ls,hl,e⟩:=q7n hp';have:=h ls hl;rw [<- e] at this;exact this
 ·refine t9 (fun c=>absurd c hb) (fun _=>?_)
  refine t9 (fun c=>?_) (fun _=>?_)
  ·have c':(!t.plain&&decide ((ks.map el).toArray.size>1))=true:=c
   rw [S.tb.pl] at c';simp at c'
  ·have hld:t.led=true:=by rw [S.ld];simpa using hb
   show wpAny _ _ ((do if !t.led&&(ks.map el).toArray.size>1 then unsupported "set:maker-not-led" : Sem Unit) >>= fun _=>pure (ks.map el).toArray) _ _ _;rw [hld];simp only [g0k,g2q,gm, ↓reduceIte];exact g9 (gc (gc (h ks (g3u _))))
end
section
variable{prog:Program}{w:World}{A:Around}{E:Value->Shared->Prop}{s:Shared}{a b:Addr}{t u:SetTable}{ks ls:List (Nat×Nat)}
theorem qjd{os:List Addr}{f:Option Addr}{Q:Array (Int×Value)->Shared->Prop}(S:SI w s.heap a t ks)(h7:t.mask=7->ks.length<8)
  (h:∀ls:List (Nat×Nat),ls.Perm ks->Q (ls.map el).toArray s):wpAny (model prog w) A (setWalkUnseen a os f) Q E s:=by
 unfold setWalkUnseen;refine g9 (S.state h7 fun ep _=>?_);dsimp only;refine g9 ?_;unfold setsByText;refine g9 (uh (gc ?_));dsimp only;refine t9 (fun _=>?_) (fun c=>?_)
 ·exact wp_walk S h7 h
 ·refine absurd ?_ c
  have:t.led = !(model prog w).w.params.followText "set-order" :=S.ld;rw [this,S.tb.pl];cases(model prog w).w.params.followText "set-order" <;> simp
theorem qfw{ep:Nat}{ob:Obj}{each:Sem Unit}(hab:a≠b)(hob:∀ {s':Shared} {Q:(Array (Int×Value)×Nat×SetTable)->Shared->Prop},s'.heap.get? b=some ob->Q ((ls.map el).toArray,ep,u) s'->wpAny (model prog w) A (setState b) Q E s')
  (hea:∀ {s':Shared} {Q:Unit->Shared->Prop},s'.heap.get? b=some ob->Q () s'->wpAny (model prog w) A each Q E s') :
  ∀(r:List (Nat×Nat)) (s:Shared) (t:SetTable) (ks:List (Nat×Nat)) (Q:Unit->Shared->Prop),(∀p∈r,p.1<12)->SI w s.heap a t ks->(ks.length+r.length)*5<t.mask*3->s.heap.get? b=some ob ->
  (∀h' t' ks',Heap.SameBut a s.heap h'->SI w h' a t' ks'->t'.mask=t.mask->(∀n,n∈ks'.map Prod.fst↔n∈ks.map Prod.fst\/n∈r.map Prod.fst)->ks'.length<=ks.length+r.length->Q () {s with heap:=h'}) ->
  wpAny (model prog w) A (forIn (r.map el) PUnit.unit fun(x:Int×Value) (_:PUnit)=>do
   let _ <- holding [x.2] (setAddHashed a x.2 x.1)
   each
   if(<- setState b).2.1 != ep then unsupported "set.changed-during-merge"
   pure (ForInStep.yield PUnit.unit)) Q E s
 | [],s,t,ks,Q,hr,S,hm,hb,h=>by
  simp only [g0i,g2r];refine gc ?_;have:=h s.heap t ks (g1u _ _) S rfl (fun n=>by simp) (by simp);exact this
 | p :: r,s,t,ks,Q,hr,S,hm,hb,h=>by
  simp only [gu,g1o];have hp:=hr p (gq ..);have hml:(ks.length+1+r.length)*5<t.mask*3:=by simp only [p5] at hm;lia
  refine g9 ?_;refine g9 (ug (qjc (n:=p.1) (k:=p.2) S hp (fun e=>by lia) fun h' t' ks' hsb S' st=>?_));have hb':h'.get? b=some ob:=by rw [hsb.2 b (fun e=>hab e.symm)];exact hb
  obtain⟨T',l',c⟩:=st;have hlen:ks'.length<=ks.length+1/\t'.mask=t.mask/\(∀n,n∈ks'.map Prod.fst↔n∈ks.map Prod.fst\/n=p.1):=by
   split at c
   ·rename_i hin
    obtain⟨rfl,rfl⟩:=c;exact⟨by lia,rfl,fun n=>⟨.inl,fun h=>h.elim id (fun e=>e ▸ hin)⟩⟩
   ·obtain⟨c1,c2⟩:=c
    rw [mj (by lia)] at c2;refine⟨by rw [c1.length_eq];simp,c2,fun n=>?_⟩;rw [(c1.map Prod.fst).mem_iff,gu,m6];exact Or.comm
  refine g9 (hea (s':={s with heap:=h'}) hb' ?_);refine g9 (hob (s':={s with heap:=h'}) hb' ?_);dsimp only;rw [mj (by simp)];refine gc ?_;refine qfw hab hob hea r {s with heap:=h'} t' ks' Q (fun q hq=>hr q (gr _ hq)) S' (by rw [hlen.2.1];lia) hb' fun h2 t2 ks2 sb2 S2 m2 i2 l2=>?_;refine h h2 t2 ks2 (hsb.trans sb2) S2 (m2.trans hlen.2.1) (fun n=>?_) (by simp only [p5];lia);rw [i2 n,hlen.2.2 n,gu,m6,or_assoc]
theorem qpg{m:Nat}{Q:Unit->Shared->Prop}(S:SI w s.heap a t ks)(h7:t.mask=7->ks.length<8)(hm:m<=12)
  (h:∀h' t' ks',Heap.SameBut a s.heap h'->SI w h' a t' ks'->ks'.Perm ks->(ks.length+m)*5<t'.mask*3 ->
   ((ks.length+m)*5<t.mask*3/\t'.mask=t.mask\/t'.mask=SetTable.sizeAbove ((ks.length+m)*2)-1/\t.mask*3<=(ks.length+m)*5)->Q () {s with heap:=h'}) :
  wpAny (model prog w) A (setRoomFor a m) Q E s:=by
 unfold setRoomFor;refine g9 (S.state h7 fun ep _=>?_);dsimp only;have hsz:t.place.size=ks.length:=by rw [<- S.tb.sz];simp
 have hfl:t.fill=ks.length:=by unfold SetTable.fill;rw [S.tb.dm,hsz];simp
 have hn:=S.tb.n12;unfold SetTable.roomFor;rw [hfl,hsz];have hmk:=S.tb.mz
 by_cases c:(ks.length+m)*5>=t.mask*3
 ·rw [mq c]
  dsimp only;refine qm8 S h7 (by rcases hmk with⟨e,_⟩|⟨e,_⟩ <;> lia) (by lia) fun h' t' ks' sb S' m' p'=>?_;have hc:=q3h (n:=(ks.length+m)*2) (by rcases hmk with⟨e,_⟩|⟨e,_⟩ <;> lia) (by lia);exact h h' t' ks' sb S' p' (by lia) (.inr ⟨m',c⟩)
 ·rw [mj c]
  dsimp only;refine gc ?_;exact h s.heap t ks (g1u _ _) S (g3u _) (by lia) (.inl ⟨by lia,rfl⟩)
theorem qda{each:Sem Unit}{Q:Unit->Shared->Prop}(hab:a≠b)(S:SI w s.heap a t ks)(hbm:ks=[]->t.mask=7)(h7:t.mask=7->ks.length<8)(U:SI w s.heap b u ls)(hu:ls.length<5->u.mask=7)(hu7:u.mask=7->ls.length<8)
  (hea:∀ {s':Shared} {Q:Unit->Shared->Prop},s'.heap.get? b=s.heap.get? b->Q () s'->wpAny (model prog w) A each Q E s')
  (h:∀h' t' ks',Heap.SameBut a s.heap h'->SI w h' a t' ks'->(t'.mask=7->ks'.length<8)->(∀n,n∈ks'.map Prod.fst↔n∈ks.map Prod.fst\/n∈ls.map Prod.fst)->(ks=[]->ks'=[]->t'.mask=7)->Q () {s with heap:=h'}) :
  wpAny (model prog w) A (setMerge a b each) Q E s:=by
 unfold setMerge;have hne:(a==b)=false:=by simpa using hab
 rw [hne];simp only [gm, ↓reduceIte];have hn:=S.tb.n12;have hnu:=U.tb.n12;refine g9 (U.state hu7 fun ep ⟨o,ho,hx,hd⟩=>?_);dsimp only
 by_cases he:ls=[]
 ·subst he
  have:((([]:List (Nat×Nat)).map el).toArray).isEmpty=true:=rfl;rw [mq this];refine gc ?_;exact h s.heap t ks (g1u _ _) S h7 (fun n=>by simp) (fun e _=>hbm e)
 ·have:((ls.map el).toArray).isEmpty=false:=by cases ls <;> simp_all
  rw [this];simp only [gm, ↓reduceIte];have hsz:((ls.map el).toArray).size=ls.length:=by simp
  rw [hsz];refine g9 (qpg S h7 hnu fun h1 t1 ks1 sb1 S1 p1 r1 q1=>?_);have U1:SI w h1 b u ls:=U.keep fun o e=>by rw [sb1.2 b (fun e=>hab e.symm)];exact e
  have ho1:h1.get? b=some o:=by rw [sb1.2 b (fun e=>hab e.symm)];exact ho
  have hl1:ks1.length=ks.length:=p1.length_eq;have hpos:0<ls.length:=List.length_pos_iff.mpr he;refine g9 (SI.state (s:={s with heap:=h1}) S1 (fun e=>by lia) fun ep1 ⟨o1,ho1',hx1,hd1⟩=>?_);dsimp only;have hfl:t1.fill=ks.length:=by unfold SetTable.fill;rw [S1.tb.dm, <- hl1, <- S1.tb.sz];simp
  unfold SetTable.road;rw [hfl,U.tb.dm]
  by_cases hk:ks=[]
  ·subst hk
   have hk1:ks1=[]:=by simpa using hl1
   subst hk1;simp only [g0g,bne_self_eq_false,gm, ↓reduceIte];have hld:(t1.led&&u.led) = !byT w:=by rw [S1.ld,U.ld];simp
   have hpl:(t1.plain&&u.plain)=true:=by rw [S1.tb.pl,U.tb.pl];rfl
   by_cases hmk:t1.mask=u.mask
   ·have hc:((t1.mask==u.mask)&&(#[]:Array Nat).isEmpty)=true:=by simp [hmk]
    rw [hc];simp only [↓reduceIte];refine g1w (s:={s with heap:=h1}) ho1' hd1 ?_ (size_le U.tb);rw [hld,hpl];have T':Tb {u with dummies:= #[],finger:=t1.finger,led:= !byT w,moves:=t1.moves,plain:=true} ls:=⟨rfl,rfl,U.tb.nd,U.tb.lt,U.tb.sz,U.tb.rs,U.tb.mz⟩
    refine h _ _ ls (sb1.trans (ur _ a _)) (S1.put T' (by rw [S1.ld])) hu7 (fun n=>by simp) (fun _ e=>absurd e he)
   ·have hc:((t1.mask==u.mask)&&(#[]:Array Nat).isEmpty)=false:=by simp [hmk]
    rw [hc];simp only [gm, ↓reduceIte];have ht7:=hbm rfl;have hm1:t1.mask=15\/t1.mask=31\/t1.mask=63:=by
     rcases S1.tb.mz with⟨e,_⟩|⟨e,_⟩
     ·exfalso
      have:ls.length<5:=by rw [e] at r1;simp at r1;lia
      exact hmk (e.trans (hu this).symm)
     ·exact e
    obtain⟨t2,ord,ks2,e2,f2,p2,T2,m2,l2,c2⟩:=q7m (f:=t1.finger) (m:=t1.moves) (led:=t1.led&&u.led) (mask:=t1.mask) hm1 U.tb.nd U.tb.lt;rw [hpl,e2];refine q8s f2 (by simp [p2.length_eq]) ?_;dsimp only;refine g1w (s:={s with heap:=h1}) ho1' hd1 ?_ (size_le T2);refine h _ t2 ks2 (sb1.trans (ur _ a _)) (S1.put T2 (by rw [l2,hld,S1.ld])) (fun e=>by lia) (fun n=>?_) (fun _ e=>?_)
    ·rw [(p2.map Prod.fst).mem_iff];simp
    ·rw [e] at p2;exact absurd (by simpa using p2.symm) he
  ·have hfn:(ks.length != 0)=true:=by simp [hk]
   rw [hfn];simp only [↓reduceIte];refine g9 (qjd (s:={s with heap:=h1}) U1 hu7 fun xs px=>?_);rw [<- Array.forIn_toList];have hxl:xs.length=ls.length:=px.length_eq;have key:=qfw (prog:=prog) (w:=w) (A:=A) (E:=E) (ls:=ls) (u:=u) (ep:=ep) (ob:=o) (each:=each) hab (fun {s'} {Q'} e q=>g31 e hd (q4s U.tb hu7) q) (fun {s'} {Q'} e q=>hea (by rw [e,ho]) q)
    xs {s with heap:=h1} t1 ks1 (fun _ s'=>wpAny (model prog w) A (pure ()) Q E s') (fun p hp=>U.tb.lt p (px.mem_iff.mp hp)) S1 (by rw [hl1,hxl];exact r1) ho1 (fun h2 t2 ks2 sb2 S2 m2 i2 l2=>?_)
   ·exact g9 key
   ·refine gc ?_
    refine h h2 t2 ks2 (sb1.trans sb2) S2 (fun e=>by lia) (fun n=>?_) (fun e=>absurd e hk);rw [i2 n,(p1.map Prod.fst).mem_iff,(px.map Prod.fst).mem_iff]
end
theorem qdb:entryFor table "set.__or__" = some Builtin.«frozenset.__or__» :=
 entryFor_alias (id':="frozenset.__or__") (by kernel_rfl) rfl (by decide +kernel) (by kernel_rfl)
theorem qfx:isSubtype (.type "set") (.type "set")=pure true:=by rw [g21];kernel_rfl
section
variable{prog:Program}{w:World}{A:Around}{E:Value->Shared->Prop}{s:Shared}{a b:Addr}{t u:SetTable}{ks ls:List (Nat×Nat)}
theorem SI.typeIs(S:SI w s.heap a t ks): s.TypeIs (.ref a) "set" :=let⟨o,_,ho,hc,_⟩:=S.ob; ⟨o,ho,hc.1⟩
def vy(w:World): Obj:={cls:=.type "set",dict:=none,data:=.set #[] 0 (.fresh 0 0 (!byT w))}
theorem qm9{led:Bool}: Tb (.fresh 0 0 led) []:=⟨rfl,rfl,by simp,by simp,by simp [SetTable.fresh],by simp [SetTable.fresh],.inl ⟨rfl,by simp [SetTable.fresh]⟩⟩
theorem qdc{h:Heap}(ho:h.get? a=some (vy w)): SI w h a (.fresh 0 0 (!byT w)) []:=⟨⟨_,0,ho,⟨rfl,rfl,rfl⟩,rfl⟩,qm9,rfl⟩
theorem qje{Q:Value->Shared->Prop}(h:Q (.ref s.heap.objs.size) {s with heap:=s.heap.push (vy w)}): wpAny (model prog w) A (newSet (.type "set")) Q E s:=by
 unfold newSet setsByText;refine g9 (g9 (uh (gc ?_)));dsimp only;simp only [newObj];exact g9 (wpAny_alloc (gc h))
theorem qdd(S:SI w s.heap a t ks){Q:Bool->Shared->Prop}(h:Q true s): wpAny (model prog w) A (Builtin.Frozenset.isAnySet (.ref a)) Q E s:=by
 unfold Builtin.Frozenset.isAnySet;show wpAny _ _ (isInstance (.ref a) (.type "set") >>= fun b=>_) _ _ _;refine g9 (g1i S.typeIs qfx ?_);exact gc h
theorem qtv{Q:Value->Shared->Prop}(hab:a≠b)(S:SI w s.heap a t ks)(hs:ks.length<5->t.mask=7)(hs7:t.mask=7->ks.length<8)(U:SI w s.heap b u ls)(hu:ls.length<5->u.mask=7)(hu7:u.mask=7->ls.length<8)
  (h:∀h' t' ks',(∀c o,c<s.heap.objs.size->s.heap.get? c=some o->h'.get? c=some o)->SI w h' s.heap.objs.size t' ks'->(t'.mask=7->ks'.length<8)->(∀n,n∈ks'.map Prod.fst↔n∈ks.map Prod.fst\/n∈ls.map Prod.fst)->Q (.ref s.heap.objs.size) {s with heap:=h'}) :
  wpAny (model prog w) A (binaryOp .BitOr (.ref a) (.ref b)) Q E s:=by
 refine wpAny_binaryOp_same S.typeIs U.typeIs F.fills_set_or F.slot_set_or (pz F.slot_set_or S.typeIs qdb ?_ (F.args_set_or_2 _ _));have hla:a<s.heap.objs.size:=let⟨o,_,ho,_⟩:=S.ob;gz ho
 have hlb:b<s.heap.objs.size:=let⟨o,_,ho,_⟩:=U.ob;gz ho
 show wpAny _ _ ((Builtin.Frozenset.slot1 "__or__" ⟨[.ref a,.ref b],[]⟩) >>= _) _ _ _;refine g9 (gc ?_);dsimp only;refine g9 ?_;show wpAny _ _ (Builtin.Frozenset.isAnySet (.ref a) >>= _) _ _ _;refine g9 (qdd S ?_);refine qdd U ?_;simp only [g0k,gm, ↓reduceIte];refine g9 (gc ?_);refine g9 ?_;show wpAny _ _ (Builtin.Frozenset.copyOf a >>= _) _ _ _;refine g9 ?_;unfold Builtin.Frozenset.copyOf Builtin.Frozenset.baseOf;refine g9 (g9 (g1i S.typeIs qfx (gc ?_)));simp only [↓reduceIte];refine g9 (qje ?_);refine g9 (gc ?_);have hget:(s.heap.push (vy w)).get? s.heap.objs.size=some (vy w):=m4 _ rfl;have old:∀c o,s.heap.get? c=some o->(s.heap.push (vy w)).get? c=some o:=fun c o e=>gf _ e;refine g9 (qda (s:={s with heap:=s.heap.push (vy w)}) (tu hla) (qdc hget) (fun _=>rfl) (fun _=>by simp) (S.keep (old a)) hs hs7 (fun _ q=>gc q) fun h1 t1 ks1 sb1 S1 z1 i1 g1=>?_);refine gc ?_;have old1:∀c o,c<s.heap.objs.size->s.heap.get? c=some o->h1.get? c=some o:=fun c o hc e=>by
  rw [sb1.2 c (md hc)];exact old c o e
 have hbne:((Value.ref b) != (Value.ref a))=true:=by simp [nh hab]
 rw [mq hbne];have U1:SI w h1 b u ls:=U.keep fun o e=>old1 b o hlb e;refine g9 (gc ?_);refine g9 (ug ?_);unfold Builtin.Frozenset.updateFrom;refine g9 (qdd (s:={s with heap:=h1}) U1 ?_);simp only [↓reduceIte];refine g9 (gc ?_);unfold Builtin.Frozenset.merge;obtain⟨ob,ep,hob,hxb,hdb⟩:=id U1.ob;refine g9 (wpAny_setEpoch_of (s:={s with heap:=h1}) hob hdb (q4s U.tb hu7) ?_);refine qda (s:={s with heap:=h1}) (tu hlb) S1 (fun e=>g1 rfl e) z1 U1 hu hu7 (fun {s'} {Q'} e q=>?_) fun h2 t2 ks2 sb2 S2 z2 i2 g2=>?_
 ·unfold Builtin.Frozenset.unchanged
  have e':s'.heap.get? b=some ob:=e.trans hob;refine g9 (wpAny_setEpoch_of e' hdb (q4s U.tb hu7) ?_);rw [mj (by simp)];exact gc q
 ·refine gc (gc ⟨_,rfl,by simp,?_⟩)
  refine h h2 t2 ks2 (fun c o hc e=>?_) S2 z2 (fun n=>?_)
  ·rw [sb2.2 c (md hc)];exact old1 c o hc e
  ·rw [i2 n,i1 n];simp
end
def MR(t:SetTable)(ks:List (Nat×Nat)): Prop:=(ks.length<5->t.mask=7)/\(5<=ks.length->t.mask=31)
theorem MR.step{t t':SetTable}{ks ks':List (Nat×Nat)}{p:Nat×Nat}(m:MR t ks)(st:Step t ks p t' ks'): MR t' ks':=by
 obtain⟨T',l',c⟩:=st
 split at c
 ·obtain⟨rfl,rfl⟩:=c;exact m
 ·obtain⟨c1,c2⟩:=c
  have hl:ks'.length=ks.length+1:=by rw [c1.length_eq];rfl
  have h12:=T'.n12
  by_cases h5:ks.length<4
  ·rw [m.1 (by lia),mj (by lia)] at c2
   exact⟨fun _=>c2,fun h=>by lia⟩
  ·by_cases h6:ks.length=4
   ·rw [m.1 (by lia),h6] at c2
    have:t'.mask=31:=by rw [c2];decide
    exact⟨fun h=>by lia,fun _=>this⟩
   ·rw [m.2 (by lia),mj (by lia)] at c2
    exact⟨fun h=>by lia,fun _=>c2⟩
theorem Step.mem{t t':SetTable}{ks ks':List (Nat×Nat)}{p:Nat×Nat}(st:Step t ks p t' ks')(n:Nat): n∈ks'.map Prod.fst↔n∈ks.map Prod.fst\/n=p.1:=by
 obtain⟨T',l',c⟩:=st
 split at c
 ·rename_i hin
  obtain⟨rfl,rfl⟩:=c;exact⟨.inl,fun h=>h.elim id (fun e=>e ▸ hin)⟩
 ·rw [(c.1.map Prod.fst).mem_iff,gu,m6]
  exact Or.comm
def iv(p:Nat×Nat): Value:=.int (p.1:Int) p.2
section
variable{prog:Program}{w:World}{A:Around}{R:Result->Shared->Prop}{I:Addr}{fp wr:List Addr}{G:Array GenState->Array GenState->Prop}{P:Nat->Value->Prop}{St:Nat->Shared->Prop}
theorem qma(qs:List (Nat×Nat))(hq:∀p∈qs,p.1<12)(W:WalksS prog w A.in1 I fp wr G qs.length P St)(S:Addr)(hSf:S∉fp)
  (hval:∀i v,P i v->∃p,qs[i]? = some p/\v=iv p) :
  ∀(k i:Nat) (s:Shared) (t:SetTable) (ks:List (Nat×Nat)),qs.length-i=k->i<=qs.length->St i s ->
   SI w s.heap S t ks->MR t ks->(∀n,n∈ks.map Prod.fst↔n∈(qs.take i).map Prod.fst) ->
   (∀s' t' ks',Moved (S :: wr) G s s'->SI w s'.heap S t' ks'->MR t' ks'->(∀n,n∈ks'.map Prod.fst↔n∈qs.map Prod.fst)->R (.ok (.ret .none)) s') ->
   codeAny (model prog w) A (.builtin "set.update.loop" ⟨[.ref S,.ref I],[]⟩) R s:=by
 have hSw:S∉wr:=fun h=>hSf (W.sub _ h);have hsub:∀b∈wr,b∈S :: wr:=fun b hb=>gr _ hb;intro k
 induction k with
 | zero=>
  intro i s t ks hk hi hst hS hM hmem hR;have hin:i=qs.length:=by lia
  subst hin;refine g0q g2o ?_;rw [g0m g15 _];show wpAny _ A.in1 (pyNext (.ref I) >>= _) _ _ s;refine g9 (W.done s _ _ hst fun s' hm=>?_);show wpAny _ A.in1 (ret Value.none) _ _ s';exact gc (hR s' t ks (hm.mono hsub) (hS.keep fun o e=>hm.heap S _ hSw e) hM (by simpa using hmem))
 | succ k ih=>
  intro i s t ks hk hi hst hS hM hmem hR;have hlt:i<qs.length:=by lia
  refine g0q g2o ?_;rw [g0m g15 _];show wpAny _ A.in1 (pyNext (.ref I) >>= _) _ _ s;refine g9 (W.item i s _ _ hlt hst fun v s' hP hst' hm=>?_);obtain⟨p,hp,rfl⟩:=hval i v hP;have hp12:=hq p (g0b hp);have hS':SI w s'.heap S t ks:=hS.keep fun o e=>hm.heap S _ hSw e;show wpAny _ A.in1 (holding [iv p] (setAdd S (iv p)) >>= _) _ _ s';refine g9 (ug ?_);unfold setAdd;refine ug ?_;refine g9 ((intKind prog w).pyHash (k:=(p.1:Int)) (g3m _ _ _ _) ?_);rw [q4r hp12];refine qjc (s:={s' with toks:=s'.toks+1}) hS' hp12 (fun e=>g1g fun c=>by have:=hM.2 (by lia);lia) fun h' t' ks' hsb S2 st=>?_;refine gc ⟨g27 g15 _,ih (i+1) _ t' ks' (by lia) hlt (W.frame _ s' _ _ hst' (g29 _) fun b hb o e=>?_) S2 (hM.step st) (fun n=>?_) fun s'' t'' ks'' hm'' hS'' hM'' hi''=>?_⟩
  ·rw [hsb.2 b (fun h:b=S=>hSf (by rw [<- h];exact hb))];exact e
  ·rw [st.mem n,hmem n]
   have:qs.take (i+1)=qs.take i++[p]:=by
    rw [g5i,hp];rfl
   rw [this,g02,nu];simp
  ·refine hR s'' t'' ks'' (Moved.trans W.gtrans ((hm.mono hsub).then_heap (g29 _) fun b o hb e=>?_) hm'') hS'' hM'' hi''
   rw [hsb.2 b (fun h:b=S=>hb (by rw [h];exact gq))];exact e
end
theorem sub_tuple_set:isSubtype (.type "tuple") (.type "set")=pure false:=by rw [g21];kernel_rfl
theorem sub_tuple_frozenset:isSubtype (.type "tuple") (.type "frozenset")=pure false:=by rw [g21];kernel_rfl
section
variable{prog:Program}{w:World}{A:Around}{E:Value->Shared->Prop}{s:Shared}
theorem qjf(a:Value){Q₁:Value->Shared->Prop}(h:Q₁ (.ref s.heap.objs.size) {s with heap:=s.heap.push (vy w)}):
  codeAny (model prog w) A (.call (.builtin "set.__new__") ⟨[.type "set",a],[]⟩) (wants Q₁ E) s:=by
 refine codeAny_of_tree ?_;show wpAny _ A.in1 (do checkBuiltinCall "set.__new__" ⟨[.type "set",a],[]⟩;again (.builtin "set.__new__" ⟨[.type "set",a],[]⟩)) _ _ s;refine g9 (wpAny_of_eq (F.newCall_set_1 a) (gc ⟨g27 F.plain_set_new _,g0q F.entry_set_new ?_⟩));rw [g0m F.plain_set_new _];unfold Builtin.«set.__new__» Builtin.Frozenset.newClass;have hsub:=sub_set_self;obtain⟨hp,g,d,tk,os⟩:=s;dsimp only
 wp_walk
 refine uh (gc ?_);dsimp only;simp only [newObj];refine g9 (wpAny_alloc (gc ?_));exact gc h
set_option maxHeartbeats 3200000 in
theorem q9w{l:Addr}(qs:List (Nat×Nat))(hq:∀p∈qs,p.1<12){Q:Value->Shared->Prop}
  (hh:A.handled=none) (hl:s.heap.IsTuple l (qs.map iv).toArray)
  (h:∀(h':Heap) (tk:Nat) t ks,SI w h' s.heap.objs.size t ks->MR t ks->(∀n,n∈ks.map Prod.fst↔n∈qs.map Prod.fst)->s.toks<=tk ->
   (∀b o,b<s.heap.objs.size->s.heap.get? b=some o->h'.get? b=some o)->Q (.ref s.heap.objs.size) {s with heap:=h',toks:=tk}) :
  wpAny (model prog w) A (call (.type "set") [.ref l]) Q E s:=by
 obtain⟨c,tl,hmro⟩:=g1k.mro;have hmade:=g1k.made;have hsub:=g1k.sub;refine g3c (codeAny_of_tree ?_);show wpAny _ _ (callAny (.type "set") _) _ _ _;refine gc ⟨Code.quiet_builtin _ (by decide +kernel),g0q F.entry_type_call ?_⟩;rw [Around.under_plain (weight_type_call_type "set" [.ref l] []) rfl];have h1:=g1k.notType;have h2:=g1k.canCreate;have hct:=F.typeCall_set_1 (.ref l)
 repeat (any_goals (first|assumption|wp_step))
 refine g2f (qjf (.ref l) (E:=E) (Q₁:=fun obj s₁=>obj=.ref s.heap.objs.size/\s₁ = {s with heap:=s.heap.push (vy w)}) ⟨rfl,rfl⟩) fun r s₁ hr=>?_;cases r with
 | error e=>exact hr
 | ok fl=>
  cases fl with
  | ret obj=>
   obtain⟨rfl,rfl⟩:=hr;have hS:(s.heap.push (vy w)).get? s.heap.objs.size=some (vy w):=m4 _ rfl;have hT:Shared.TypeIs {s with heap:=s.heap.push (vy w)} (.ref s.heap.objs.size) "set" :=⟨_,hS,rfl⟩
   have hli:=g1k.init.lookup;have hbi:=g1k.init.bind (.ref s.heap.objs.size)
   repeat (any_goals (first|assumption|wp_step))
   refine g2f (g25 (R:=wants (fun r s₂=>r=.none/\∃h' tk t ks,s₂ = {s with heap:=h',toks:=tk}/\SI w h' s.heap.objs.size t ks/\MR t ks/\(∀n,n∈ks.map Prod.fst↔n∈qs.map Prod.fst)/\s.toks<=tk /\
     (∀b o,b<s.heap.objs.size->s.heap.get? b=some o->h'.get? b=some o)) E) g1k.init.plain F.entry_set_init (check_set_init_1 hT ?_)) fun r₂ s₂ hr₂=>?_
   ·have hl1:(s.heap.push (vy w)).IsTuple l (qs.map iv).toArray:=hl.push _
    obtain⟨ol,hol,hcl,hdl⟩:=id hl1;have hsls:=sub_tuple_set;have hslf:=sub_tuple_frozenset;have hne:(Value.type "tuple" == Value.type "dict")=false:=by decide
    have hTl:Shared.TypeIs {s with heap:=s.heap.push (vy w)} (.ref l) "tuple" :=⟨_,hol,hcl⟩
    unfold Builtin.«set.__init__» noKeywords Builtin.Frozenset.updateFrom;generalize hPI:pyIter=PI
    wp_walk
    subst hPI;refine g40 hl1 ?_;refine g9 (wpAny_runValue ?_);have hlS:l<s.heap.objs.size:=let⟨_,h0,_⟩:=hl;gz h0
    have hh3:A.in1.in1.in1.handled=none:=by simp [hh]
    have hneI:l≠(s.heap.push (vy w)).objs.size:=by
     rw [pd];exact md (g1c hlS)
    have hSf:s.heap.objs.size∉[(s.heap.push (vy w)).objs.size,l]:=by
     rw [pd];simp only [m6,n8,t7,g0x,g42];exact⟨md (tw _),tu hlS⟩
    have hval:∀(i:Nat) (v:Value),(qs.map iv).toArray[i]? = some v->∃p,qs[i]? = some p/\v=iv p:=fun i v hv=>by
     simp only [List.getElem?_toArray,n9,ml] at hv;obtain⟨p,e1,e2⟩:=hv;exact⟨p,e1,e2.symm⟩
    have W:=(Walks.tuple (prog:=prog) (w:=w) hh3 (s.heap.push (vy w)).objs.size l hneI (qs.map iv).toArray).toS;have hsz:(qs.map iv).toArray.size=qs.length:=by simp
    rw [hsz] at W;refine qma qs hq W s.heap.objs.size hSf hval (qs.length-0) 0 _ (.fresh 0 0 (!byT w)) [] (by lia) (g03 _)
     ⟨⟨_,m4 _ rfl,rfl,rfl⟩,(hl1.push _)⟩ (qdc (gf _ hS)) ⟨fun _=>rfl,fun h=>by simp at h⟩ (fun n=>by simp) fun s' t' ks' hm hS' hM' hi'=>?_
    obtain⟨h',g',d',tk',os'⟩:=s';have eg:g'=s.gens:=hm.gens;have ed:d'=s.drawn:=hm.drawn;have eo:os'=s.os:=hm.os;have etk:s.toks<=tk':=hm.toks;subst eg;subst ed;subst eo;show wpAny _ _ _ _ _ _;refine gc ?_;show wpAny _ _ (ret Value.none) _ _ _;refine gc ⟨rfl,h',tk',t',ks',rfl,hS',hM',hi',etk,fun b o hb e=>?_⟩;have hb1:b≠s.heap.objs.size:=md hb;have hb2:b≠(s.heap.push (vy w)).objs.size:=by
     rw [pd];exact md (g1c hb)
    exact hm.heap b o (by simp only [m6,n8,t7,g0x,g42];exact⟨hb1,hb2⟩) (gf _ (gf _ e))
   ·cases r₂ with
    | error e=>exact hr₂
    | ok fl₂=>
     cases fl₂ with
     | ret r=>
      obtain⟨rfl,h',tk,t,ks,rfl,hS',hM',hi',htk',hk'⟩:=hr₂
      repeat (any_goals (first|assumption|wp_step))
      exact h _ _ _ _ hS' hM' hi' htk' hk'
     | _=>exact hr₂.elim
  | _=>exact hr.elim
end
theorem qde:Manifest.owners.lookup (String.ofList ['r','o','t','a','r','e','t','i','_','t','e','s'].reverse)=some Manifest.sig_set_iterator:=by kernel_rfl
theorem slot_si_next:Slot "set_iterator" "__next__" "set_iterator.__next__" :=
 .of (owner:="set_iterator") (n:="__next__") (by rw [g3n,g22];kernel_rfl) (by decide +kernel) (by decide +kernel) (by decide +kernel)
  (by first|exact .inl (by decide +kernel)|exact .inr (by decide +kernel)) (by rw [g21];kernel_rfl)
theorem q57:entryFor table "set_iterator.__next__" = some Builtin.«set_iterator.__next__» :=entryFor_of_tree (by kernel_rfl)
theorem q5r(a:Value): argsOk "set_iterator.__next__" ⟨[a],[]⟩:=by
 unfold argsOk;rw [signature?_of (id:="set_iterator.__next__") (n:=['_','_','t','x','e','n','_','_']) (o:=['r','o','t','a','r','e','t','i','_','t','e','s']) (by kernel_rfl) qde];kernel_rfl
theorem q5s:Slot "set_iterator" "__iter__" "set_iterator.__iter__" :=
 .of (owner:="set_iterator") (n:="__iter__") (by rw [g3n,g22];kernel_rfl) (by decide +kernel) (by decide +kernel) (by decide +kernel)
  (by first|exact .inl (by decide +kernel)|exact .inr (by decide +kernel)) (by rw [g21];kernel_rfl)
theorem qbb:entryFor table "set_iterator.__iter__" = some Builtin.«dict_keyiterator.__iter__» :=
 entryFor_alias (id':="dict_keyiterator.__iter__") (by kernel_rfl) rfl (by decide +kernel) (by kernel_rfl)
theorem qdf(a:Value): argsOk "set_iterator.__iter__" ⟨[a],[]⟩:=by
 unfold argsOk;rw [signature?_of (id:="set_iterator.__iter__") (n:=['_','_','r','e','t','i','_','_']) (o:=['r','o','t','a','r','e','t','i','_','t','e','s']) (by kernel_rfl) qde];kernel_rfl
theorem q9x:entryFor table "set.__iter__" = some Builtin.«frozenset.__iter__» :=
 entryFor_alias (id':="frozenset.__iter__") (by kernel_rfl) rfl (by decide +kernel) (by kernel_rfl)
def SIt(h:Heap)(it a:Addr)(slot i n ep:Nat): Prop:=∃o,h.get? it=some o/\o.cls=.type "set_iterator" /\ o.data=.fields #[.int slot 0,.int i 0,.ref a,.int n 0,.int ep 0]
def Row(w:World)(a:Addr)(ep:Nat)(ks vals:List (Nat×Nat)): Prop:=
 (byT w=true->(vals.map el).toArray=pickOrder (w.params.setOrder a ep) (ks.map el).toArray)/\(byT w=false->vals=ks)
theorem qs7(w:World)(a:Addr)(ep:Nat)(ks:List (Nat×Nat)): ∃vals,Row w a ep ks vals/\vals.Perm ks:=by
 cases hb:byT w
 ·exact⟨ks,⟨by simp [hb],fun _=>rfl⟩,g3u _⟩
 ·have hp:=q41 (w.params.setOrder a ep) (ks.map el).toArray
  generalize hx:pickOrder (w.params.setOrder a ep) (ks.map el).toArray=xs at hp;have hp':xs.toList.Perm (ks.map el):=by simpa using hp
  obtain⟨ls,hl,e⟩:=q7n hp';refine⟨ls,⟨fun _=>?_,by simp [hb]⟩,hl⟩;rw [hx, <- e]
def SAt(w:World)(h:Heap)(a:Addr)(t:SetTable)(ks:List (Nat×Nat))(ep:Nat): Prop:=
 (∃o,h.get? a=some o/\o.ExactSet/\o.data=.set (ks.map el).toArray ep t)/\Tb t ks/\t.led=(!byT w)/\(t.mask=7->ks.length<8)
def Far(w:World)(t:SetTable)(slot i:Nat): Prop:=byT w=false->(∀x∈t.place.toList.take i,x<slot)/\(∀x∈t.place.toList.drop i,slot<=x)
section
variable{prog:Program}{w:World}{A:Around}{E:Value->Shared->Prop}{s:Shared}{a it:Addr}{t:SetTable}{ks vals:List (Nat×Nat)}{ep slot i:Nat}
theorem SAt.typeIs(S:SAt w s.heap a t ks ep): s.TypeIs (.ref a) "set" :=let⟨⟨o,ho,hc,_⟩,_⟩:=S; ⟨o,ho,hc.1⟩
theorem SIt.typeIs{n:Nat}(S:SIt s.heap it a slot i n ep): s.TypeIs (.ref it) "set_iterator" :=let⟨o,ho,hc,_⟩:=S; ⟨o,ho,hc⟩
theorem SAt.state{Q:(Array (Int×Value)×Nat×SetTable)->Shared->Prop}(S:SAt w s.heap a t ks ep)(h:Q ((ks.map el).toArray,ep,t) s): wpAny (model prog w) A (setState a) Q E s:=by
 obtain⟨⟨o,ho,hc,hd⟩,T,l,h7⟩:=S;exact g31 ho hd (q4s T h7) h
theorem SAt.keep{h h':Heap}(S:SAt w h a t ks ep)(e:∀o,h.get? a=some o->h'.get? a=some o): SAt w h' a t ks ep:=by
 obtain⟨⟨o,ho,r⟩,q⟩:=S;exact⟨⟨o,e o ho,r⟩,q⟩
theorem qmb{Q:Value->Shared->Prop}(S:SAt w s.heap a t ks ep)(h:Q (.ref s.heap.objs.size) {s with heap:=s.heap.push {cls:=.type "set_iterator",data:=.fields #[.int 0 0,.int 0 0,.ref a,.int ks.length 0,.int ep 0]} }):
  wpAny (model prog w) A (pyIter (.ref a)) Q E s:=by
 refine wpAny_pyIter_slot S.typeIs F.slot_set_iter (pz F.slot_set_iter S.typeIs q9x ?_ (F.args_set_iter_1 _));unfold Builtin.«frozenset.__iter__»;refine g9 (m:=Builtin.Frozenset.slot0 "__iter__" _) (gc ?_);refine g9 ?_;unfold Builtin.Frozenset.sizeOf setEntries;refine g9 (g9 (S.state (gc (gc ?_))));refine g9 ?_;unfold setDrawn setsByText;refine g9 (S.state ?_);dsimp only;refine g9 (g9 (uh (gc (gc ?_))));refine t9 (fun c=>?_) (fun _=>?_)
 ·have c':(!byT w&&(!t.plain&&decide ((ks.map el).toArray.size>1)))=true:=c
  rw [S.2.1.pl] at c';simp at c'
 refine g9 (gc ?_);refine g9 ?_;unfold setEpoch;refine g9 (S.state (gc ?_));have hsz:(ks.map el).toArray.size=ks.length:=by simp
 rw [hsz];refine g9 (uj (gc ⟨_,rfl,"set_iterator",_,⟨_,m4 _ rfl,rfl⟩,slot_si_next.lookup,?_⟩));exact h
theorem q8t{h:Heap}{o:Obj}{vs:Array Value}{x:Value}{j:Nat}(ho:h.get? it=some o)(hd:o.data=.fields vs):
  ∃o',(h.update it (Obj.mapFields (·.setIfInBounds j x))).get? it=some o'/\o'.cls=o.cls/\o'.data=.fields (vs.setIfInBounds j x):=
 ⟨_,g18 _ ho (Obj.isFreed_of_fields (g2j hd _)),Obj.cls_mapFields ..,g2j hd _⟩
theorem next_item{Q:Option Value->Shared->Prop}{p:Nat×Nat}(I:SIt s.heap it a slot i ks.length ep)(S:SAt w s.heap a t ks ep)(R:Row w a ep ks vals)(F:Far w t slot i)(hp:vals[i]? = some p)
  (h:∀h' slot',SIt h' it a slot' (i+1) ks.length ep->Far w t slot' (i+1)->Heap.SameBut it s.heap h'->Q (some (.int (p.1:Int) p.2)) {s with heap:=h'}) :
  wpAny (model prog w) A (pyNext (.ref it)) Q E s:=by
 obtain⟨o,ho,hc,hd⟩:=id I;unfold pyNext;refine g9 (g0t (tq (name:=Str.ofString "__next__") I.typeIs slot_si_next
  (pz slot_si_next I.typeIs q57 ?_ (q5r _))))
 unfold Builtin.«set_iterator.__next__»;refine g9 (m:=slotArgs "__next__" 0 _) (gc ?_);dsimp only;refine g9 (wpAny_fieldsOf ho hd ?_);dsimp only;unfold setEntries;refine g9 (g9 (S.state (gc ?_)));have hsz:(((ks.map el).toArray.size:Int) != (ks.length:Int))=false:=by simp
 dsimp only;rw [hsz];simp only [gm, ↓reduceIte,g0n];have key:∃slot',Far w t slot' (i+1)/\∀ {Q':Option (Value×Nat)->Shared->Prop} {E':Value->Shared->Prop},Q' (some (.int (p.1:Int) p.2,slot')) s->wpAny (model prog w) A.in1 (setNext a slot i ep) Q' E' s:=by
  cases hb:byT w
  ·have hv:vals=ks:=R.2 hb
   rw [hv] at hp;obtain⟨f1,f2⟩:=F hb;have hpl:t.place=(t.place.toList.take i++t.place.toList.drop i).toArray:=by simp
   have hi:i<ks.length:=(ni.mp hp).1;have hi':i<t.place.toList.length:=by rw [S.2.1.sz];exact hi
   have hbel:SetTable.below t.place slot=i:=by
    rw [hpl,below_at f1 f2];simp at hi' ⊢;lia
   have hpj:t.place[i]? = some (t.place.toList[i]):=by rw [<- g0h];exact ng hi'
   have hei:(ks.map el).toArray[i]? = some (el p):=by simp [hp]
   have hdr:t.place.toList.drop i=t.place.toList[i] :: t.place.toList.drop (i+1):=pk hi';have htk:t.place.toList.take (i+1)=t.place.toList.take i++[t.place.toList[i]]:=by
    rw [g5i,ng hi'];rfl
   have hrs:=S.2.1.rs;rw [<- p0 i t.place.toList,hdr] at hrs;obtain⟨r1,r2,r3⟩:=nz.mp hrs;refine⟨t.place.toList[i]+1,fun _=>⟨fun x hx=>?_,fun x hx=>?_⟩,fun {Q'} {E'} q=>?_⟩
   ·rw [htk] at hx
    rcases nu.mp hx with h|h
    ·have:=r3 x h _ (gq ..);lia
    ·have:=n8.mp h;lia
   ·have:=(g14.mp r2).1 x hx;lia
   ·unfold setNext setsByText
    refine g9 (S.state ?_);dsimp only;refine g9 (g9 (uh (gc ?_)));refine t9 (fun c=>?_) (fun _=>?_)
    ·have c':byT w=true:=c
     rw [hb] at c';exact absurd c' (by decide)
    refine t9 (fun c=>?_) (fun _=>?_)
    ·have c':(!t.plain&&decide ((ks.map el).toArray.size>1))=true:=c
     rw [S.2.1.pl] at c';simp at c'
    have hld:t.led=true:=by rw [S.2.2.1,hb];rfl
    show wpAny _ _ ((do if !t.led && !(ks.map el).toArray.isEmpty then unsupported "set:maker-not-led" : Sem Unit) >>= fun _=>_) _ _ _;rw [hld];simp only [g0k,g2q,gm, ↓reduceIte];refine g9 (gc (gc ?_));rw [hbel,hei,hpj];exact q
  ·have hv:=R.1 hb
   refine⟨slot,fun c=>?_,fun {Q'} {E'} q=>?_⟩
   ·rw [hb] at c;exact absurd c (by decide)
   ·unfold setNext setsByText
    refine g9 (S.state ?_);dsimp only;refine g9 (g9 (uh (gc ?_)));refine t9 (fun _=>?_) (fun c=>absurd hb c);rw [mj (by simp)];refine g9 ?_;unfold setWalk setsByText;refine g9 (S.state ?_);dsimp only;refine g9 (g9 (uh (gc ?_)));refine t9 (fun _=>?_) (fun c=>absurd hb c);refine g9 (uh (gc (gc ?_)));have:(pickOrder (w.params.setOrder a ep) (ks.map el).toArray)[i]? = some (el p):=by rw [<- hv];simp [hp]
    show Q' (((pickOrder (w.params.setOrder a ep) (ks.map el).toArray)[i]?).map fun e=>(e.2,slot)) s;rw [this];exact q
 obtain⟨slot',F',kn⟩:=key;refine g9 (kn ?_);dsimp only;refine g9 (g2s ho hd (by simp) ?_);obtain⟨o1,ho1,hc1,hd1⟩:=q8t (x:=rawInt slot') (j:=0) ho hd;refine g9 (g2s (s:={s with heap:=s.heap.update it (Obj.mapFields (·.setIfInBounds 0 (rawInt slot')))}) ho1 hd1 (by simp) (gc ⟨_,rfl,gc (h _ slot' ?_ F' ((ur ..).trans (ur ..)))⟩));obtain⟨o2,ho2,hc2,hd2⟩:=q8t (x:=rawInt (i+1)) (j:=1) ho1 hd1;exact⟨o2,ho2,hc2.trans (hc1.trans hc),by rw [hd2];simp [rawInt]⟩
theorem next_end{Q:Option Value->Shared->Prop}(hh:A.handled=none)(hi:i=ks.length)(I:SIt s.heap it a slot i ks.length ep)(S:SAt w s.heap a t ks ep)(R:Row w a ep ks vals)(hvl:vals.length=ks.length)(F:Far w t slot i)
  (h:∀h',Heap.ExtBut it s.heap h'->Q none {s with heap:=h'}) :
  wpAny (model prog w) A (pyNext (.ref it)) Q E s:=by
 obtain⟨o,ho,hc,hd⟩:=id I;unfold pyNext;refine g9 (g0t (tq (name:=Str.ofString "__next__") I.typeIs slot_si_next
  (pz slot_si_next I.typeIs q57 ?_ (q5r _))))
 unfold Builtin.«set_iterator.__next__»;refine g9 (m:=slotArgs "__next__" 0 _) (gc ?_);dsimp only;refine g9 (wpAny_fieldsOf ho hd ?_);dsimp only;unfold setEntries;refine g9 (g9 (S.state (gc ?_)));have hsz:(((ks.map el).toArray.size:Int) != (ks.length:Int))=false:=by simp
 dsimp only;rw [hsz];simp only [gm, ↓reduceIte,g0n];have key:∀ {Q':Option (Value×Nat)->Shared->Prop} {E':Value->Shared->Prop},Q' none s->wpAny (model prog w) A.in1 (setNext a slot i ep) Q' E' s:=by
  intro Q' E' q;unfold setNext setsByText;refine g9 (S.state ?_);dsimp only;refine g9 (g9 (uh (gc ?_)));cases hb:byT w
  ·refine t9 (fun c=>?_) (fun _=>?_)
   ·have c':byT w=true:=c
    rw [hb] at c';exact absurd c' (by decide)
   refine t9 (fun c=>?_) (fun _=>?_)
   ·have c':(!t.plain&&decide ((ks.map el).toArray.size>1))=true:=c
    rw [S.2.1.pl] at c';simp at c'
   have hld:t.led=true:=by rw [S.2.2.1,hb];rfl
   show wpAny _ _ ((do if !t.led && !(ks.map el).toArray.isEmpty then unsupported "set:maker-not-led" : Sem Unit) >>= fun _=>_) _ _ _;rw [hld];simp only [g0k,g2q,gm, ↓reduceIte];refine g9 (gc (gc ?_));obtain⟨f1,f2⟩:=F hb;have hpl:t.place=(t.place.toList.take i++t.place.toList.drop i).toArray:=by simp
   have hbel:SetTable.below t.place slot=i:=by
    rw [hpl,below_at f1 f2];have:=S.2.1.sz;simp at this ⊢;lia
   have hei:(ks.map el).toArray[i]? = none:=by simp [hi]
   rw [hbel,hei];exact q
  ·refine t9 (fun _=>?_) (fun c=>absurd hb c)
   rw [mj (by simp)];refine g9 ?_;unfold setWalk setsByText;refine g9 (S.state ?_);dsimp only;refine g9 (g9 (uh (gc ?_)));refine t9 (fun _=>?_) (fun c=>absurd hb c);refine g9 (uh (gc (gc ?_)));have:(pickOrder (w.params.setOrder a ep) (ks.map el).toArray)[i]? = none:=by rw [<- R.1 hb];simp [hi,hvl]
   show Q' (((pickOrder (w.params.setOrder a ep) (ks.map el).toArray)[i]?).map fun e=>(e.2,slot)) s;rw [this];exact q
 refine g9 (key ?_);dsimp only;refine g9 (g2s ho hd (by simp) ?_);show wpAny _ _ (newExc (.type "StopIteration") [] >>= _) _ _ _;refine g9 ?_;simp only [newExc,newTuple];refine g9 (uj ?_ (by size_fits));refine g9 (m:=firstArgMember _ _) (wpAny_of_eq (a:=Value.none) (by first|rfl|(simp only [firstArgMember];rfl)) ?_);refine uj ?_ (by size_fits);simp only [raiseNew];refine g9 (wpAny_handled ?_)
 first|rw [show A.in1.handled=none from hh]|rw [hh]
 refine g9 (gc (wpAny_throw ?_));refine g9 (g1i (T:="StopIteration") (b:=true) ⟨_,m4 _ rfl,rfl⟩ isSubtype_stop ?_);exact gc (h _ (((ur ..).extBut.push _).push _))
theorem qjg(hh:A.handled=none)(hne:a≠it)(R:Row w a ep ks vals)(hvl:vals.length=ks.length):
  Walks prog w A it [it,a] [it] ks.length (fun i v=>∃p,vals[i]? = some p/\v=.int (p.1:Int) p.2) (fun i h=>∃slot,SIt h it a slot i ks.length ep/\SAt w h a t ks ep/\Far w t slot i) where
 sub:=fun b hb=>by simp at hb;simp [hb]
 frame:=fun i h h' st hk=>by
  obtain⟨slot,⟨o,ho,r⟩,S,F⟩:=st;exact⟨slot,⟨o,hk it (by simp) o ho,r⟩,S.keep (fun o e=>hk a (by simp) o e),F⟩
 item:=fun i s Q E hi st hQ=>by
  obtain⟨slot,I,S,F⟩:=st;have hi':i<vals.length:=by lia
  refine next_item I S R F (ng hi') fun h' slot' I' F' sb=>?_;exact hQ _ h' s.toks ⟨_,ng hi',rfl⟩ ⟨slot',I',S.keep (fun o e=>sb.extBut a o hne e),F'⟩ fun b o hb e=>sb.extBut b o (fun h=>hb (by simp [h])) e
 done:=fun s Q E st hQ=>by
  obtain⟨slot,I,S,F⟩:=st;exact next_end hh rfl I S R hvl F fun h' he=>hQ h' s.toks fun b o hb e=>he b o (fun h=>hb (by simp [h])) e
 self:=fun i s Q E st hQ=>by
  obtain⟨slot,I,S,F⟩:=st;refine wpAny_pyIter_slot I.typeIs q5s (pz q5s I.typeIs qbb ?_ (qdf _));show wpAny _ _ (ret (.ref it)) _ _ s;exact gc ⟨_,rfl,"set_iterator",_,I.typeIs,slot_si_next.lookup,hQ⟩
end
end Js
namespace Js
open PySem PyProof.Rows
section
variable{prog:Program}{w:World}{A:Around}{E:Value->Shared->Prop}{s:Shared}{a:Addr}{t:SetTable}{ks vals:List (Nat×Nat)}{ep:Nat}
theorem qmc{Q:Bool->Shared->Prop}(hT:s.TypeIs (.ref a) "set")(h:Q false s): wpAny (model prog w) A (Builtin.List.listLengthHint (.ref a)) Q E s:=by
 unfold Builtin.List.listLengthHint;refine g9 (wpAny_specialOf hT F.slot_set_len.lookup ?_);generalize hid:("set.__len__" : String)=id0;dsimp only;rw [show splitId id0=some ("set","__len__") from by subst hid;decide +kernel];subst hid;dsimp only;refine g9 (g1i (T:="set") (b:=true) hT (by rw [g21];kernel_rfl) ?_);refine t9 (fun hab=>absurd hab (by decide)) (fun _=>?_);refine t9 (fun _=>?_) (fun hab=>absurd (by decide +kernel) hab);refine g9 (g1x hT ?_);exact gc h
def iv'(p:Nat×Nat): Value:=.int (p.1:Int) p.2
theorem qmd{vals:List (Nat×Nat)}{n:Nat}{acc:Array Value}(hn:vals.length=n)(h:ItemsOf (fun i v=>∃p,vals[i]? = some p/\v=.int (p.1:Int) p.2) acc n): acc.toList=vals.map iv':=by
 apply List.ext_getElem?;intro i
 by_cases hi:i<n
 ·have h1:i<acc.size:=by rw [h.1];exact hi
  have e:acc[i]? = some acc[i]:=g4j h1;obtain⟨p,hp,hv⟩:=h.2 i _ e;rw [g0h,e,n9,hp,hv];rfl
 ·rw [g0h,Array.getElem?_eq_none (by rw [h.1];omega),n9,g5j (by omega)];rfl
theorem qej{Q:List Value->Shared->Prop}(hh:A.handled=none)(S:SAt w s.heap a t ks ep)
  (h:∀(s':Shared) (vals:List (Nat×Nat)),vals.Perm ks->(∀b o,b<s.heap.objs.size->s.heap.get? b=some o->s'.heap.get? b=some o)->s.heap.objs.size<=s'.heap.objs.size->s'.gens=s.gens->s'.drawn=s.drawn->s'.os=s.os->s.toks<=s'.toks->Q (vals.map iv') s') :
  wpAny (model prog w) A (collect (.ref a)) Q E s:=by
 have hla:a<s.heap.objs.size:=let⟨⟨o,ho,_⟩,_⟩:=S;gz ho
 unfold collect;refine g9 (wpAny_runValue (g0q F.entry_proto_collect ?_));rw [g0m F.plain_proto_collect _];show wpAny _ A.in1 (newList [] >>= fun l=>again (.builtin "list.__iadd__" ⟨[l,.ref a],[]⟩)) _ _ s;refine g9 (uj ?_);refine gc ⟨g27 F.plain_list_iadd _,g0q F.entry_list_iadd ?_⟩;rw [g0m F.plain_list_iadd _]
 let lo:Obj:={cls:=.type "list",data:=.seq ([]:List Value).toArray}
 have S1:SAt w (s.heap.push lo) a t ks ep:=S.keep fun o e=>gf _ e;show wpAny _ A.in1 (Builtin.List.listExtendWith (.ref s.heap.objs.size) (.ref a) (.ref s.heap.objs.size)) _ _ _;unfold Builtin.List.listExtendWith;refine g9 (g1x S1.typeIs ?_);have h1:Builtin.List.listSameRef (.ref s.heap.objs.size) (.ref a)=false:=by simp [Builtin.List.listSameRef];exact tu hla
 have h2:(Value.type "set" == Value.type "list")=false:=by decide
 have h3:(Value.type "set" == Value.type "tuple")=false:=by decide
 simp only [h1,h2,h3,g5m,gm,p8]
 let io:Obj:={cls:=.type "set_iterator",data:=.fields #[.int 0 0,.int 0 0,.ref a,.int ks.length 0,.int ep 0]}
 refine g9 (qmb (s:={s with heap:=s.heap.push lo}) S1 ?_);have hsz1:(s.heap.push lo).objs.size=s.heap.objs.size+1:=pd ..;have S2:SAt w ((s.heap.push lo).push io) a t ks ep:=S1.keep fun o e=>gf _ e;refine g9 (ug (qmc (s:={s with heap:=(s.heap.push lo).push io}) S2.typeIs ?_));refine t9 (fun _=>?_) (fun hab=>absurd (by decide +kernel) hab);refine g9 (g01 ?_);have hL1:((s.heap.push lo).push io).get? s.heap.objs.size=some lo:=gf _ (m4 _ rfl);refine g9 ?_;show wpAny _ A.in1 (updateSeq s.heap.objs.size (·.push .none) >>= fun _=>updateSeq s.heap.objs.size (·.pop)) _ _ _;refine g9 (g58 (s:={s with heap:=(s.heap.push lo).push io}) hL1 rfl ?_);have hL2:=g18 (Obj.mapSeq (·.push Value.none)) hL1 rfl;refine g58 hL2 rfl ?_;have hL3:=g18 (Obj.mapSeq (·.pop)) hL2 rfl
 let h3':=(((s.heap.push lo).push io).update s.heap.objs.size (Obj.mapSeq (·.push Value.none))).update s.heap.objs.size (Obj.mapSeq (·.pop))
 have oth:∀b o,b≠s.heap.objs.size->((s.heap.push lo).push io).get? b=some o->h3'.get? b=some o:=
  fun b o hb e=>(g13 _ _ (nh hb)).trans ((g13 _ _ (nh hb)).trans e)
 obtain⟨vals,hR,hvp⟩:=qs7 w a ep ks;have hvl:vals.length=ks.length:=hvp.length_eq;have W:=(qjg (prog:=prog) (w:=w) (A:=A.in1) (it:=(s.heap.push lo).objs.size) (t:=t) (vals:=vals) (by simpa using hh) (by rw [hsz1];exact md (g1c hla)) hR hvl).toS;have hIt:SIt h3' (s.heap.push lo).objs.size a 0 0 ks.length ep:=⟨io,oth _ _ (by rw [hsz1];exact Nat.succ_ne_self _) (m4 _ rfl),rfl,rfl⟩
 have hn12:=S.2.1.n12;refine gc ⟨g27 F.plain_extend_loop _,codeAny_extend_loopS W (by rw [g28];omega) s.heap.objs.size (by rw [hsz1];simp only [m6,t7,g0x,g42];exact⟨md (tw _),tu hla⟩) _ ks.length 0 _ _ _ rfl (g03 _)
  ⟨0,hIt,S2.keep fun o e=>oth a o (md hla) e,fun _=>⟨by simp,by simp⟩⟩ hL3 (ItemsOf.nil _) fun s' acc' c' hm hS' hacc=>?_⟩
 show wpAny _ A (load s.heap.objs.size >>= _) _ _ s';refine g9 (wpAny_load hS' ?_);refine gc ?_;rw [qmd hvl hacc];refine h s' vals hvp (fun b o hb e=>hm.heap b o (by rw [hsz1];simp only [m6,t7,g0x,g42];exact⟨md hb,md (g1c hb)⟩) (oth b o (md hb) (gf _ (gf _ e)))) (g4l (gz hS')) hm.gens hm.drawn hm.os hm.toks
theorem qgz{Q:Value->Shared->Prop}(hh:A.handled=none)(S:SAt w s.heap a t ks ep)
  (h:∀(h':Heap) (tk:Nat) (c:Addr) (out:List Value) (ns':List Int) (e:Nat),IntsAre out ns'->ns'.Perm (ks.map fun p=>(p.1:Int))->ns'.Pairwise (· <= ·)->(∀b o,b<s.heap.objs.size->s.heap.get? b=some o->h'.get? b=some o) ->
   s.heap.objs.size<=c->h'.get? c=some (seqObj "list" out.toArray e)->s.toks<=tk->Q (.ref c) {s with heap:=h',toks:=tk}) :
  wpAny (model prog w) A (call (.builtin "sorted") [.ref a]) Q E s:=by
 refine Calls.call_function_entry kind_sorted plain_sorted entry_sorted (args_sorted1 _) ?_;unfold Builtin.«sorted»;refine g9 (m:=checkCount "sorted" 1 1 _) (gc ?_);have hn12:=S.2.1.n12;refine g9 (qej (A:=A.in1) (by simpa using hh) S fun s1 vals hp hk hz hg hd ho ht=>?_);have hvl:vals.length=ks.length:=hp.length_eq;refine g9 (wpAny_newList ?_);have hoL:(s1.heap.push (seqObj "list" (vals.map iv').toArray 0)).get? s1.heap.objs.size=some (seqObj "list" (vals.map iv').toArray 0):=m4 _ rfl;have hI:IntsAre (vals.map iv') (vals.map fun p=>(p.1:Int)):=by
  clear hoL hvl hp
  induction vals with
  | nil=>exact .nil
  | cons p l ih=>exact .cons _ _ ih
 refine g9 (ug (pz slot_list_sort ⟨_,hoL,rfl⟩ entry_list_sort (list_sort_tree (s:={s1 with heap:=s1.heap.push (seqObj "list" (vals.map iv').toArray 0)}) hoL hI (by simp;omega) fun out ns' a1 a2 a3=>⟨_,rfl,?_⟩) (args_list_sort _)));refine gc ⟨_,rfl,?_⟩;obtain⟨h1,g1,d1,t1,o1⟩:=s1;dsimp only at hk hz hg hd ho ht hoL;subst hg;subst hd;subst ho;have hz1:(h1.push (seqObj "list" (vals.map iv').toArray 0)).objs.size=h1.objs.size+1:=pd ..;have e1:=g1p hoL (fun _=> #[]);have e2:=gf (seqObj "tuple" (vals.map iv').toArray 0) e1;have e3:=gf (seqObj "list" #[] 0) e2;have e4:=g1p e3 (fun _=>out);refine h (sortedHeap (h1.push (seqObj "list" (vals.map iv').toArray 0)) h1.objs.size (vals.map iv') out) t1 h1.objs.size out.toList ns' _ a1 (a2.trans (hp.map _)) a3 (fun b ob hb e=>?_) hz (by unfold sortedHeap;simpa using e4) ht;have nb:b≠h1.objs.size:=md (m8 hb hz);unfold sortedHeap;refine(g13 _ _ (nh nb)).trans ?_;refine gf _ (gf _ ?_);refine(g13 _ _ (nh nb)).trans ?_;exact gf _ (hk b ob hb e)
end
end Js
namespace DL
open PySem PySem.Spec PyProof.Rows L2
variable[Lam]
def q3i:List D->Option (List Nat)
 | []=>some []
 | .int i :: r=>if 0<=i/\i<12 then(q3i r).map (i.toNat :: ·) else none
 | _ :: _=>none
def qh0:D->D->Option (List D)
 | .tup ds,.tup es=>(q3i ds).bind fun a=>(q3i es).bind fun b=>some (((List.range 12).filter fun n=>decide (n∈a\/n∈b)).map fun n=>D.int (n:Nat))
 | _,_=>none
def qh1(f g:FE): FA:=fun ρ =>(f ρ).bind fun x=>(g ρ).bind fun y=>qh0 x y
def q4t(w:World)(a:Addr)(ns:List Nat): HO:=.ext fun h=>∃t ks,Js.SI w h a t ks/\Js.MR t ks/\∀n,n∈ks.map Prod.fst↔n∈ns
def qh2(w:World)(a:Addr)(ns:List Nat): HO:=.ext fun h=>∃t ks,Js.SI w h a t ks/\(t.mask=7->ks.length<8)/\∀n,n∈ks.map Prod.fst↔n∈ns
def quu(K:Frag)(w:World): List V->Hp->VK->Prop:=fun xs H Q=>∃F ds ns,Same F H/\RepL K F [.tup ds] xs/\q3i ds=some ns/\∀a,H a=none->Q (.ref a) (upd H a (q4t w a ns))
def rOr(w:World): R2:=fun x y H Q=>∃a b ns ms,x=.ref a/\y=.ref b/\a≠b/\H a=some (q4t w a ns)/\H b=some (q4t w b ms)/\∀c,H c=none->Q (.ref c) (upd H c (qh2 w c (ns++ms)))
def qtw(w:World): List V->Hp->VK->Prop:=fun xs H Q=>∃a ns,xs=[.ref a]/\H a=some (qh2 w a ns)/\∀c,H c=none->Q (.ref c) (upd H c (.lst (((List.range 12).filter fun n=>decide (n∈ns)).map fun n=>V.int (n:Nat))))
omit [Lam] in
theorem qap{K:Frag}{F:Hp}: ∀ {ds:List D} {ys:List V} {its:List Value} {ns:List Nat},q3i ds=some ns->RepL K F ds ys->Vals ys its->∃qs:List (Nat×Nat),its=qs.map Js.iv/\(∀p∈qs,p.1<12)/\qs.map Prod.fst=ns
 | [],ys,its,ns,h,k,r=>by
  cases h;cases k.nil_inv;cases r;exact⟨[],rfl,by simp,rfl⟩
 | .int i :: ds,ys,its,ns,h,k,r=>by
  unfold q3i at h
  split at h
  ·rename_i hi
   obtain⟨ms,h1,rfl⟩:=ml.mp h;obtain⟨x,ys',rfl,a1,a2⟩:=k.cons_inv;cases rep_int.mp a1;cases r with
   | cons b1 b2=>
    obtain⟨qs,e1,e2,e3⟩:=qap h1 a2 b2;obtain⟨tk,rfl⟩:=b1;refine⟨(i.toNat,tk) :: qs,?_,?_,by simp [e3]⟩
    ·rw [e1,gu]
     congr 1
     show _=Value.int ((i.toNat:Nat):Int) tk;rw [Int.toNat_of_nonneg hi.1]
    ·intro p hp
     rcases m6.mp hp with rfl|hp
     ·show i.toNat<12
      lia
     ·exact e2 p hp
  ·cases h
 | .non :: _,_,_,_,h,_,_=>by cases h
 | .bl _ :: _,_,_,_,h,_,_=>by cases h
 | .str _ :: _,_,_,_,h,_,_=>by cases h
 | .tup _ :: _,_,_,_,h,_,_=>by cases h
 | .lst _ :: _,_,_,_,h,_,_=>by cases h
 | .dct _ _ :: _,_,_,_,h,_,_=>by cases h
 | .dtt _ _ :: _,_,_,_,h,_,_=>by cases h
 | .obj _ :: _,_,_,_,h,_,_=>by cases h
 | .exc _ :: _,_,_,_,h,_,_=>by cases h
section
variable{X:Cx}
theorem qjh(hc:X.calm=true): j6 X (.type "set") (quu X.K X.w):=fun pins s σ H xs us Q I rv ⟨F,ds,ns,fh,rl,hn,q⟩=>by
 obtain⟨x,rfl,rx⟩:=rep1 rl;obtain⟨a,ys,rfl,k1,k2⟩:=rep_tup.mp rx;obtain⟨u,rfl,ru⟩:=vals1 rv;cases ru;obtain⟨its,r1,p1,hz⟩:=I.tuple (ql fh k1);obtain⟨qs,rfl,hq,rfl⟩:=qap hn k2 r1;refine Js.q9w qs hq (I.ok.hd hc) p1 fun h' tk t ks S M m ht old=>?_;have hnn:H s.heap.objs.size=none:=I.hok.fresh (gv _);obtain⟨o,ep,ho,hx,hd⟩:=id S.ob;refine⟨.ref _,_,I.laid (t':=tk) (a:=s.heap.objs.size) (o:=q4t X.w s.heap.objs.size (qs.map Prod.fst)) (fun b ob qb=>old b ob (gz qb) qb) (gv _) ⟨⟨t,ks,S,M,m⟩,⟨o,ho⟩,fun h1 h2 ⟨t,ks,S,M,m⟩ e=>⟨t,ks,S.keep e,M,m⟩⟩,rfl,q _ hnn⟩
theorem qs8:OpR X (binaryOp .BitOr) (rOr X.w):=fun pins s σ H x y v u Q I rx ry ⟨a,b,ns,ms,e1,e2,hab,ha,hb,q⟩=>by
 subst e1;subst e2;cases rx;cases ry;obtain⟨⟨t,ks,S,M,m⟩,_,_⟩:=I.hok a _ ha;obtain⟨⟨t',ks',S',M',m'⟩,_,_⟩:=I.hok b _ hb;have m7:∀ {t:SetTable} {ks:List (Nat×Nat)},Js.MR t ks->t.mask=7->ks.length<8:=fun M e=>g1g fun c=>by
  have:=M.2 (by lia);lia
 refine Js.qtv hab S M.1 (m7 M) S' M'.1 (m7 M') fun h2 t2 ks2 old S2 h72 m2=>?_;have hnn:H s.heap.objs.size=none:=I.hok.fresh (gv _);obtain⟨o,ep,ho,hx,hd⟩:=id S2.ob;refine⟨.ref _,_,I.laid (t':=s.toks) (a:=s.heap.objs.size) (o:=qh2 X.w s.heap.objs.size (ns++ms)) (fun c ob qb=>old c ob (gz qb) qb) (gv _) ⟨⟨t2,ks2,S2,h72,fun n=>?_⟩,⟨o,ho⟩,fun h1 h2 ⟨t,ks,S,M,m⟩ e=>⟨t,ks,S.keep e,M,m⟩⟩,rfl,q _ hnn⟩;rw [m2 n,m n,m' n,nu]
theorem qph(hc:X.calm=true): j6 X (.builtin "sorted") (qtw X.w):=fun pins s σ H xs us Q I rv ⟨a,ns,e1,ha,q⟩=>by
 subst e1;obtain⟨u,rfl,ru⟩:=vals1 rv;cases ru;obtain⟨⟨t,ks,S,h7,m⟩,_,_⟩:=I.hok a _ ha;obtain⟨o,ep,ho,hx,hd⟩:=id S.ob;refine Js.qgz (I.ok.hd hc) ⟨⟨o,ho,hx,hd⟩,S.tb,S.ld,h7⟩ fun h' tk c out ns' e hI hp hs old hc' hget ht=>?_;have hnn:H c=none:=I.hok.fresh hc';have hL:ns'=((List.range 12).filter fun n=>decide (n∈ns)).map fun n:Nat=>(n:Int):=by
  refine q5o (hp.trans ?_) hs ?_
  ·have:(ks.map Prod.fst).Perm ((List.range 12).filter fun n=>decide (n∈ns)):=by
    refine(g4c S.tb.nd (g1h _ g4y)).mpr fun n=>?_;rw [g00,g05,g0j, <- m n];refine⟨fun h=>⟨?_,h⟩,fun h=>h.2⟩;obtain⟨p,hp,rfl⟩:=nv.mp h;exact S.tb.lt p hp
   have h2:=this.map fun n:Nat=>(n:Int)
   rw [t8] at h2;exact h2
  ·rw [g1d]
   refine List.Pairwise.imp (fun {a b} h=>?_) (g1h _ (g5d (n:=12)));lia
 subst hL;have vo:=q1k hI;rw [t8] at vo;refine⟨.ref c,_,I.laid (t':=tk) (a:=c) (o:=.lst (((List.range 12).filter fun n=>decide (n∈ns)).map fun n=>V.int (n:Nat))) (fun b ob qb=>old b ob (gz qb) qb) hc' ⟨?_,out,e,vo,hget⟩,rfl,q _ hnn⟩;rw [mv];exact mx (uy _ _) (va (by simp;decide))
theorem qpi{a b:Expr}{f g:FE}{p p1 p2 q1 q2 q3 pos:Pos}(hc:X.calm=true)(hgs:Gl X "sorted")(hms:X.mg "sorted" = none)(hgt:Gl X "set")(hmt:X.mg "set" = none)(ha:PE X a (tD X.K f))(hb:PE X b (tD X.K g))
  (s1:starEach [a] X.env=(false,eval a X.env) :: starEach [] X.env:=by rfl) (s2:starEach [b] X.env=(false,eval b X.env) :: starEach [] X.env:=by rfl)
  (s3:starEach [.BinOp (.Call (.Name "set" p1) [a] [] q1) .BitOr (.Call (.Name "set" p2) [b] [] q2) q3] X.env=(false,eval (.BinOp (.Call (.Name "set" p1) [a] [] q1) .BitOr (.Call (.Name "set" p2) [b] [] q2) q3) X.env) :: starEach [] X.env:=by rfl)
  (h1:∀pos,(backTo pos (starEach [] X.env)).any (·.1)=false:=by intro _;rfl) :
  PE X (.Call (.Name "sorted" p) [.BinOp (.Call (.Name "set" p1) [a] [] q1) .BitOr (.Call (.Name "set" p2) [b] [] q2) q3] [] pos) (tL X.K (qh1 f g)):=by
 refine zx (q7d (qph hc) hgs hms boot_sorted (q0m (qnf qs8 (q38 (qjh hc) hgt hmt (T:="set") (by rfl) (q0m ha q2j s1) (he:=s1) (hpl:=h1 _)) (q38 (qjh hc) hgt hmt (T:="set") (by rfl) (q0m hb q2j s2) (he:=s2) (hpl:=h1 _))) q2j s3) (he:=s3) (hpl:=h1 _)) fun σ H Q ⟨F0,H0,F, ρ,ds,r,hf,q⟩=>?_;obtain⟨x,hx,hf⟩:=gh.mp hf;obtain⟨y,hy,hj⟩:=gh.mp hf;unfold qh0 at hj
 split at hj
 ·rename_i xs ys
  obtain⟨ns,hn,hj⟩:=gh.mp hj;obtain⟨ms,hm,hj⟩:=gh.mp hj;cases hj;refine⟨F0,H0,F, ρ,.tup xs,r,hx,fun v F1 H1 g1 r1=>?_⟩;refine⟨F1,xs,ns,g1.fh,.cons r1 .nil,hn,fun c1 hc1=>?_⟩;have g2:Grow F1 H1 F1 (upd H1 c1 (q4t X.w c1 ns)):=Grow.own g1.fh hc1;refine⟨F0,H0,F1, ρ,.tup ys,r.grow (g1.trans g2),hy,fun u F3 H3 g3 r3=>?_⟩;refine⟨F3,ys,ms,g3.fh,.cons r3 .nil,hm,fun c2 hc2=>?_⟩;have g4:Grow F3 H3 F3 (upd H3 c2 (q4t X.w c2 ms)):=Grow.own g3.fh hc2;have e1:H3 c1=some (q4t X.w c1 ns):=g3.hh.ext _ _ qt;have hne:c1≠c2:=jc e1 hc2;refine⟨c1,c2,ns,ms,rfl,rfl,hne,by rw [qk hne];exact e1,qt,fun c3 hc3=>?_⟩;have g5:Grow F3 (upd H3 c2 (q4t X.w c2 ms)) F3 (upd (upd H3 c2 (q4t X.w c2 ms)) c3 (qh2 X.w c3 (ns++ms))):=Grow.own g4.fh hc3;refine⟨c3,ns++ms,rfl,qt,fun c4 hc4=>?_⟩;have g6:=Grow.own (o:=.lst (((List.range 12).filter fun n=>decide (n∈ns++ms)).map fun n=>V.int (n:Nat))) g5.fh hc4;have gg:=g1.trans (g2.trans (g3.trans (g4.trans (g5.trans g6))));refine q c4 _ F3 _ gg (g5.fh.free hc4) ((g1.trans (g2.trans (g3.trans (g4.trans g5)))).hh.free hc4) qt ?_
  ·have e:((List.range 12).filter fun n=>decide (n∈ns++ms))=(List.range 12).filter fun n=>decide (n∈ns\/n∈ms):=by
    congr 1;funext n;simp [nu]
   rw [e];have:=(RepL.ints (K:=X.K) (H:=F3) (ns:=((List.range 12).filter fun n=>decide (n∈ns\/n∈ms)).map fun n:Nat=>(n:Int)) (xs:=((List.range 12).filter fun n=>decide (n∈ns\/n∈ms)).map fun n=>V.int (n:Nat))).mpr (by rw [t8];rfl);rw [t8] at this;exact this
 ·cases hj
end
end DL
namespace Js
open PySem
open Sem (wp)
theorem qdg:typeLookup (.type "list") "keys" = pure none:=by rw [g3n,g22];kernel_rfl
theorem q8u:typeLookup (.type "list") "__getattr__" = pure none:=by rw [g3n,g22];kernel_rfl
section
variable{prog:Program}{w:World}{A:Around}{E:Value->Shared->Prop}{s:Shared}{a:Addr}
theorem qji{xs:Array Value}{n:Nat}{u:Tok}{Q:Value->Shared->Prop}{sl:Array (Option Value)}(hx:s.heap.get? a=some {cls:=.type "list",dict:=none,data:=.seq xs n,slots:=sl})(hh:A.handled=none)
  (h:∀h' tk e,Heap.NewAttrErr s.heap h' e (.ref a) "keys" -> E (.ref e) {s with heap:=h',toks:=tk}) :
  wpAny (model prog w) A (call (.builtin "list.__getattribute__") [.ref a,.str "keys" u]) Q E s:=by
 refine pz g2p ⟨_,hx,rfl⟩ F.entry_list_ga ?_ (F.args_list_getattribute_2 _ _);obtain⟨hp,g,d,tk,os⟩:=s;have hT:(⟨hp,g,d,tk,os⟩:Shared).TypeIs (.ref a) "list" :=⟨_,hx,rfl⟩
 have f4:=qdg;unfold Builtin.«object.__getattribute__»
 repeat (any_goals (first|assumption|wp_step))
 exact wpAny_raiseAttrError (by simpa using hh) (fun h' tk e x=>h h' tk e x) (attrMsg_fits (by decide +kernel) (by size_fits))
theorem qjj{xs:Array Value}{n:Nat}{Q:Option Value->Shared->Prop}{sl:Array (Option Value)}(hx:s.heap.get? a=some {cls:=.type "list",dict:=none,data:=.seq xs n,slots:=sl})(hh:A.handled=none)
  (h:∀h' tk,(∀b o,s.heap.get? b=some o->h'.get? b=some o)->Q none {s with heap:=h',toks:=tk}) :
  wpAny (model prog w) A (getAttr? (.ref a) "keys") Q E s:=by
 obtain⟨hp,g,d,tk,os⟩:=s;have hT:(⟨hp,g,d,tk,os⟩:Shared).TypeIs (.ref a) "list" :=⟨_,hx,rfl⟩
 have f1:=sub_AttributeError;have f3:=g2p.lookup;have f4:=g2p.bind (.ref a);have f5:=q8u;unfold getAttr? getAttrBy? getAttrBy
 repeat (any_goals (first|assumption|((with_reducible show wpAny _ _ (call (Value.builtin "list.__getattribute__") _ _) _ _ _);refine qji hx (by first|exact hh|simpa using hh) fun h' tk' e x=>?_)|wp_step))
 obtain⟨t',u',he⟩:=x.there
 repeat (any_goals (first|assumption|wp_step))
 exact h _ _ x.keeps
end
end Js
namespace Js
open PySem
theorem qaq:entryFor table "dict.update.loop" = some Builtin.«dict.update.loop» :=entryFor_of_tree (by kernel_rfl)
theorem q3a:plainId "dict.update.loop" = true:=by decide +kernel
abbrev TK(prog:Program)(w:World):=tupleKind (intKind prog w)
structure Prs(prog:Program)(w:World)(h:Heap)(vs:List Value)(ps:List (List Int×Addr×Value)): Prop where
 len:vs.length=ps.length
 pair:∀(i:Nat) (p:List Int×Addr×Value),ps[i]? = some p->∃q,vs[i]? = some (.ref q)/\h.IsTuple q #[.ref p.2.1,p.2.2]
 key:∀p∈ps,(TK prog w).is h p.1 p.2.1
theorem q7o{prog:Program}{w:World}{h h':Heap}{k:List Int}{a:Addr}(x:(TK prog w).is h k a)(e:∀o,h.get? a=some o->h'.get? a=some o): (TK prog w).is h' k a:=by
 obtain⟨o,items,n,ho,r⟩:=x;exact⟨o,items,n,e o ho,r⟩
section
variable{prog:Program}{w:World}{A:Around}{R:Result->Shared->Prop}
theorem qjk{vs:List Value}{ps:List (List Int×Addr×Value)}{N I S L:Addr}(hu:A.units+1<cLine)(hh:A.in1.handled=none)(hSN:N<=S)(hIN:N<=I)(hLN:L<N)(hSI:S≠I)(h0:Heap)(hN:∀b o,h0.get? b=some o->b<N)(P0:Prs prog w h0 vs ps)(hl0:h0.IsList L vs.toArray)(hnd:(ps.map (·.1)).Nodup)(hz:ps.length<=sizeLine):
  ∀(k i:Nat) (s:Shared) (j:Int) (tj:Tok),ps.length-i=k->i<=ps.length->s.heap.IsListIter I L i->(∀b o,h0.get? b=some o->s.heap.get? b=some o)->s.heap.DictOfH (TK prog w) S (ps.take i) ->
   (∀s',s'.gens=s.gens->s'.drawn=s.drawn->s'.os=s.os->s.toks<=s'.toks->(∀b o,h0.get? b=some o->s'.heap.get? b=some o)->s'.heap.DictOfH (TK prog w) S ps->R (.ok (.ret .none)) s') ->
   codeAny (model prog w) A (.builtin "dict.update.loop" ⟨[.ref S,.ref I,.int j tj,.none],[]⟩) R s:=by
 intro k
 induction k with
 | zero=>
  intro i s j tj hk hi hit hkeep hd hR;have hin:i=ps.length:=by lia
  subst hin;refine g0q qaq ?_;rw [g0m q3a _];have hls:s.heap.IsList L vs.toArray:=let⟨o,ho,r⟩:=hl0; ⟨o,hkeep L o ho,r⟩
  show wpAny _ A.in1 (pyNext (.ref I) >>= _) _ _ s;refine g9 (wpAny_pyNext_list_end hh hit hls (by simp [P0.len]) fun h' he=>?_);show wpAny _ A.in1 (Builtin.Dict.addKeywords S [] >>= _) _ _ _;refine g9 (gc (gc ?_));rw [g0s (gv _)] at hd;refine hR _ rfl rfl rfl (gv _) (fun b o e=>he b o (md (m8 (hN b o e) hIN)) (hkeep b o e)) ?_;obtain⟨o,es,ep,ho,hc,hdd,hes,his,hn⟩:=hd;exact⟨o,es,ep,he S o hSI ho,hc,hdd,hes,fun x hx=>q7o (P0.key x hx) fun o' e=>he _ o' (md (m8 (hN _ o' e) hIN)) (hkeep _ o' e),hn⟩
 | succ k ih=>
  intro i s j tj hk hi hit hkeep hd hR;have hlt:i<ps.length:=by lia
  have hp:ps[i]? = some ps[i]:=ng hlt;obtain⟨q,hq,hqt⟩:=P0.pair i _ hp;have hkey:=P0.key _ (g4x hlt);generalize ps[i]=p at hp hq hqt hkey;refine g0q qaq ?_;rw [g0m q3a _];have hls:s.heap.IsList L vs.toArray:=let⟨o,ho,r⟩:=hl0; ⟨o,hkeep L o ho,r⟩
  show wpAny _ A.in1 (pyNext (.ref I) >>= _) _ _ s;refine g9 (wpAny_pyNext_list_item hit hls (x:=.ref q) (by simpa using hq) fun h' hit' hs'=>?_);have keep1:∀b o,h0.get? b=some o->h'.get? b=some o:=fun b o e=>hs'.extBut b o (md (m8 (hN b o e) hIN)) (hkeep b o e);have hqt1:h'.IsTuple q #[.ref p.2.1,p.2.2]:=let⟨o,ho,r⟩:=hqt; ⟨o,keep1 q o ho,r⟩
  have hkey1:(TK prog w).is h' p.1 p.2.1:=q7o hkey fun o e=>keep1 _ o e;have hd1:h'.DictOfH (TK prog w) S (ps.take i):=by
   obtain⟨o,es,ep,ho,hc,hdd,hes,his,hn⟩:=hd;exact⟨o,es,ep,hs'.extBut S o hSI ho,hc,hdd,hes,fun x hx=>q7o (P0.key x (g1f hx)) fun o' e=>keep1 _ o' e,hn⟩
  dsimp only;refine g9 (ug ?_);refine g9 (wpAny_tryCatch ?_);unfold Builtin.Dict.pairItems;obtain⟨oq,hoq,hcq,nq,hdq⟩:=hqt1;refine g9 (g1x (s:={s with heap:=h'}) (T:="tuple") ⟨oq,hoq,hcq⟩ ?_);rw [mq (by decide)];refine g9 (g0u (s:={s with heap:=h'}) hoq hdq (gc ?_));dsimp only [Option.getD_some];refine ug ?_;have hnone:atKey (ps.take i) p.1=none:=by
   refine atKey_none_of_get fun jj pp e=>?_;have hjj:jj<i:=by
    have:=(ni.mp e).1;rw [tx] at this;lia
   have e':ps[jj]? = some (p.1,pp):=by rw [g4n hjj] at e;exact e
   have:=idxH_unique hnd e' (show ps[i]? = some (p.1,p.2) from hp);lia
  refine wpAny_dictSet_heap (s:={s with heap:=h'}) (show(TK prog w).room A.in1 from hu) hkey1 hd1 (fun h2 hd2 hs2=>?_) (by rw [tx];lia);rw [storedH_new hnone,show ps.take i++[(p.1,p.2.1,p.2.2)]=ps.take (i+1) by rw [g5i,hp];rfl] at hd2;have ne2:∀b o,h0.get? b=some o->b≠S:=fun b o e=>md (m8 (hN b o e) hSN);refine gc ⟨g27 q3a _,ih (i+1) _ _ _ (by lia) hlt ?_ (fun b o e=>?_) hd2 fun s' a1 a2 a3 a4 a5 a6=>?_⟩
  ·obtain⟨o,ho,r⟩:=hit'
   exact⟨o,hs2.extBut I o (nh hSI) ho,r⟩
  ·exact hs2.extBut b o (ne2 b o e) (keep1 b o e)
  ·exact hR s' a1 a2 a3 (mx (g37 _ _) a4) a5 a6
end
section
variable{prog:Program}{w:World}{A:Around}{E:Value->Shared->Prop}{s:Shared}
theorem q8v{L:Addr}{vs:List Value}{n0:Nat}{ps:List (List Int×Addr×Value)}{Q:Value->Shared->Prop}(hu:A.units+4<cLine)(hh:A.handled=none){sl:Array (Option Value)}(hL:s.heap.get? L=some {cls:=.type "list",dict:=none,data:=.seq vs.toArray n0,slots:=sl})(P0:Prs prog w s.heap vs ps)(hnd:(ps.map (·.1)).Nodup)(hz:ps.length<=sizeLine)
  (h:∀h' tk,(∀b o,s.heap.get? b=some o->h'.get? b=some o)->h'.DictOfH (TK prog w) s.heap.objs.size ps->Q (.ref s.heap.objs.size) {s with heap:=h',toks:=tk}) :
  wpAny (model prog w) A (call (.type "dict") [.ref L]) Q E s:=by
 refine callType_codes (Q₁:=fun obj s₁=>obj=.ref s.heap.objs.size/\s₁ = {s with heap:=s.heap.push {cls:=.type "dict",data:=.dict #[]} }) F.kt_called_dict (F.kt_typeCall_dict_1 _) F.entry_dict_init (kt_code_dict_new _ ⟨rfl,rfl⟩) ?_
 rintro obj s₁ ⟨rfl,rfl⟩
 let dO:Obj:={cls:=.type "dict",data:=.dict #[]}
 have hnew:(s.heap.push dO).DictOfH (TK prog w) s.heap.objs.size []:=Heap.DictOfH.new s.heap;have hTd:Shared.TypeIs {s with heap:=s.heap.push dO} (.ref s.heap.objs.size) "dict" :=⟨dO,m4 _ rfl,rfl⟩
 have hL1:(s.heap.push dO).get? L=some {cls:=.type "list",dict:=none,data:=.seq vs.toArray n0,slots:=sl}:=gf _ hL;refine⟨hTd,F.args_dict_init_2 _ _,?_⟩;unfold Builtin.«dict.__init__»;refine g9 ?_;unfold Builtin.Dict.selfAndRest;refine g9 (wpAny_notOrdered_dict hTd ?_);show wpAny _ _ (pure (s.heap.objs.size,[Value.ref L])) _ _ _;refine gc ?_;show wpAny _ _ (Builtin.Dict.updateFrom "dict.__init__" s.heap.objs.size (.ref L) [] .none) _ _ _;unfold Builtin.Dict.updateFrom;refine g9 (g1x (T:="list") ⟨_,hL1,rfl⟩ ?_);rw [mq (by decide)];refine g9 (qjj (s:={s with heap:=s.heap.push dO}) hL1 (by simpa using hh) fun h1 tk1 k1=>?_);rw [mq (by rfl)];refine g9 (g01 ?_);have hL2:h1.IsList L vs.toArray:=⟨_,k1 _ _ hL1,rfl,n0,rfl⟩
 refine g9 (g2z (s:={s with heap:=h1,toks:=tk1}) hL2 ?_)
 let iO:Obj:={cls:=.type "list_iterator",data:=.fields #[.ref L,.int 0 0]}
 have hz1:s.heap.objs.size+1<=h1.objs.size:=gz (k1 _ _ (m4 s.heap (o:=dO) rfl));have hLs:L<s.heap.objs.size:=gz hL;have keep:∀b o,s.heap.get? b=some o->(h1.push iO).get? b=some o:=fun b o e=>gf _ (k1 b o (gf _ e));have hd0:(h1.push iO).DictOfH (TK prog w) s.heap.objs.size []:=by
  obtain⟨o,es,ep,ho,hc,hdd,hes,his,hn⟩:=hnew;exact⟨o,es,ep,gf _ (k1 _ _ ho),hc,hdd,hes,fun x hx=>(nomatch hx),hn⟩
 refine gc ⟨g27 q3a _,qjk (A:=A.in1) (N:=s.heap.objs.size) (I:=h1.objs.size) (S:=s.heap.objs.size) (L:=L) (vs:=vs) (ps:=ps) (by show A.units+1+1<cLine;lia) (by simpa using hh) (gv _) (g1b hz1) hLs (md hz1) s.heap (fun b o e=>gz e) P0 ⟨_,hL,rfl,n0,rfl⟩ hnd hz
  ps.length 0 _ _ _ rfl (g03 _) ⟨iO,m4 _ rfl,rfl,rfl⟩ keep hd0 fun s' a1 a2 a3 a4 a5 a6=>?_⟩
 obtain⟨h',g',d',tk',os'⟩:=s';dsimp only at a1 a2 a3 a4 a5 a6;subst a1;subst a2;subst a3;exact⟨rfl,h h' tk' a5 a6⟩
end
end Js
namespace DL
open PySem PySem.Spec PyProof.Rows L2
variable[Lam]
def q7p:List D->Option (List (List Int)×List D)
 | []=>some ([],[])
 | .tup [.tup kd,v] :: r=>(we kd).bind fun k=>(q7p r).map fun p=>(k :: p.1,v :: p.2)
 | _ :: _=>none
def qbo:List D->Option D
 | [.lst ds]=>(q7p ds).bind fun p=>if p.1.Nodup/\ds.length<=lim then some (.dtt p.1 p.2) else none
 | _=>none
def q9y:D->D->Option D
 | .tup kd,.dtt ks _=>(we kd).map fun k=>.bl (decide (k∈ks))
 | _,_=>none
omit [Lam] in
theorem ints_rep{K:Frag}{F:Hp}: ∀ {kd:List D} {xs:List V} {k:List Int},we kd=some k->RepL K F kd xs->xs=k.map V.int
 | [],xs,k,h,r=>by cases h;exact r.nil_inv
 | .int i :: kd,xs,k,h,r=>by
  obtain⟨k',h1,rfl⟩:=ml.mp h;obtain⟨x,ys,rfl,a1,a2⟩:=r.cons_inv;rw [rep_int.mp a1,ints_rep h1 a2];rfl
 | .non :: _,_,_,h,_=>by cases h
 | .bl _ :: _,_,_,h,_=>by cases h
 | .str _ :: _,_,_,h,_=>by cases h
 | .tup _ :: _,_,_,h,_=>by cases h
 | .lst _ :: _,_,_,h,_=>by cases h
 | .dct _ _ :: _,_,_,h,_=>by cases h
 | .dtt _ _ :: _,_,_,h,_=>by cases h
 | .obj _ :: _,_,_,h,_=>by cases h
 | .exc _ :: _,_,_,h,_=>by cases h
omit [Lam] in
theorem items_int{P:Program}{w:World}: ∀ {k:List Int} {us:List Value},Vals (k.map V.int) us->ItemsAre (intKind P w) k us
 | [],_,r=>by cases r;exact .nil
 | i :: k,_,r=>by
  cases r with
  | cons h t=>
   obtain⟨tk,rfl⟩:=h;exact .cons (g3m _ _ _ _) (items_int t)
section
variable{X:Cx}{pins:List (Addr×Obj)}{σ : St}{H F:Hp}{s:Shared}
omit [Lam] in
theorem qdh(I:Inv X pins σ H s)(fh:Same F H){k:List Int}{a:Addr}(h:SqT X.K F a (k.map V.int)): (Js.TK X.prog X.w).is s.heap k a:=by
 obtain⟨its,r,⟨o,ho,hc,n,hd⟩,_⟩:=I.tuple (ql fh h);exact⟨o,its.toArray,n,ho,hc,hd,by simpa using items_int r⟩
omit [Lam] in
theorem qjl (I:Inv X pins σ H s) (fh:Same F H):∀ {ds:List D} {ys:List V} {its:List Value} {ks:List (List Int)} {vs:List D},q7p ds=some (ks,vs)->RepL X.K F ds ys->Vals ys its ->
  ∃(ps:List (List Int×Addr×Value)) (ws:List V),Js.Prs X.prog X.w s.heap its ps/\ps.map (·.1)=ks/\(∀p∈ps,SqT X.K F p.2.1 (p.1.map V.int))/\Vals ws (ps.map fun p=>p.2.2)/\RepL X.K F vs ws
 | [],ys,its,ks,vs,h,k,r=>by
  cases h;cases k.nil_inv;cases r;exact⟨[],[],⟨rfl,fun i p e=>by simp at e,fun p hp=>(nomatch hp)⟩,rfl,fun p hp=>(nomatch hp),.nil,.nil⟩
 | d :: ds,ys,its,ks,vs,h,k,r=>by
  unfold q7p at h
  split at h
  ·cases ‹_ :: _=[]›
  ·rename_i kd v r' e
   injection e with e1 e2
   subst e1;subst e2;obtain⟨kk,h1,h2⟩:=gh.mp h;obtain⟨p,h3,h4⟩:=ml.mp h2;cases h4;obtain⟨x,ys',rfl,a1,a2⟩:=k.cons_inv;obtain⟨q,qs,rfl,b1,b2⟩:=rep_tup.mp a1;obtain⟨x1,z1,rfl,c1,c2⟩:=b2.cons_inv;obtain⟨x2,z2,rfl,d1,d2⟩:=c2.cons_inv;cases d2.nil_inv;obtain⟨ka,kxs,rfl,k1,k2⟩:=rep_tup.mp c1;rw [ints_rep h1 k2] at k1;cases r with
   | cons r1 r2=>
    cases r1;obtain⟨uu,hu,⟨oq,hoq,hcq,nq,hdq⟩,_⟩:=I.tuple (ql fh b1);cases hu with
    | cons u1 u2=>
     cases u1;cases u2 with
     | cons u3 u4=>
      cases u4;rename_i uv;obtain⟨ps,ws,P,e1,e2,e3,e4⟩:=qjl I fh h3 a2 r2;refine⟨(kk,ka,uv) :: ps,x2 :: ws,⟨by simp [P.len],fun i p e=>?_,fun p hp=>?_⟩,by simp [e1],fun p hp=>?_,.cons u3 e3,.cons d1 e4⟩
      ·cases i with
       | zero=>
        simp only [g2y,g1t] at e;subst e;exact⟨q,rfl,oq,hoq,hcq,nq,hdq⟩
       | succ i=>exact P.pair i p (by simpa using e)
      ·rcases m6.mp hp with rfl|hp
       ·exact qdh I fh k1
       ·exact P.key p hp
      ·rcases m6.mp hp with rfl|hp
       ·exact k1
       ·exact e2 p hp
  ·cases h
end
section
variable{X:Cx}
theorem qpj(hc:X.calm=true)(hu:X.A.units+64<cLine): j6 X (.type "dict") (rC X.K qbo):=fun pins s σ H xs us Q I rv ⟨F,ds,d,fh,rl,ho,q⟩=>by
 unfold qbo at ho
 split at ho
 ·rename_i ds'
  obtain⟨⟨ks,vs⟩,h1,h2⟩:=gh.mp ho
  split at h2
  ·rename_i hok
   cases h2;obtain⟨x,rfl,rx⟩:=rep1 rl;obtain⟨a,ys,rfl,k1,k2⟩:=rep_lst.mp rx;obtain⟨u,rfl,ru⟩:=vals1 rv;cases ru;obtain⟨its,r1,⟨o,n,e1,e2,e3,e4⟩,hz⟩:=I.list (fh.seq k1);obtain⟨oc,od,oda,osl⟩:=o;dsimp only at e2 e3 e4;subst e2;subst e3;subst e4;obtain⟨ps,ws,P,p1,p2,p3,p4⟩:=qjl I fh h1 k2 r1;have hl:ps.length<=lim:=by
    rw [<- P.len, <- r1.length, <- k2.length];exact hok.2
   refine Js.q8v (by lia) (I.ok.hd hc) e1 P (by rw [p1];exact hok.1) (va hl) fun h' tk old hd=>?_;have hnn:H s.heap.objs.size=none:=I.hok.fresh (gv _);obtain⟨o,es,ep,g1,g2,g3,g4,_,g5⟩:=hd;have de:DE s.heap.objs.size ps ep h':=⟨o,es,g1,g2,g3,g4⟩
   refine⟨.ref _,_,I.laid (t':=tk) (a:=s.heap.objs.size) (o:=.ext (DE s.heap.objs.size ps ep)) old (gv _) ⟨de,⟨o,g1⟩,fun h1 h2 ⟨o,es,z,r⟩ e=>⟨o,es,e o z,r⟩⟩,rfl,?_⟩;have g:=Grow.new (o:=.ext (DE s.heap.objs.size ps ep)) fh hnn;refine q _ _ _ g (rep_dtt.mpr ⟨_,ps,ws,ep,rfl,qt,p1,hok.1,va hl,beq_eq_false_iff_ne.mpr (tu (qoj I)),fun x hx=>ql g.ff (p2 x hx),p3,p4.mono g.ff⟩)
  ·cases h2
 ·cases ho
theorem qs9(hu:X.A.units+64<cLine): OpR X (compareOp .In) (rD X.K q9y):=fun pins s σ H x y v u Q I rx ry ⟨F,d1,d2,d,fh,r1,r2,ho,q⟩=>by
 unfold q9y at ho
 split at ho
 ·rename_i kd ks vs
  obtain⟨k,h1,rfl⟩:=ml.mp ho;obtain⟨b,kxs,rfl,k1,k2⟩:=rep_tup.mp r1;obtain⟨a,xs,ys,ep,rfl,e1,e2,e3,e4,e5,e6,e7,e8⟩:=rep_dtt.mp r2;cases rx;cases ry;rw [ints_rep h1 k2] at k1;obtain⟨⟨o,es,g1,g2,g3,g4⟩,_,_⟩:=(show ObjOk X.prog X.w H s.heap a _ from I.hok a _ (fh _ _ e1))
  have dd:s.heap.DictOfH (Js.TK X.prog X.w) a xs:=⟨o,es,ep,g1,g2,g3,g4,fun x hx=>qdh I fh (e6 x hx),by rw [e2];exact e3⟩
  refine wpAny_in_heap (tupleKind_room_in1 (by lia)) (qdh I fh k1) e5 dd ?_;have:(atKey xs k).isSome=decide (k∈ks):=by
   rw [<- e2,pj,u0]
   constructor
   ·intro h
    obtain⟨p,hp⟩:=g0v.mp h;obtain⟨z,hz,rfl⟩:=ml.mp hp;have:=List.find?_some hz;exact nv.mpr ⟨z,List.mem_of_find?_eq_some hz,by simpa using this⟩
   ·intro h
    obtain⟨z,hz,rfl⟩:=nv.mp h;obtain⟨i,hi⟩:=g5f.mp hz;rw [atKey_of_get (by rw [e2];exact e3) (show xs[i]? = some (z.1,z.2) from hi)]
    rfl
  rw [this];exact⟨.bl _,H,I.tok _,rfl,q _ F H (.refl fh) (rep_bl.mpr rfl)⟩
 ·cases ho
end
end DL
namespace DL
open PySem PySem.Spec PyProof.Rows L2
section
variable{P:Program}{w:World}{K:Frag}{mg:Str->Option Value}{base:Heap}{N:List Str}{qual:Str}{scope:Scope}{f:Addr}{cd:Value}{A:Around}{outer:List Env}{s0:Shared}{H0:Hp}{E:XK}
variable{pins:List (Addr×Obj)}{σ : St}{H:Hp}{s:Shared}
end
section
variable{P:Program}{w:World}{K:Frag}{mg:Str->Option Value}{base:Heap}{N:List Str}{qual:Str}{scope:Scope}{f:Addr}{cd:Value}{A:Around}{outer:List Env}{s0:Shared}{H0:Hp}{E:XK}
end
section
variable{X:Cx}{pins:List (Addr×Obj)}{σ σ1:St}{H H1:Hp}{s s1:Shared}
end
section
variable{X:Cx}{pins:List (Addr×Obj)}{σ : St}{H:Hp}{s:Shared}
end
end DL
namespace DL
open PySem PySem.Spec PyProof.Rows L2
variable[Lam]
section
variable{X:Cx}
abbrev oDivB:=oI (fun _ j=>decide (0<j)&&decide (j<18446744073709551616)) fun i j=>i / j
theorem qme:OpR X (binaryOp .FloorDiv) (rI (fun _ j=>0<j/\j<18446744073709551616) fun i j=>.int (i / j)):=opI fun i j _ _ _ _ _ hc q=>by
 have h1:(0:Int)<j:=hc.1;have h2:j<18446744073709551616:=hc.2;refine floordiv_int (by lia) (by rw [g47 i (by lia)];exact q) (.inl (PyProof.noPylong_of_log2 ?_));have h3:j.natAbs<2 ^ 64:=by lia
 exact m8 ((Nat.log2_lt (by lia)).mpr h3) (by decide)
theorem qpk:OpR X (binaryOp .FloorDiv) (rD X.K oDivB):=q6h qme fun i j h=>q17 h
end
section
variable{P:Program}{w:World}{K:Frag}{mg:Str->Option Value}{base:Heap}{x qual:Str}{st:Stmt}{dV:Value}{f:Addr}{fd:FuncData}{N ps:List Str}
end
section
variable{X:Cx}{K:Frag}{F0 H0 F H:Hp}{σ : St}{ρ : Rho}
variable{e:Expr}{pos:Pos}{f:FE}
end
end DL
namespace DL
open PySem
end DL
namespace DL
open PySem PySem.Spec PyProof.Rows L2
variable[Lam]
section
variable{P:Program}{w:World}{K:Frag}{mg:Str->Option Value}{base:Heap}{N:List Str}{qual:Str}{scope:Scope}{f:Addr}{cd:Value}{A:Around}{outer:List Env}{s0:Shared}{H0:Hp}{E:XK}
end
abbrev FX:=Rho->Option Str
section
variable{P:Program}{w:World}{K:Frag}{mg:Str->Option Value}{base:Heap}{N:List Str}{qual:Str}{scope:Scope}{f:Addr}{cd:Value}{A:Around}{outer:List Env}{s0:Shared}{H0:Hp}{E:XK}
variable{st:Stmt}{rest:List Stmt}{u:FS}{v v':FX}{t:FT}{pos:Pos}
end
section
variable{P:Program}{w:World}{K:Frag}{mg:Str->Option Value}{base:Heap}{x qual:Str}{st:Stmt}{dV:Value}{f:Addr}{fd:FuncData}{N ps:List Str}
end
section
variable{P:Program}{w:World}{K:Frag}{mg:Str->Option Value}{base:Heap}{CX:CXT}{k:Nat}{f:Addr}{fd:FuncData}{ps:List Str}{sp sp':Sp}
end
section
variable{M:Model}{A:Around}{E:Value->Shared->Prop}{s:Shared}{K:Frag}{a C C2:Addr}
open PySem.W in
end
section
variable{X:Cx}
variable{C C2:Addr}{cx n:Str}{np hpos:Pos}{b₀:Stmt}{suite:List Stmt}{rest:List ExceptHandler}{ts:TS}{th:Addr->TS}{i:Nat}
end
section
variable{X:Cx}
end
section
variable{X:Cx}{K:Frag}{st:Stmt}{v v':FX}{t:FT}{pos:Pos}{σ0:St}{E:XK}{pins:List (Addr×Obj)}
end
section
variable{X:Cx}
variable{C C2:Addr}{cx n x:Str}{np hpos:Pos}{b₀:Stmt}{suite:List Stmt}{rest:List ExceptHandler}{us:FS}{i:Nat}
end
section
variable{X:Cx}{e:Expr}{pos:Pos}{f:FE}
def qmf:D->D->Option D
 | .lst ds,.lst es=>if xa ds es&&decide (xb ds<=60) then some (.bl (!eqL ds es)) else none
 | _,_=>none
theorem qsa(hu:X.A.units+64<cLine): OpR X (compareOp .NotEq) (rD X.K qmf):=by
 intro pins s σ H x y v u Q I rx ry h;obtain⟨F,d1,d2,d,fh,r1,r2,ho,q⟩:=h;unfold qmf at ho
 split at ho
 ·rename_i ds es
  split at ho
  ·rename_i hc
   cases ho;rw [mi] at hc;obtain⟨a,xs,rfl,k1,k2⟩:=rep_lst.mp r1;obtain⟨b,ys,rfl,k3,k4⟩:=rep_lst.mp r2;cases rx;cases ry;obtain⟨i1,v1,t1,_⟩:=I.list (fh.seq k1);obtain⟨i2,v2,t2,_⟩:=I.list (fh.seq k3);have hq:=q4l I fh X.A.in1 hc.1 (by have:=uk hc.2;show X.A.units+1+xb ds<cLine;lia) k2 k4 v1 v2;have hl1:i1.length=ds.length:=by rw [<- v1.length, <- k2.length]
   have hl2:i2.length=es.length:=by rw [<- v2.length, <- k4.length]
   by_cases hl:ds.length=es.length
   ·have:=SeqAt.RcNeAt.lists (A:=X.A) (e:=eqJ ds es) t1.isList t2.isList (by rw [gj,gj,hl1,hl2];exact hl) (by lia) (fun j h1 h2=>by simpa using hq j (by simpa using h1) (by simpa using h2))
    have e1:(List.range i1.toArray.size).all (eqJ ds es)=eqL ds es:=by
     rw [<- xv,gj,hl1, <- hl,g3e];simp
    rw [e1] at this;exact this X.prog X.w _ _ ⟨.bl _,H,I,rfl,q _ F H (.refl fh) (rep_bl.mpr rfl)⟩
   ·have e1:eqL ds es=false:=by rw [<- xv];simp [hl]
    rw [e1] at q;have:=SeqAt.RcNeAt.lists_lengths (A:=X.A) t1.isList t2.isList (by rw [gj,gj,hl1,hl2];simpa using hl) (by lia);exact this X.prog X.w _ _ ⟨.bl _,H,I,rfl,q _ F H (.refl fh) (rep_bl.mpr rfl)⟩
  ·cases ho
 ·cases ho
abbrev qmg:D->D->Option D:=fun x y=>(qrt x y).or (qmf x y)
theorem qsb(hu:X.A.units+64<cLine): OpR X (compareOp .NotEq) (rD X.K qmg):=q5h (qru hu) (qsa hu)
end
section
variable{X:Cx}{N':List Str}{scope:Scope}{cap:List (Option Nat)}{tg iter elt:Expr}{ifs:List Expr}{it:FA}{b:FB}{c:FT}{f:FE}{pos:Pos}
theorem qmh(hc:X.calm=true)(co:CapOkC X N' scope cap)(fr:q6k b cap)(hi:PI X tg iter (tDI X.K it))
  (hg:∀cl C s₀ H₀ fp,PG (xy X N' scope cl C s₀ H₀ fp) tg (tDG X.K b)) (hcs:∀cl C s₀ H₀ fp,wy (xy X N' scope cl C s₀ H₀ fp) ifs (tDT X.K c)) (he:∀cl C s₀ H₀ fp,PE (xy X N' scope cl C s₀ H₀ fp) elt (tD X.K f))
  (hs:∀x,foldedSetIterable iter X.env x=pure x:=by intro _;rfl):PE X (.ListComp elt [⟨tg,iter,ifs,0⟩] scope pos) (tL X.K (z6 it cap b c f)):=
 zx (ql0 hc co hi hg hcs he hs) fun σ H Q h=>qca fr h
end
def qnq (outer:List (Str×NameKind)) (N N':List Str) (scope:Scope) (cap:List (Option Nat)):Bool:=
 scope.names.all (fun y=> !(y.2 == .cell) || (scope.names.lookup y.1==some .cell))&&(scope.names.all (fun y=> !(y.2 == .local) || (scope.names.lookup y.1==some .local))&&(scope.names.all (fun y=> !(y.2 == .free) || (outer.lookup y.1==some .cell) || (outer.lookup y.1==some .free)) &&
  (cap.length==N'.length&&(List.range cap.length).all fun i=>match(cap[i]?).join with
   | none=>true
   | some j=>match N'[i]? with
    | none=>false
    | some x=>N[j]? == some x&&scope.names.lookup x==some .free)))
omit [Lam] in
theorem qjm{X:Cx}{N':List Str}{scope:Scope}{cap:List (Option Nat)}(hk:scope.kind=.function)(h:qnq X.env.scope.names X.N N' scope cap=true): CapOkC X N' scope cap:=by
 unfold qnq at h;simp only [mi,my] at h;obtain⟨h1,h2,h3,h4,h5⟩:=h;refine⟨hk,fun y hy e=>?_,fun y hy e=>?_,fun y hy e=>?_,by simpa using h4,fun i j e=>?_⟩
 ·have:=h1 y hy;rw [e] at this;simpa using this
 ·have:=h2 y hy;rw [e] at this;simpa using this
 ·have:=h3 y hy
  rw [e] at this;simp only [g4q,g0k,g35,g0r,g24] at this;exact this
 ·have hi:i<cap.length:=(ni.mp e).1
  have:=h5 i (g05.mpr hi);rw [e] at this;simp only [g04] at this
  split at this
  ·cases this
  ·rename_i x hx
   simp only [mi,g24] at this;exact⟨x,hx,this.1,this.2⟩
end DL
namespace DL
open PySem L2
theorem qdi(a b:Int): decide (V.int a=V.int b)=decide (a=b):=g4z.mpr ⟨fun h=>by injection h,fun h=>by rw [h]⟩
theorem qfy(a b:Int): oEq (.int a) (.int b)=some (.bl (decide (a=b))):=by
 simp only [oEq,ql7,flD,q9f,mm,ny,g5k,qdi]
theorem qfz(a b:Int): q7f (.int a) (.int b)=some (.bl (!decide (a=b))):=by
 simp only [q7f,flD,q9f,mm,ny,qdi]
theorem qsc(a b:Bool): oEq (.bl a) (.bl b)=some (.bl (a==b)):=by
 cases a <;> cases b <;> rfl
theorem qmi(a b:Int)(h:0<b): oMod (.int a) (.int b)=some (.int (a%b)):=by simp [oMod,oI,h]
theorem qmj(a b:Int)(h:0<b)(h2:b<1073741824): oDiv (.int a) (.int b)=some (.int (a / b)):=by simp [oDiv,oI,h,h2]
theorem qjn(a b:Int): zd (.int a) (.int b)=some (.int (a+b)):=rfl
theorem qmk(a b:Int): oSub (.int a) (.int b)=some (.int (a-b)):=rfl
theorem qpl(a b:Int): oLt' (.int a) (.int b)=some (.bl (decide (a<b))):=rfl
theorem qpm(a b:Int): oLe (.int a) (.int b)=some (.bl (decide (a<=b))):=rfl
theorem qpn(a b:Int): oGt (.int a) (.int b)=some (.bl (decide (b<a))):=rfl
theorem qpo(a b:Int): oGe (.int a) (.int b)=some (.bl (decide (b<=a))):=rfl
theorem qar(xs ys:List D)(h:xs.length+ys.length<=1000000): zd (.tup xs) (.tup ys)=some (.tup (xs++ys)):=by
 show(oAdd (.tup xs) (.tup ys)).or (q7j (.tup xs) (.tup ys))=_;simp only [oAdd,oI,Option.none_or,q7j,lim,mq h]
theorem qjo(xs ys:List D)(h:xs.length+ys.length<=1000000): zd (.lst xs) (.lst ys)=some (.lst (xs++ys)):=by
 show(oAdd (.lst xs) (.lst ys)).or (q7j (.lst xs) (.lst ys))=_;simp only [oAdd,oI,Option.none_or,q7j,lim,mq h]
theorem qml(a b:Int)(h:0<=b)(h2:b<=1000000)(h3:a.natAbs<2 ^ 64): oShl (.int a) (.int b)=some (.int (a*2 ^ b.toNat)):=by simp [oShl,oI,h,h2,h3]
theorem qmm(a b:Int)(h:0<=b)(h2:b<=1000000)(h3:a.natAbs<2 ^ 64): oPow (.int a) (.int b)=some (.int (a ^ b.toNat)):=by simp [oPow,oI,h,h2,h3]
theorem q5t(ns:List Int): q9j [.lst (ns.map .int)]=some (.int ns.sum):=by simp [q9j,o1L,q39]
theorem q8w(bs:List Bool): q7i [.lst (bs.map .bl)]=some (.bl (bs.all id)):=by simp [q7i,o1L,q8e]
theorem q9z{α : Type}{xs:List α}{i:Int}(h0:0<=i): atI xs i=xs[i.toNat]? :=by
 unfold atI ixN;rw [mq h0]
 by_cases h:i<xs.length
 ·rw [mq h];rfl
 ·rw [mj h,g5j (by omega)];rfl
theorem qmn{α : Type}(xs:List α): atI xs (-1)=xs.getLast? :=by
 unfold atI ixN;rw [mj (by decide)];cases xs with
 | nil=>rfl
 | cons a r=>
  rw [mq (by simp only [p5];omega)];show(a :: r)[((-1:Int)+((a :: r).length:Nat)).toNat]? = _;rw [List.getLast?_eq_getElem?]
  congr 1
  simp only [p5];omega
section
variable{b:FB}{body:FS}{d:D}{ds:List D}{ρ ρ1 ρ2:Rho}
theorem zt(h1:b d ρ = some ρ1)(h2:body ρ1=some (.nx, ρ2)): runFor b body (d :: ds) ρ = runFor b body ds ρ2:=by simp only [runFor,h1,h2,mm]
theorem qjp{v:D}(h1:b d ρ = some ρ1)(h2:body ρ1=some (.rt v, ρ2)): runFor b body (d :: ds) ρ = some (.rt v, ρ2):=by simp only [runFor,h1,h2,mm]
end
theorem q8x{b:FB}{c:FT}{f:FE}{ρ : Rho}(p:D->Bool)(g:D->D): ∀ {ds:List D},(∀d∈ds,∃ ρ1,b d ρ = some ρ1/\c ρ1=some (p d)/\(p d=true->f ρ1=some (g d)))->qv b c f ρ ds=some ((ds.filter p).map g)
 | [],_=>rfl
 | d :: ds,h=>by
  obtain⟨ρ1,e1,e2,e3⟩:=h d gq;have ih:=q8x p g fun e he=>h e (gr _ he);simp only [qv,e1,e2,mm];cases hp:p d with
  | true=>simp only [ny,e3 hp,mm,ih,pb,nt,hp,gu]
  | false=>simp only [gm,p8,ih,nt,hp]
theorem q3j{b:FB}{f:FE}{ρ : Rho}(g:D->D){ds:List D}(h:∀d∈ds,∃ ρ1,b d ρ = some ρ1/\f ρ1=some (g d)): qv b zc f ρ ds=some (ds.map g):=by
 have:=q8x (b:=b) (c:=zc) (f:=f) (ρ := ρ) (fun _=>true) g (ds:=ds) fun d hd=>let⟨ρ1,e1,e2⟩:=h d hd; ⟨ρ1,e1,rfl,fun _=>e2⟩
 rw [List.filter_eq_self.mpr (fun _ _=>rfl)] at this;exact this
theorem kc(lo:Int)(n:Nat): z5 lo (n+1)=.int lo :: z5 (lo+1) n:=by
 unfold z5;rw [g1q,gu,t8]
 congr 1
 ·simp
 ·apply g3r
  intro a _;simp only [Function.comp,Nat.succ_eq_add_one,Int.natCast_add]
  congr 1
  omega
theorem q4u(lo:Int)(n:Nat): (z5 lo n).length=n:=by simp [z5]
theorem q42(fa:FA)(ρ : Rho)(j:Int)(h:fa ρ = some [.int j])(h1 : -(2 ^ 62)<=j)(h2:j<2 ^ 62): iR1 fa ρ = some (z5 0 j.toNat):=by
 simp only [iR1,h,mm,nk h1,nk h2,Bool.and_self,ny]
theorem qek{α : Type}(xs:List D)(k:Nat): cutD xs none (some (k:Int))=xs.take k:=by
 unfold cutD;rw [HT.sIx_nat,HT.sIx_none];simp only [g3s,Nat.sub_zero]
 by_cases h:k<=xs.length
 ·rw [Nat.min_eq_left h]
 ·rw [Nat.min_eq_right (by omega),g4s,g0s (by omega)]
theorem qmo{α : Type}(xs:List D)(k:Nat): cutD xs (some (k:Int)) none=xs.drop k:=by
 unfold cutD;rw [HT.sIx_nat,HT.sIx_none]
 by_cases h:k<=xs.length
 ·rw [Nat.min_eq_left h,g0s (by rw [g0c];exact gv _)]
 ·rw [Nat.min_eq_right (by omega),g4r,List.drop_eq_nil_of_le (by omega)];simp
section
variable{ρ ρ1 ρ':Rho}{f g:FE}{d x y z:D}{i n m ar:Nat}{fa fk:FA}{ds es:List D}{t t2:FT}{c:Bool}{u w:FS}{r:Option (Fl×Rho)}
theorem x_c:eC d ρ = some d:=rfl
theorem x_v(h : ρ[i]? = some (some (.fz d))): eV i ρ = some d:=by unfold eV;rw [h]
theorem qh3{o:D->D->Option D}(h1:f ρ = some x)(h2:g ρ = some y)(h3:o x y=some z): eOp o f g ρ = some z:=by unfold eOp;rw [h1,mm,h2,mm,h3]
theorem quv{o:D->Option D}(h1:f ρ = some x)(h3:o x=some z): eUn o f ρ = some z:=by unfold eUn;rw [h1,mm,h3]
theorem qbp:qe ρ = some []:=rfl
theorem q5u(h1:f ρ = some d)(h2:fa ρ = some ds): qa f fa ρ = some (d :: ds):=by unfold qa;rw [h1,mm,h2,pb]
theorem x_call{o:List D->Option D}(h1:fa ρ = some ds)(h2:o ds=some d): qf o fa ρ = some d:=by unfold qf;rw [h1,mm,h2]
theorem qtx(h1:fa ρ = some ds)(hl:ds.length<=lim): j7 fa ρ = some (.tup ds):=by unfold j7;rw [h1,mm,mq hl]
theorem x_l(h1:fa ρ = some ds): eL fa ρ = some (.lst ds):=by unfold eL;rw [h1,pb]
theorem qmp(h1:f ρ = some d)(h2:qc8 d=some c): bT f ρ = some c:=by unfold bT;rw [h1,mm,h2]
theorem qsd(h1:t ρ = some c)(hc:c=true)(h2:u ρ = r): sIf t u w ρ = r:=by subst hc;unfold sIf;rw [h1,mm];exact h2
theorem qse(h1:t ρ = some c)(hc:c=false)(h2:w ρ = r): sIf t u w ρ = r:=by subst hc;unfold sIf;rw [h1,mm];exact h2
theorem qsf:yk ρ = some (.nx, ρ):=rfl
theorem qsg(h:u (ds.map (fun d=>some (.fz d))++List.replicate (n-ds.length) none)=some (.rt d, ρ')): z7 n u ds=some d:=by unfold z7;rw [h]
end
theorem eV0(d:D)(r:Rho): eV 0 (some (.fz d) :: r)=some d:=rfl
theorem eVs(i:Nat)(x:Option B)(r:Rho): eV (i+1) (x :: r)=eV i r:=rfl
theorem qnr(ds:List D): ko [.tup ds]=some (.int ds.length):=rfl
theorem qty(ds:List D): ko [.lst ds]=some (.int ds.length):=rfl
theorem quw(i:Int): (match D.int i with | .int i=>some (some i)|_=>none:Option (Option Int))=some (some i):=rfl
theorem qux(ds:List D)(r:Rho): frz 0 (some (.ow ds) :: r)=some (.fz (.lst ds)) :: r:=rfl
theorem frzs(i:Nat)(x:Option B)(r:Rho): frz (i+1) (x :: r)=x :: frz i r:=by
 unfold frz;rw [g2x];cases h:r[i]? with
 | none=>rfl
 | some y=>
  cases y with
  | none=>rfl
  | some z=>cases z <;> rfl
theorem vz(a b:Int)(h : -(2 ^ 64)<b/\b<2 ^ 64): zq (.int a) (.int b)=some (.int (a*b)):=by
 have h2:(decide (-(2 ^ 64)<b)&&decide (b<2 ^ 64))=true:=by rw [nk h.1,nk h.2];rfl
 show(if((decide (-(2 ^ 64)<a)&&decide (a<2 ^ 64)) || (decide (-(2 ^ 64)<b)&&decide (b<2 ^ 64)))=true then some (D.int (a*b)) else none).or _=_;rw [h2,Bool.or_true,mq rfl,g5k]
theorem qel(a b:Int)(h : -(2 ^ 64)<a/\a<2 ^ 64): zq (.int a) (.int b)=some (.int (a*b)):=by
 have h2:(decide (-(2 ^ 64)<a)&&decide (a<2 ^ 64))=true:=by rw [nk h.1,nk h.2];rfl
 show(if((decide (-(2 ^ 64)<a)&&decide (a<2 ^ 64)) || (decide (-(2 ^ 64)<b)&&decide (b<2 ^ 64)))=true then some (D.int (a*b)) else none).or _=_;rw [h2,Bool.true_or,mq rfl,g5k]
theorem quy(ds:List D)(i:Int): oIx (.lst ds) (.int i)=atI ds i:=rfl
theorem qsh(ds:List D)(i:Int): oIx (.tup ds) (.int i)=atI ds i:=rfl
theorem qpp{α : Type}(xs:List α)(n:Nat): atI xs (no_index (OfNat.ofNat n:Int))=xs[n]? :=by
 show atI xs (n:Int)=xs[n]?;rw [q9z (show(0:Int)<=(n:Int) by omega)]
 rfl
theorem qmq{α : Type}(xs:List α)(n:Nat): atI xs (n:Int)=xs[n]? :=by
 rw [q9z (show(0:Int)<=(n:Int) by omega)]
 rfl
theorem qpq(ds:List D): q8h [.lst ds]=some ds:=rfl
theorem qpr(ds:List D): q8h [.tup ds]=some ds:=rfl
theorem w9(ds:List D): vc [.lst ds]=some (.tup ds):=rfl
theorem qmr(ds:List D): vc [.tup ds]=some (.tup ds):=rfl
theorem q2c(ds:List D)(r:Rho): q7h 0 (some (.ow ds) :: r)=some ds:=rfl
theorem q2d(i:Nat)(x:Option B)(r:Rho): q7h (i+1) (x :: r)=q7h i r:=rfl
theorem z8{n:Nat}{u:FS}{ds:List D}{d:D}(h:(u (ds.map (fun d=>some (.fz d))++List.replicate (n-ds.length) none)).map Prod.fst=some (.rt d)): z7 n u ds=some d:=by
 cases e:u (ds.map (fun d=>some (.fz d))++List.replicate (n-ds.length) none) with
 | none=>rw [e] at h;cases h
 | some p=>
  obtain⟨fl, ρ'⟩:=p;rw [e] at h;have h':fl=.rt d:=by simpa using h
  subst h';exact qsg e
theorem qsi:qcf [.bl true]=some (.int 1):=rfl
theorem qsj:qcf [.bl false]=some (.int 0):=rfl
theorem qps:za .int .non=false/\(∀b:Bool,za .int (.bl b)=true)/\(∀i:Int,za .int (.int i)=true)/\(∀x:Str,za .int (.str x)=false)/\(∀ds:List D,za .int (.tup ds)=false)/\(∀ds:List D,za .int (.lst ds)=false)/\(∀(ks:List Key) (vs:List D),za .int (.dct ks vs)=false)/\(∀(ks:List (List Int)) (vs:List D),za .int (.dtt ks vs)=false)/\za .bool .non=false/\(∀b:Bool,za .bool (.bl b)=true)/\(∀i:Int,za .bool (.int i)=false)/\(∀x:Str,za .bool (.str x)=false)/\(∀ds:List D,za .bool (.tup ds)=false)/\(∀ds:List D,za .bool (.lst ds)=false)/\(∀(ks:List Key) (vs:List D),za .bool (.dct ks vs)=false)/\(∀(ks:List (List Int)) (vs:List D),za .bool (.dtt ks vs)=false)/\za .tuple .non=false/\(∀b:Bool,za .tuple (.bl b)=false)/\(∀i:Int,za .tuple (.int i)=false)/\(∀x:Str,za .tuple (.str x)=false)/\(∀ds:List D,za .tuple (.tup ds)=true)/\(∀ds:List D,za .tuple (.lst ds)=false)/\(∀(ks:List Key) (vs:List D),za .tuple (.dct ks vs)=false)/\(∀(ks:List (List Int)) (vs:List D),za .tuple (.dtt ks vs)=false)/\za .list .non=false/\(∀b:Bool,za .list (.bl b)=false)/\(∀i:Int,za .list (.int i)=false)/\(∀x:Str,za .list (.str x)=false)/\(∀ds:List D,za .list (.tup ds)=false)/\(∀ds:List D,za .list (.lst ds)=true)/\(∀(ks:List Key) (vs:List D),za .list (.dct ks vs)=false)/\(∀(ks:List (List Int)) (vs:List D),za .list (.dtt ks vs)=false)/\za .str .non=false/\(∀b:Bool,za .str (.bl b)=false)/\(∀i:Int,za .str (.int i)=false)/\(∀x:Str,za .str (.str x)=true)/\(∀ds:List D,za .str (.tup ds)=false)/\(∀ds:List D,za .str (.lst ds)=false)/\(∀(ks:List Key) (vs:List D),za .str (.dct ks vs)=false)/\(∀(ks:List (List Int)) (vs:List D),za .str (.dtt ks vs)=false)/\za .dict .non=false/\(∀b:Bool,za .dict (.bl b)=false)/\(∀i:Int,za .dict (.int i)=false)/\(∀x:Str,za .dict (.str x)=false)/\(∀ds:List D,za .dict (.tup ds)=false)/\(∀ds:List D,za .dict (.lst ds)=false)/\(∀(ks:List Key) (vs:List D),za .dict (.dct ks vs)=true)/\(∀(ks:List (List Int)) (vs:List D),za .dict (.dtt ks vs)=true):=by
 refine⟨?_,?_,?_,?_,?_,?_,?_,?_,?_,?_,?_,?_,?_,?_,?_,?_,?_,?_,?_,?_,?_,?_,?_,?_,?_,?_,?_,?_,?_,?_,?_,?_,?_,?_,?_,?_,?_,?_,?_,?_,?_,?_,?_,?_,?_,?_,?_,?_⟩ <;> intros <;> rfl
end DL
namespace My
open PySem PySem.Spec PyProof.Rows L2 DL
local macro_rules | `(tactic| walk_at "A")=> `(tactic| ((refine qfe (hs:=?hs) ?a ?_);(case hs=>exact q6j rfl)))
local macro_rules | `(tactic| walk_at "L")=> `(tactic| first|exact .inl rfl|exact .inr rfl|assumption)
def top(i:Nat): Stmt:=PySem.Challenge.pw_oftentogether_k53_whole_kinds.main.body.getD i (.Pass ⟨0,0,0,0⟩)
def qsk(i j:Nat): Stmt:=match top i with | .ClassDef _ _ _ body _ _ _ _ _ _ _=>body.getD j (.Pass ⟨0,0,0,0⟩)|x=>x
section
variable[Lam]{P:Program}{w:World}{K:Frag}{mg:Str->Option Value}{base:Heap}
abbrev kf:Stmt:=top 35
noncomputable def q3k:List Str:=["_law_number_here","_law_wares","_law_above_here","_law_ware","_law_step"]
theorem wa:(q3k).Nodup:=by decide +kernel
theorem qdj:FnScope q3k ["_law_number_here","_law_wares"] (qc kf):=⟨rfl,rfl,rfl,wa,rfl,by decide +kernel,by decide +kernel⟩
noncomputable def lb_law_above_1:FS:=(qz (zp 4 (eOp oMod (eV 0) (eOp oSub (eV 1) (eV 3)))) (qz (zp 0 (eOp oDivB (eV 0) (eOp oSub (eV 1) (eV 3)))) (wz 2 (eOp oIx (eL (yu (qa (eC .non) (qa (eOp zd (eV 3) (eV 4)) qe)))) (qf qcf (qa (eOp oGt (eV 4) (eC (.int 0))) qe))))))
noncomputable def q05:FS:=(qz (q0e 2 (yu qe)) (qz (xm (iR1 (qa (eV 1) qe)) (bN 3) lb_law_above_1) (q0f 2 (zb (qf vc (qa (eV 2) qe))))))
noncomputable def q06:List D->Option D:=z7 5 q05
theorem q5v{fa:Addr}{cdv:Value}{A:Around}{outer:List Env}{s:Shared}{H:Hp}{E:XK}(n_range:mg "range" = none)(n_tuple:mg "tuple" = none)(n_int:mg "int" = none)(hr:Room 0 (A.deeper (envOfC "_law_above" (qc kf) s.heap.objs.size fa cdv))):
  PSs (zg CX0 P w K mg base q3k "_law_above" (qc kf) fa cdv A outer s H E).nox (qp kf) (tDS K q05):=by
 unfold q05 lb_law_above_1;refine(qh ?_ ?_);exact(q1l (i:=2) wa rfl (Or.inl rfl) (vb qd));refine(qh ?_ ?_);refine(k6 uf rfl ?_ (qu wa rfl (Or.inl rfl) (.inl rfl)) (qh ?_ ?_));refine(q0o rfl n_range ?_);walk_at "A";exact(q0 (pv 1));exact qd;refine(z9 (i:=4) ?_ ?_ ?_ ?_ ?_ ?_);exact wa;exact rfl;exact(Or.inl rfl);refine(qm j9 ?_ ?_);exact(q0 (pv 0));refine(qm q3v ?_ ?_);exact(q0 (pv 1));exact(q0 (pv 3));exact rfl;walk_at "L";refine(qh ?_ ?_);refine(z9 (i:=0) ?_ ?_ ?_ ?_ ?_ ?_);exact wa;exact rfl;exact(Or.inl rfl);refine(qm qpk ?_ ?_);exact(q0 (pv 0));refine(qm q3v ?_ ?_);exact(q0 (pv 1));exact(q0 (pv 3));exact rfl;walk_at "L";refine(qj ?_);refine(q2n (pv 2) ?_);refine(vx ?_ ?_);refine(ju ?_);refine(vb ?_);walk_at "A";exact q5g;walk_at "A";refine(qm j5 ?_ ?_);exact(q0 (pv 3));exact(q0 (pv 4));exact qd;refine(ja (qrj) rfl n_int DL.boot_int ?_);walk_at "A";refine(q5i qtf ?_ qg);exact(q0 (pv 4));exact qd;refine(yl 2 (qj ?_));refine(z0 ?_);refine(ja (vd) rfl n_tuple DL.boot_tuple ?_);walk_at "A";exact(q0 (pv 2));exact qd
theorem qdk{fa:Addr}{dV:Value}{fd:FuncData}(F:Fun2 K "_law_above" "_law_above" kf dV fa fd)(n_range:mg "range" = none)(n_tuple:mg "tuple" = none)(n_int:mg "int" = none): FnOk P w K mg base CX0 1 fa fd ["_law_number_here","_law_wares"] (spD K 2 q06):=
 F.okn (k:=0) (n:=5) (ar:=2) (k1:=1) (u:=q05) qdj rfl rfl rfl fun cdv A outer s H E hr=>(by first|(with_reducible exact q5v n_range n_tuple n_int hr)|exact q5v n_range n_tuple n_int hr)
abbrev kg:Stmt:=top 32
noncomputable def q3l:List Str:=["_law_cell_here","_law_k","_law_first","_law_second"]
theorem q2r:(q3l).Nodup:=by decide +kernel
theorem qdl:FnScope q3l ["_law_cell_here","_law_k"] (qc kg):=⟨rfl,rfl,rfl,q2r,rfl,by decide +kernel,by decide +kernel⟩
noncomputable def kh:FS:=(qz (zp 2 (eOp oMod (eOp zd (eOp zd (eOp zq (eOp oMod (eV 0) (eC (.int 2147483629))) (eC (.int 48271))) (eOp zq (eOp zq (eV 1) (eV 1)) (eC (.int 7919)))) (eC (.int 104729))) (eC (.int 2147483647)))) (qz (zp 3 (eOp oMod (eOp zq (eV 2) (eV 2)) (eC (.int 2147483629)))) (zb (eOp oMod (eOp zq (eOp oMod (eOp zd (eOp zd (eOp zq (eV 3) (eC (.int 69621))) (eOp zq (eV 1) (eC (.int 40692)))) (eC (.int 7))) (eC (.int 2147483587))) (eV 3)) (eC (.int 2147483579))))))
noncomputable def zj:List D->Option D:=z7 4 kh
theorem q5w{fa:Addr}{cdv:Value}{A:Around}{outer:List Env}{s:Shared}{H:Hp}{E:XK}(hr:Room 0 (A.deeper (envOfC "_law_mixed" (qc kg) s.heap.objs.size fa cdv))):
  PSs (zg CX0 P w K mg base q3l "_law_mixed" (qc kg) fa cdv A outer s H E).nox (qp kg) (tDS K kh):=by
 unfold kh;refine(qh ?_ ?_);refine(z9 (i:=2) ?_ ?_ ?_ ?_ ?_ ?_);exact q2r;exact rfl;exact(Or.inl rfl);refine(qm j9 ?_ qg);refine(qm j5 ?_ qg);refine(qm j5 ?_ ?_);refine(qm xn ?_ qg);refine(qm j9 ?_ qg);exact(q0 (pv 0));refine(qm xn ?_ qg);refine(qm xn ?_ ?_);exact(q0 (pv 1));exact(q0 (pv 1));exact rfl;walk_at "L";refine(qh ?_ ?_);refine(z9 (i:=3) ?_ ?_ ?_ ?_ ?_ ?_);exact q2r;exact rfl;exact(Or.inl rfl);refine(qm j9 ?_ qg);refine(qm xn ?_ ?_);exact(q0 (pv 2));exact(q0 (pv 2));exact rfl;walk_at "L";refine(qj ?_);refine(z0 ?_);refine(qm j9 ?_ qg);refine(qm xn ?_ ?_);refine(qm j9 ?_ qg);refine(qm j5 ?_ qg);refine(qm j5 ?_ ?_);refine(qm xn ?_ qg);exact(q0 (pv 3));refine(qm xn ?_ qg);exact(q0 (pv 1));exact(q0 (pv 3))
theorem qdm{fa:Addr}{dV:Value}{fd:FuncData}(F:Fun2 K "_law_mixed" "_law_mixed" kg dV fa fd): FnOk P w K mg base CX0 1 fa fd ["_law_cell_here","_law_k"] (spD K 2 zj):=
 F.okn (k:=0) (n:=4) (ar:=2) (k1:=1) (u:=kh) qdl rfl rfl rfl fun cdv A outer s H E hr=>(by first|(with_reducible exact q5w  hr)|exact q5w  hr)
abbrev q0q:Stmt:=top 36
noncomputable def q5x:List Str:=["_law_mark","_law_wares","_law_found","_law_ware"]
theorem q2e:(q5x).Nodup:=by decide +kernel
theorem qh4:FnScope q5x ["_law_mark","_law_wares"] (qc q0q):=⟨rfl,rfl,rfl,q2e,rfl,by decide +kernel,by decide +kernel⟩
noncomputable def ve:FS:=(qz (sIf (zy oEq (eOp oMod (eV 0) (eC (.int 2))) (eC (.int 1))) (wz 2 (eV 3)) yk) (zp 0 (eOp oDiv (eV 0) (eC (.int 2)))))
noncomputable def q1s:FS:=(qz (q0e 2 (yu qe)) (qz (xm (iR1 (qa (eV 1) qe)) (bN 3) ve) (q0f 2 (zb (qf vc (qa (eV 2) qe))))))
noncomputable def y4:List D->Option D:=z7 4 q1s
theorem q8y{fa:Addr}{cdv:Value}{A:Around}{outer:List Env}{s:Shared}{H:Hp}{E:XK}(n_range:mg "range" = none)(n_tuple:mg "tuple" = none)(hr:Room 0 (A.deeper (envOfC "_law_set" (qc q0q) s.heap.objs.size fa cdv))):
  PSs (zg CX0 P w K mg base q5x "_law_set" (qc q0q) fa cdv A outer s H E).nox (qp q0q) (tDS K q1s):=by
 unfold q1s ve;refine(qh ?_ ?_);exact(q1l (i:=2) q2e rfl (Or.inl rfl) (vb qd));refine(qh ?_ ?_);refine(k6 uf rfl ?_ (qu q2e rfl (Or.inl rfl) (.inl rfl)) (qh ?_ ?_));refine(q0o rfl n_range ?_);walk_at "A";exact(q0 (pv 1));exact qd;refine(vw ?_ (qj ?_) x9);refine(jq (q28 hr.units) ?_ qg);refine(qm j9 ?_ qg);exact(q0 (pv 0));refine(q2n (pv 2) ?_);exact(q0 (pv 3));refine(qj ?_);refine(z9 (i:=0) ?_ ?_ ?_ ?_ ?_ ?_);exact q2e;exact rfl;exact(Or.inl rfl);refine(qm q3w ?_ qg);exact(q0 (pv 0));exact rfl;walk_at "L";refine(yl 2 (qj ?_));refine(z0 ?_);refine(ja (vd) rfl n_tuple DL.boot_tuple ?_);walk_at "A";exact(q0 (pv 2));exact qd
theorem qh5{fa:Addr}{dV:Value}{fd:FuncData}(F:Fun2 K "_law_set" "_law_set" q0q dV fa fd)(n_range:mg "range" = none)(n_tuple:mg "tuple" = none): FnOk P w K mg base CX0 1 fa fd ["_law_mark","_law_wares"] (spD K 2 y4):=
 F.okn (k:=0) (n:=4) (ar:=2) (k1:=1) (u:=q1s) qh4 rfl rfl rfl fun cdv A outer s H E hr=>(by first|(with_reducible exact q8y n_range n_tuple hr)|exact q8y n_range n_tuple hr)
abbrev zr:Stmt:=top 41
noncomputable def q19:List Str:=["_law_wares","_law_many"]
theorem q3b:(q19).Nodup:=by decide +kernel
theorem q8z:FnScope q19 ["_law_wares"] (qc zr):=⟨rfl,rfl,rfl,q3b,rfl,by decide +kernel,by decide +kernel⟩
theorem q6u:(["_law_mark","_law_wares"]:List Str).Nodup:=by decide +kernel
noncomputable def q1t:List D->Option D:=z7 1 (zb (j7 (qa (qf ko (qa (eV 0) qe)) (qa (eV 0) qe))))
noncomputable def wg:FS:=(qz (zp 1 (eOp oIx (eL (yu (qa (eC (.int 1)) (qa (eC (.int 2)) (qa (eC (.int 4)) (qa (eC (.int 8)) (qa (eC (.int 16)) (qa (eC (.int 32)) qe)))))))) (eV 0))) (zb (eL (q6l (q9v q1t) (qa (eL (z6 (iR1 (qa (eV 1) qe)) [none,some 0] (bN 0) zc (qf (qo 2 [] y4) (qa (eV 0) (qa (eV 1) qe))))) qe)))))
noncomputable def yn:List D->Option D:=z7 2 wg
theorem q3c{fa:Addr}{A:Around}{outer:List Env}{s:Shared}{H:Hp}{E:XK}{a__law_set:Addr}{fd__law_set:FuncData}(c_22:Cal P w K mg base "_law_set" 1 ["_law_mark","_law_wares"] 2 y4 a__law_set fd__law_set)(b_22:Binds K fd__law_set ["_law_mark","_law_wares"] [])(n_sorted:mg "sorted" = none)(n_range:mg "range" = none)(n_len:mg "len" = none){cL TL:Addr}{dV':Value}{fd':FuncData}(F_L:Fun3 K "_law_all_sets" "_law_all_sets" zr dV' fa fd' cL TL)(hP_L:(TL,("_law_all_sets.<locals>.<lambda>" : Str))∈Lam.tab)(hU_L:∀p∈Lam.tab,p.1=TL->p.2="_law_all_sets.<locals>.<lambda>")(B_L:q2b mg base)(hr:Room 3 (A.deeper (envOfC "_law_all_sets" (qc zr) s.heap.objs.size fa (.ref cL)))):
  PSs (zg CX0 P w K mg base q19 "_law_all_sets" (qc zr) fa (.ref cL) A outer s H E).nox (qp zr) (tDS K wg):=by
 unfold wg q1t;refine(qh ?_ ?_);refine(z9 (i:=1) ?_ ?_ ?_ ?_ ?_ ?_);exact q3b;exact rfl;exact(Or.inl rfl);refine(vx ?_ ?_);refine(ju ?_);refine(vb ?_);walk_at "A";exact qg;walk_at "A";exact qg;walk_at "A";exact qg;walk_at "A";exact qg;walk_at "A";exact qg;walk_at "A";exact qg;exact qd;exact(q0 (pv 0));exact rfl;walk_at "L";refine(qj ?_);refine(z0 ?_);refine(ju ?_);refine(qm1 (N:=["_law_some"]) (ps:=["_law_some"]) (k:=0) (u:=(j7 (qa (qf ko (qa (eV 0) qe)) (qa (eV 0) qe)))) rfl F_L.hd hP_L hU_L B_L hr rfl n_sorted ?_ ⟨rfl,rfl,rfl,by decide,rfl,by decide +kernel,by decide +kernel⟩ (fun _ _ _ _ _ _ _ hr=>?_) (fun _ _ _ us hl=>match us,hl with | [_],_=>rfl) (by decide) rfl);walk_at "A";refine(ju ?_);refine(jl (N':=["_law_mark","_law_wares"]) (cap:=[none,some 0]) rfl (zm rfl rfl) (j4 rfl) ?_ (fun _ _ _ _ _=>(qu q6u rfl (Or.inl rfl) (.inr rfl))) (fun _ _ _ _ _=>ym) (fun _ _ _ _ _=>?_));refine(q0o rfl n_range ?_);walk_at "A";exact(q0 (pv 1));exact qd;refine(qq c_22 b_22 hr (by decide) rfl ?_);walk_at "A";exact(q0 (pv 0));walk_at "A";exact(q0 (pv 1));exact qd;exact qd;refine(jz ?_);walk_at "A";refine(zi (q04) rfl n_len DL.xu ?_);walk_at "A";exact(q0 (pv 0));exact qd;walk_at "A";exact(q0 (pv 0));exact qd
theorem q90{fa:Addr}{a__law_set:Addr}{fd__law_set:FuncData}(c_22:Cal P w K mg base "_law_set" 1 ["_law_mark","_law_wares"] 2 y4 a__law_set fd__law_set)(b_22:Binds K fd__law_set ["_law_mark","_law_wares"] [])(n_sorted:mg "sorted" = none)(n_range:mg "range" = none)(n_len:mg "len" = none){cL TL:Addr}{dV':Value}{fd':FuncData}(F_L:Fun3 K "_law_all_sets" "_law_all_sets" zr dV' fa fd' cL TL)(hP_L:(TL,("_law_all_sets.<locals>.<lambda>" : Str))∈Lam.tab)(hU_L:∀p∈Lam.tab,p.1=TL->p.2="_law_all_sets.<locals>.<lambda>")(B_L:q2b mg base): FnOk P w K mg base CX0 4 fa fd' ["_law_wares"] (spD K 1 yn):=
 F_L.okn (k:=3) (n:=2) (ar:=1) (k1:=4) (u:=wg) q8z rfl rfl rfl fun A outer s H E hr=>(by first|(with_reducible exact q3c c_22 b_22 n_sorted n_range n_len F_L hP_L hU_L B_L hr)|exact q3c c_22 b_22 n_sorted n_range n_len F_L hP_L hU_L B_L hr)
abbrev wj:Stmt:=top 37
noncomputable def q4v:List Str:=["_law_above_here","_law_ware","_law_found","_law_other"]
theorem q1e:(q4v).Nodup:=by decide +kernel
theorem qem:FnScope q4v ["_law_above_here","_law_ware"] (qc wj):=⟨rfl,rfl,rfl,q1e,rfl,by decide +kernel,by decide +kernel⟩
noncomputable def xo:FS:=(sIf (zy oEq (eOp oIx (eV 0) (eV 1)) (eV 3)) (qz (wz 2 (eV 3)) (zp 1 (eV 3))) yk)
noncomputable def q0y:FS:=(qz (q0e 2 (yu qe)) (qz (xm (iR1 (qa (qf ko (qa (eV 0) qe)) qe)) (bN 3) xo) (q0f 2 (zb (eV 2)))))
noncomputable def y8:List D->Option D:=z7 4 q0y
theorem q74{fa:Addr}{cdv:Value}{A:Around}{outer:List Env}{s:Shared}{H:Hp}{E:XK}(n_range:mg "range" = none)(n_len:mg "len" = none)(hr:Room 0 (A.deeper (envOfC "_law_over" (qc wj) s.heap.objs.size fa cdv))):
  PSs (zg CX0 P w K mg base q4v "_law_over" (qc wj) fa cdv A outer s H E).nox (qp wj) (tDS K q0y):=by
 unfold q0y xo;refine(qh ?_ ?_);exact(q1l (i:=2) q1e rfl (Or.inl rfl) (vb qd));refine(qh ?_ ?_);refine(k6 uf rfl ?_ (qu q1e rfl (Or.inl rfl) (.inl rfl)) (qj ?_));refine(q0o rfl n_range ?_);walk_at "A";refine(zi (q04) rfl n_len DL.xu ?_);walk_at "A";exact(q0 (pv 0));exact qd;exact qd;refine(vw ?_ (qh ?_ ?_) x9);refine(jq (q28 hr.units) ?_ ?_);refine(vx ?_ ?_);exact(q0 (pv 0));exact(q0 (pv 1));exact(q0 (pv 3));refine(q2n (pv 2) ?_);exact(q0 (pv 3));refine(qj ?_);refine(z9 (i:=1) ?_ ?_ ?_ ?_ ?_ ?_);exact q1e;exact rfl;exact(Or.inl rfl);exact(q0 (pv 3));exact rfl;walk_at "L";refine(yl 2 (qj ?_));refine(z0 ?_);exact(q0 (pv 2))
theorem qen{fa:Addr}{dV:Value}{fd:FuncData}(F:Fun2 K "_law_over" "_law_over" wj dV fa fd)(n_range:mg "range" = none)(n_len:mg "len" = none): FnOk P w K mg base CX0 1 fa fd ["_law_above_here","_law_ware"] (spD K 2 y8):=
 F.okn (k:=0) (n:=4) (ar:=2) (k1:=1) (u:=q0y) qem rfl rfl rfl fun cdv A outer s H E hr=>(by first|(with_reducible exact q74 n_range n_len hr)|exact q74 n_range n_len hr)
abbrev vp:Stmt:=top 40
noncomputable def q21:List Str:=["_law_above_here","_law_some","_law_ware"]
theorem q43:(q21).Nodup:=by decide +kernel
theorem qa0:FnScope q21 ["_law_above_here","_law_some"] (qc vp):=⟨rfl,rfl,rfl,q43,rfl,by decide +kernel,by decide +kernel⟩
theorem q7q:(["_law_other","_law_some"]:List Str).Nodup:=by decide +kernel
noncomputable def j8:FS:=(sIf (zy qmg (eL (z6 (jo (qf (qo 2 [] y8) (qa (eV 0) (qa (eV 2) qe)))) [none,some 1] (bN 0) (zy (oIn false) (eV 0) (eV 1)) (eV 0))) (eL (yu qe))) (zb (eC (.bl false))) yk)
noncomputable def vq:FS:=(qz (xm (jo (eV 1)) (bN 2) j8) (zb (eC (.bl true))))
noncomputable def k7:List D->Option D:=z7 3 vq
theorem q44{fa:Addr}{cdv:Value}{A:Around}{outer:List Env}{s:Shared}{H:Hp}{E:XK}{a__law_over:Addr}{fd__law_over:FuncData}(c_20:Cal P w K mg base "_law_over" 1 ["_law_above_here","_law_ware"] 2 y8 a__law_over fd__law_over)(b_20:Binds K fd__law_over ["_law_above_here","_law_ware"] [])(hr:Room 1 (A.deeper (envOfC "_law_is_lean" (qc vp) s.heap.objs.size fa cdv))):
  PSs (zg CX0 P w K mg base q21 "_law_is_lean" (qc vp) fa cdv A outer s H E).nox (qp vp) (tDS K vq):=by
 unfold vq j8;refine(qh ?_ ?_);refine(k6 uf rfl ?_ (qu q43 rfl (Or.inl rfl) (.inl rfl)) (qj ?_));refine(j0 ?_);exact(q0 (pv 1));refine(vw ?_ (qj ?_) x9);refine(jq (qsb hr.units) ?_ ?_);refine(ju ?_);refine(jl (N':=["_law_other","_law_some"]) (cap:=[none,some 1]) rfl (zm rfl rfl) (j4 rfl) ?_ (fun _ _ _ _ _=>(qu q7q rfl (Or.inl rfl) (.inr rfl))) (fun _ _ _ _ _=>(q2o ?_)) (fun _ _ _ _ _=>?_));refine(j0 ?_);refine(qq c_20 b_20 hr (by decide) rfl ?_);walk_at "A";exact(q0 (pv 0));walk_at "A";exact(q0 (pv 2));exact qd;refine(jq qtn ?_ ?_);exact(q0 (pv 0));exact(q0 (pv 1));exact(q0 (pv 0));refine(ju ?_);exact(vb qd);exact(z0 q26);refine(qj ?_);exact(z0 q26)
theorem qa1{fa:Addr}{dV:Value}{fd:FuncData}(F:Fun2 K "_law_is_lean" "_law_is_lean" vp dV fa fd){a__law_over:Addr}{fd__law_over:FuncData}(c_20:Cal P w K mg base "_law_over" 1 ["_law_above_here","_law_ware"] 2 y8 a__law_over fd__law_over)(b_20:Binds K fd__law_over ["_law_above_here","_law_ware"] []): FnOk P w K mg base CX0 2 fa fd ["_law_above_here","_law_some"] (spD K 2 k7):=
 F.okn (k:=1) (n:=3) (ar:=2) (k1:=2) (u:=vq) qa0 rfl rfl rfl fun cdv A outer s H E hr=>(by first|(with_reducible exact q44 c_20 b_20 hr)|exact q44 c_20 b_20 hr)
abbrev ki:Stmt:=top 39
noncomputable def q3m:List Str:=["_law_runs","_law_some"]
theorem qdn:(q3m).Nodup:=by decide +kernel
theorem qdo:FnScope q3m ["_law_runs","_law_some"] (qc ki):=⟨rfl,rfl,rfl,qdn,rfl,by decide +kernel,by decide +kernel⟩
theorem q45:(["_law_many","_law_basket","_law_some"]:List Str).Nodup:=by decide +kernel
theorem qa2:(["_law_ware","_law_basket"]:List Str).Nodup:=by decide +kernel
noncomputable def q07:FS:=(zb (qf q9j (qa (eL (z6 (jo (eV 0)) [none,none,some 1] (yh 2 (zh (bN 0) (zh (bN 1) yg))) (zy oEq (eL (z6 (jo (eV 2)) [none,some 1] (bN 0) (zy (oIn true) (eV 0) (eV 1)) (eV 0))) (eL (yu qe))) (eV 0))) qe)))
noncomputable def xw:List D->Option D:=z7 2 q07
theorem q5y{fa:Addr}{cdv:Value}{A:Around}{outer:List Env}{s:Shared}{H:Hp}{E:XK}(n_sum:mg "sum" = none)(hr:Room 0 (A.deeper (envOfC "_law_count" (qc ki) s.heap.objs.size fa cdv))):
  PSs (zg CX0 P w K mg base q3m "_law_count" (qc ki) fa cdv A outer s H E).nox (qp ki) (tDS K q07):=by
 unfold q07;refine(qj ?_);refine(z0 ?_);refine(zi (qcd rfl) rfl n_sum DL.boot_sum ?_);walk_at "A";refine(ju ?_);refine(qmh (N':=["_law_many","_law_basket","_law_some"]) (cap:=[none,none,some 1]) rfl (qjm rfl rfl) (w8 (zl rfl (zl rfl yw))) ?_ (fun _ _ _ _ _=>(q1n rfl (jk (qu q45 rfl (Or.inl rfl) (.inr rfl)) (jk (qu q45 rfl (Or.inr rfl) (.inl rfl)) q1m)))) (fun _ _ _ _ _=>(q2o ?_)) (fun _ _ _ _ _=>?_));refine(j0 ?_);exact(q0 (pv 0));refine(jq (q28 hr.units) ?_ ?_);refine(ju ?_);refine(jl (N':=["_law_ware","_law_basket"]) (cap:=[none,some 1]) rfl (zm rfl rfl) (j4 rfl) ?_ (fun _ _ _ _ _=>(qu qa2 rfl (Or.inl rfl) (.inr rfl))) (fun _ _ _ _ _=>(q2o ?_)) (fun _ _ _ _ _=>?_));refine(j0 ?_);exact(q0 (pv 2));refine(jq qcj ?_ ?_);exact(q0 (pv 0));exact(q0 (pv 1));exact(q0 (pv 0));refine(ju ?_);exact(vb qd);exact(q0 (pv 0));exact qd
theorem qdp{fa:Addr}{dV:Value}{fd:FuncData}(F:Fun2 K "_law_count" "_law_count" ki dV fa fd)(n_sum:mg "sum" = none): FnOk P w K mg base CX0 1 fa fd ["_law_runs","_law_some"] (spD K 2 xw):=
 F.okn (k:=0) (n:=2) (ar:=2) (k1:=1) (u:=q07) qdo rfl rfl rfl fun cdv A outer s H E hr=>(by first|(with_reducible exact q5y n_sum hr)|exact q5y n_sum hr)
abbrev q0r:Stmt:=top 43
noncomputable def q5z:List Str:=["_law_runs","_law_above_here","_law_least","_law_due_here","_law_some","_law_told"]
theorem q2f:(q5z).Nodup:=by decide +kernel
theorem qh6:FnScope q5z ["_law_runs","_law_above_here","_law_least"] (qc q0r):=⟨rfl,rfl,rfl,q2f,rfl,by decide +kernel,by decide +kernel⟩
noncomputable def jh:FS:=(sIf (bT (qf (qo 2 [] k7) (qa (eV 1) (qa (eV 4) qe)))) (qz (zp 5 (qf (qo 2 [] xw) (qa (eV 0) (qa (eV 4) qe)))) (sIf (zy oGe (eV 5) (eV 2)) (wz 3 (j7 (qa (eV 4) (qa (eV 5) qe)))) yk)) yk)
noncomputable def q1u:FS:=(qz (q0e 3 (yu qe)) (qz (xm (jo (qf (qo 1 [] yn) (qa (qf ko (qa (eV 1) qe)) qe))) (bN 4) jh) (q0f 3 (zb (qf vc (qa (eV 3) qe))))))
noncomputable def wb:List D->Option D:=z7 6 q1u
theorem q91{fa:Addr}{cdv:Value}{A:Around}{outer:List Env}{s:Shared}{H:Hp}{E:XK}{a__law_all_sets:Addr}{fd__law_all_sets:FuncData}(c_11:Cal P w K mg base "_law_all_sets" 4 ["_law_wares"] 1 yn a__law_all_sets fd__law_all_sets)(b_11:Binds K fd__law_all_sets ["_law_wares"] []){a__law_is_lean:Addr}{fd__law_is_lean:FuncData}(c_15:Cal P w K mg base "_law_is_lean" 2 ["_law_above_here","_law_some"] 2 k7 a__law_is_lean fd__law_is_lean)(b_15:Binds K fd__law_is_lean ["_law_above_here","_law_some"] []){a__law_count:Addr}{fd__law_count:FuncData}(c_13:Cal P w K mg base "_law_count" 1 ["_law_runs","_law_some"] 2 xw a__law_count fd__law_count)(b_13:Binds K fd__law_count ["_law_runs","_law_some"] [])(n_tuple:mg "tuple" = none)(n_len:mg "len" = none)(hr:Room 4 (A.deeper (envOfC "_law_due" (qc q0r) s.heap.objs.size fa cdv))):
  PSs (zg CX0 P w K mg base q5z "_law_due" (qc q0r) fa cdv A outer s H E).nox (qp q0r) (tDS K q1u):=by
 unfold q1u jh;refine(qh ?_ ?_);exact(q1l (i:=3) q2f rfl (Or.inl rfl) (vb qd));refine(qh ?_ ?_);refine(k6 uf rfl ?_ (qu q2f rfl (Or.inl rfl) (.inl rfl)) (qj ?_));refine(j0 ?_);refine(qq c_11 b_11 hr (by decide) rfl ?_);walk_at "A";refine(zi (q04) rfl n_len DL.xu ?_);walk_at "A";exact(q0 (pv 1));exact qd;exact qd;refine(vw ?_ (qh ?_ ?_) x9);refine(ky ?_);refine(qq c_15 b_15 hr (by decide) rfl ?_);walk_at "A";exact(q0 (pv 1));walk_at "A";exact(q0 (pv 4));exact qd;refine(z9 (i:=5) ?_ ?_ ?_ ?_ ?_ ?_);exact q2f;exact rfl;exact(Or.inl rfl);refine(qq c_13 b_13 hr (by decide) rfl ?_);walk_at "A";exact(q0 (pv 0));walk_at "A";exact(q0 (pv 4));exact qd;exact rfl;walk_at "L";refine(qj ?_);refine(vw ?_ (qj ?_) x9);refine(jq qgj ?_ ?_);exact(q0 (pv 5));exact(q0 (pv 2));refine(q2n (pv 3) ?_);refine(jz ?_);walk_at "A";exact(q0 (pv 4));walk_at "A";exact(q0 (pv 5));exact qd;refine(yl 3 (qj ?_));refine(z0 ?_);refine(ja (vd) rfl n_tuple DL.boot_tuple ?_);walk_at "A";exact(q0 (pv 3));exact qd
theorem qh7{fa:Addr}{dV:Value}{fd:FuncData}(F:Fun2 K "_law_due" "_law_due" q0r dV fa fd){a__law_all_sets:Addr}{fd__law_all_sets:FuncData}(c_11:Cal P w K mg base "_law_all_sets" 4 ["_law_wares"] 1 yn a__law_all_sets fd__law_all_sets)(b_11:Binds K fd__law_all_sets ["_law_wares"] []){a__law_is_lean:Addr}{fd__law_is_lean:FuncData}(c_15:Cal P w K mg base "_law_is_lean" 2 ["_law_above_here","_law_some"] 2 k7 a__law_is_lean fd__law_is_lean)(b_15:Binds K fd__law_is_lean ["_law_above_here","_law_some"] []){a__law_count:Addr}{fd__law_count:FuncData}(c_13:Cal P w K mg base "_law_count" 1 ["_law_runs","_law_some"] 2 xw a__law_count fd__law_count)(b_13:Binds K fd__law_count ["_law_runs","_law_some"] [])(n_tuple:mg "tuple" = none)(n_len:mg "len" = none): FnOk P w K mg base CX0 5 fa fd ["_law_runs","_law_above_here","_law_least"] (spD K 3 wb):=
 F.okn (k:=4) (n:=6) (ar:=3) (k1:=5) (u:=q1u) qh6 rfl rfl rfl fun cdv A outer s H E hr=>(by first|(with_reducible exact q91 c_11 b_11 c_15 b_15 c_13 b_13 n_tuple n_len hr)|exact q91 c_11 b_11 c_15 b_15 c_13 b_13 n_tuple n_len hr)
abbrev wk:Stmt:=top 42
noncomputable def q4w:List Str:=["_law_found","_law_due_here","_law_one","_law_other"]
theorem q3n:(q4w).Nodup:=by decide +kernel
theorem qeo:FnScope q4w ["_law_found","_law_due_here"] (qc wk):=⟨rfl,rfl,rfl,q3n,rfl,by decide +kernel,by decide +kernel⟩
noncomputable def k8(rc:List D->Option D): FS:=(sIf (q5j (bT (qf (qo 2 [] rc) (qa (eV 2) (qa (eV 3) qe))))) (zb (eC (.bl false))) yk)
noncomputable def y9(rc:List D->Option D): FS:=(qz (sIf (bT (q4j .tuple (eV 1))) (qz (sIf (bOr (q5j (bT (q4j .tuple (eV 0)))) (zy q7f (qf ko (qa (eV 0) qe)) (qf ko (qa (eV 1) qe)))) (zb (eC (.bl false))) yk) (qz (xm (qlh (qa (eV 0) (qa (eV 1) qe))) (yh 2 (zh (bN 2) (zh (bN 3) yg))) (k8 rc)) (zb (eC (.bl true))))) yk) (zb (q7g (q4j .int (eV 0)) (q7g (qgk (q4j .bool (eV 0))) (eOp oEq (eV 0) (eV 1))))))
noncomputable def F_law_same(n:Nat): List D->Option D:=Nat.rec (fun _=>none) (fun _ rc=>z7 4 (y9 rc)) n
noncomputable def yx:List D->Option D:=F_law_same 16
theorem qep{fa:Addr}{cdv:Value}{A:Around}{outer:List Env}{s:Shared}{H:Hp}{E:XK}{rc:List D->Option D}{kr kk:Nat}(hkr:kr<=kk)(hk0:0<=kk){a__law_same:Addr}{fd__law_same:FuncData}(c_21:Cal P w K mg base "_law_same" kr ["_law_found","_law_due_here"] 2 rc a__law_same fd__law_same)(b_21:Binds K fd__law_same ["_law_found","_law_due_here"] [])(n_isinstance:mg "isinstance" = none)(n_tuple:mg "tuple" = none)(n_zip:mg "zip" = none)(n_int:mg "int" = none)(n_bool:mg "bool" = none)(n_len:mg "len" = none)(hr:Room kk (A.deeper (envOfC "_law_same" (qc wk) s.heap.objs.size fa cdv))):
  PSs (zg CX0 P w K mg base q4w "_law_same" (qc wk) fa cdv A outer s H E).nox (qp wk) (tDS K (y9 rc)):=by
 unfold y9 k8;refine(qh ?_ ?_);refine(vw ?_ (qh ?_ ?_) x9);refine(ky ?_);refine(q2p .tuple rfl n_isinstance rfl n_tuple DL.boot_tuple ?_);exact(q0 (pv 1));refine(vw ?_ (qj ?_) x9);refine(PW.pt (qnj ?_ (qih ?_)));refine(q3x ?_);refine(ky ?_);refine(q2p .tuple rfl n_isinstance rfl n_tuple DL.boot_tuple ?_);exact(q0 (pv 0));refine(jq qc7 ?_ ?_);refine(zi (q04) rfl n_len DL.xu ?_);walk_at "A";exact(q0 (pv 0));exact qd;refine(zi (q04) rfl n_len DL.xu ?_);walk_at "A";exact(q0 (pv 1));exact qd;exact(z0 q26);refine(qh ?_ ?_);refine(k6 uf rfl ?_ (q1n rfl (jk (qu q3n rfl (Or.inl rfl) (.inl rfl)) (jk (qu q3n rfl (Or.inl rfl) (.inl rfl)) q1m))) (qj ?_));refine(qrn rfl n_zip ?_);walk_at "A";exact(q0 (pv 0));walk_at "A";exact(q0 (pv 1));exact qd;refine(vw ?_ (qj ?_) x9);refine(q3x ?_);refine(ky ?_);refine(qq c_21 b_21 hr hkr rfl ?_);walk_at "A";exact(q0 (pv 2));walk_at "A";exact(q0 (pv 3));exact qd;exact(z0 q26);refine(qj ?_);exact(z0 q26);refine(qj ?_);refine(z0 ?_);refine(q5k ?_ (q5k ?_ (q8b ?_)));refine(q2p .int rfl n_isinstance rfl n_int DL.boot_int ?_);exact(q0 (pv 0));refine(qii ?_);refine(q2p .bool rfl n_isinstance rfl n_bool DL.boot_bool ?_);exact(q0 (pv 0));refine(q5i (q28 hr.units) ?_ ?_);exact(q0 (pv 0));exact(q0 (pv 1))
theorem qeq{fa:Addr}{dV:Value}{fd:FuncData}(F:Fun2 K "_law_same" "_law_same" wk dV fa fd)(mgf:mg "_law_same" = some (.ref fa))(kpf:PySem.W.keepIn K (.ref fa)=true)(b_21:Binds K fd ["_law_found","_law_due_here"] [])(n_isinstance:mg "isinstance" = none)(n_tuple:mg "tuple" = none)(n_zip:mg "zip" = none)(n_int:mg "int" = none)(n_bool:mg "bool" = none)(n_len:mg "len" = none)(n:Nat): FnOk P w K mg base CX0 (1+n) fa fd ["_law_found","_law_due_here"] (spD K 2 (F_law_same n)):=by
 induction n with
 | zero=>exact qja
 | succ n ih=>exact F.okn (k:=1+n) (n:=4) (ar:=2) (k1:=1+(n+1)) (u:=y9 (F_law_same n)) qeo rfl rfl rfl fun cdv A outer s H E hr=>(by exact qep (kr:=1+n) (kk:=1+n) (gv _) (by omega) (Cal.mk ih mgf kpf) b_21 n_isinstance n_tuple n_zip n_int n_bool n_len hr)
abbrev wm:Stmt:=top 31
noncomputable def q4x:List Str:=["_law_script","_law_k"]
theorem qer:(q4x).Nodup:=by decide +kernel
theorem qes:FnScope q4x ["_law_script","_law_k"] (qc wm):=⟨rfl,rfl,rfl,qer,rfl,by decide +kernel,by decide +kernel⟩
noncomputable def wo:FS:=(qz (sIf (zy oLt' (eV 1) (qf ko (qa (eV 0) qe))) (zb (eOp oIx (eV 0) (eV 1))) yk) (zb (eC (.int 0))))
noncomputable def zo:List D->Option D:=z7 2 wo
theorem q75{fa:Addr}{cdv:Value}{A:Around}{outer:List Env}{s:Shared}{H:Hp}{E:XK}(n_len:mg "len" = none)(hr:Room 0 (A.deeper (envOfC "_law_cell" (qc wm) s.heap.objs.size fa cdv))):
  PSs (zg CX0 P w K mg base q4x "_law_cell" (qc wm) fa cdv A outer s H E).nox (qp wm) (tDS K wo):=by
 unfold wo;refine(qh ?_ ?_);refine(vw ?_ (qj ?_) x9);refine(jq qrq ?_ ?_);exact(q0 (pv 1));refine(zi (q04) rfl n_len DL.xu ?_);walk_at "A";exact(q0 (pv 0));exact qd;refine(z0 ?_);refine(vx ?_ ?_);exact(q0 (pv 0));exact(q0 (pv 1));refine(qj ?_);exact(z0 qg)
theorem qet{fa:Addr}{dV:Value}{fd:FuncData}(F:Fun2 K "_law_cell" "_law_cell" wm dV fa fd)(n_len:mg "len" = none): FnOk P w K mg base CX0 1 fa fd ["_law_script","_law_k"] (spD K 2 zo):=
 F.okn (k:=0) (n:=2) (ar:=2) (k1:=1) (u:=wo) qes rfl rfl rfl fun cdv A outer s H E hr=>(by first|(with_reducible exact q75 n_len hr)|exact q75 n_len hr)
abbrev yo:Stmt:=top 34
noncomputable def q2s:List Str:=["_law_script","_law_k"]
theorem qbc:(q2s).Nodup:=by decide +kernel
theorem qbd:FnScope q2s ["_law_script","_law_k"] (qc yo):=⟨rfl,rfl,rfl,qbc,rfl,by decide +kernel,by decide +kernel⟩
noncomputable def yp:FS:=(qz (sIf (zy oEq (eOp oMod (qf (qo 2 [] zo) (qa (eV 0) (qa (eC (.int 0)) qe))) (eC (.int 2))) (eC (.int 0))) (zb (eOp oMod (qf (qo 2 [] zo) (qa (eV 0) (qa (eV 1) qe))) (eOp oPow (eC (.int 10)) (eC (.int 60))))) yk) (zb (eOp zd (eOp zq (qf (qo 2 [] zj) (qa (qf (qo 2 [] zo) (qa (eV 0) (qa (eOp oMod (eV 1) (qf oMax (qa (eC (.int 1)) (qa (qf ko (qa (eV 0) qe)) qe)))) qe))) (qa (eOp zd (eV 1) (eC (.int 5))) qe))) (eC (.int 2147483647))) (qf (qo 2 [] zj) (qa (eV 1) (qa (eC (.int 9)) qe))))))
noncomputable def xc:List D->Option D:=z7 2 yp
theorem q58{fa:Addr}{cdv:Value}{A:Around}{outer:List Env}{s:Shared}{H:Hp}{E:XK}{a__law_mixed:Addr}{fd__law_mixed:FuncData}(c_18:Cal P w K mg base "_law_mixed" 1 ["_law_cell_here","_law_k"] 2 zj a__law_mixed fd__law_mixed)(b_18:Binds K fd__law_mixed ["_law_cell_here","_law_k"] []){a__law_cell:Addr}{fd__law_cell:FuncData}(c_12:Cal P w K mg base "_law_cell" 1 ["_law_script","_law_k"] 2 zo a__law_cell fd__law_cell)(b_12:Binds K fd__law_cell ["_law_script","_law_k"] [])(n_max:mg "max" = none)(n_len:mg "len" = none)(hr:Room 1 (A.deeper (envOfC "_law_number" (qc yo) s.heap.objs.size fa cdv))):
  PSs (zg CX0 P w K mg base q2s "_law_number" (qc yo) fa cdv A outer s H E).nox (qp yo) (tDS K yp):=by
 unfold yp;refine(qh ?_ ?_);refine(vw ?_ (qj ?_) x9);refine(jq (q28 hr.units) ?_ qg);refine(qm j9 ?_ qg);refine(qq c_12 b_12 hr (by decide) rfl ?_);walk_at "A";exact(q0 (pv 0));walk_at "A";exact qg;exact qd;refine(z0 ?_);refine(qm j9 ?_ ?_);refine(qq c_12 b_12 hr (by decide) rfl ?_);walk_at "A";exact(q0 (pv 0));walk_at "A";exact(q0 (pv 1));exact qd;exact(qm qc6 qg qg);refine(qj ?_);refine(z0 ?_);refine(qm j5 ?_ ?_);refine(qm xn ?_ qg);refine(qq c_18 b_18 hr (by decide) rfl ?_);walk_at "A";refine(qq c_12 b_12 hr (by decide) rfl ?_);walk_at "A";exact(q0 (pv 0));walk_at "A";refine(qm j9 ?_ ?_);exact(q0 (pv 1));refine(zi (q8g rfl) rfl n_max DL.boot_max ?_);walk_at "A";exact qg;walk_at "A";refine(zi (q04) rfl n_len DL.xu ?_);walk_at "A";exact(q0 (pv 0));exact qd;exact qd;exact qd;walk_at "A";refine(qm j5 ?_ qg);exact(q0 (pv 1));exact qd;refine(qq c_18 b_18 hr (by decide) rfl ?_);walk_at "A";exact(q0 (pv 1));walk_at "A";exact qg;exact qd
theorem qbe{fa:Addr}{dV:Value}{fd:FuncData}(F:Fun2 K "_law_number" "_law_number" yo dV fa fd){a__law_mixed:Addr}{fd__law_mixed:FuncData}(c_18:Cal P w K mg base "_law_mixed" 1 ["_law_cell_here","_law_k"] 2 zj a__law_mixed fd__law_mixed)(b_18:Binds K fd__law_mixed ["_law_cell_here","_law_k"] []){a__law_cell:Addr}{fd__law_cell:FuncData}(c_12:Cal P w K mg base "_law_cell" 1 ["_law_script","_law_k"] 2 zo a__law_cell fd__law_cell)(b_12:Binds K fd__law_cell ["_law_script","_law_k"] [])(n_max:mg "max" = none)(n_len:mg "len" = none): FnOk P w K mg base CX0 2 fa fd ["_law_script","_law_k"] (spD K 2 xc):=
 F.okn (k:=1) (n:=2) (ar:=2) (k1:=2) (u:=yp) qbd rfl rfl rfl fun cdv A outer s H E hr=>(by first|(with_reducible exact q58 c_18 b_18 c_12 b_12 n_max n_len hr)|exact q58 c_18 b_18 c_12 b_12 n_max n_len hr)
abbrev xg:Stmt:=top 33
noncomputable def q0z:List Str:=["_law_script"]
theorem q7r:(q0z).Nodup:=by decide +kernel
theorem q7s:FnScope q0z ["_law_script"] (qc xg):=⟨rfl,rfl,rfl,q7r,rfl,by decide +kernel,by decide +kernel⟩
noncomputable def xh:FS:=(qz (sIf (zy oEq (eOp oMod (qf (qo 2 [] zo) (qa (eV 0) (qa (eC (.int 0)) qe))) (eC (.int 2))) (eC (.int 0))) (zb (qf oMax (qa (eC (.int 0)) (qa (qf oMin (qa (eOp oSub (qf ko (qa (eV 0) qe)) (eC (.int 2))) (qa (eC (.int 61)) qe))) qe)))) yk) (zb (eOp zd (eC (.int 3)) (eOp oMod (qf (qo 2 [] zj) (qa (qf (qo 2 [] zo) (qa (eV 0) (qa (eC (.int 0)) qe))) (qa (eC (.int 3)) qe))) (eC (.int 12))))))
noncomputable def xi:List D->Option D:=z7 1 xh
theorem q2t{fa:Addr}{cdv:Value}{A:Around}{outer:List Env}{s:Shared}{H:Hp}{E:XK}{a__law_cell:Addr}{fd__law_cell:FuncData}(c_12:Cal P w K mg base "_law_cell" 1 ["_law_script","_law_k"] 2 zo a__law_cell fd__law_cell)(b_12:Binds K fd__law_cell ["_law_script","_law_k"] []){a__law_mixed:Addr}{fd__law_mixed:FuncData}(c_18:Cal P w K mg base "_law_mixed" 1 ["_law_cell_here","_law_k"] 2 zj a__law_mixed fd__law_mixed)(b_18:Binds K fd__law_mixed ["_law_cell_here","_law_k"] [])(n_max:mg "max" = none)(n_min:mg "min" = none)(n_len:mg "len" = none)(hr:Room 1 (A.deeper (envOfC "_law_many_runs" (qc xg) s.heap.objs.size fa cdv))):
  PSs (zg CX0 P w K mg base q0z "_law_many_runs" (qc xg) fa cdv A outer s H E).nox (qp xg) (tDS K xh):=by
 unfold xh;refine(qh ?_ ?_);refine(vw ?_ (qj ?_) x9);refine(jq (q28 hr.units) ?_ qg);refine(qm j9 ?_ qg);refine(qq c_12 b_12 hr (by decide) rfl ?_);walk_at "A";exact(q0 (pv 0));walk_at "A";exact qg;exact qd;refine(z0 ?_);refine(zi (q8g rfl) rfl n_max DL.boot_max ?_);walk_at "A";exact qg;walk_at "A";refine(zi (qip rfl) rfl n_min DL.boot_min ?_);walk_at "A";refine(qm q3v ?_ qg);refine(zi (q04) rfl n_len DL.xu ?_);walk_at "A";exact(q0 (pv 0));exact qd;walk_at "A";exact qg;exact qd;exact qd;refine(qj ?_);refine(z0 ?_);refine(qm j5 qg ?_);refine(qm j9 ?_ qg);refine(qq c_18 b_18 hr (by decide) rfl ?_);walk_at "A";refine(qq c_12 b_12 hr (by decide) rfl ?_);walk_at "A";exact(q0 (pv 0));walk_at "A";exact qg;exact qd;walk_at "A";exact qg;exact qd
theorem q7t{fa:Addr}{dV:Value}{fd:FuncData}(F:Fun2 K "_law_many_runs" "_law_many_runs" xg dV fa fd){a__law_cell:Addr}{fd__law_cell:FuncData}(c_12:Cal P w K mg base "_law_cell" 1 ["_law_script","_law_k"] 2 zo a__law_cell fd__law_cell)(b_12:Binds K fd__law_cell ["_law_script","_law_k"] []){a__law_mixed:Addr}{fd__law_mixed:FuncData}(c_18:Cal P w K mg base "_law_mixed" 1 ["_law_cell_here","_law_k"] 2 zj a__law_mixed fd__law_mixed)(b_18:Binds K fd__law_mixed ["_law_cell_here","_law_k"] [])(n_max:mg "max" = none)(n_min:mg "min" = none)(n_len:mg "len" = none): FnOk P w K mg base CX0 2 fa fd ["_law_script"] (spD K 1 xi):=
 F.okn (k:=1) (n:=1) (ar:=1) (k1:=2) (u:=xh) q7s rfl rfl rfl fun cdv A outer s H E hr=>(by first|(with_reducible exact q2t c_12 b_12 c_18 b_18 n_max n_min n_len hr)|exact q2t c_12 b_12 c_18 b_18 n_max n_min n_len hr)
abbrev wq:Stmt:=top 18
noncomputable def q4y:List Str:=["pairs","least"]
theorem qeu:(q4y).Nodup:=by decide +kernel
theorem qev:FnScope q4y ["pairs","least"] (qc wq):=⟨rfl,rfl,rfl,qeu,rfl,by decide +kernel,by decide +kernel⟩
theorem qbf:(["pair","least"]:List Str).Nodup:=by decide +kernel
noncomputable def wt:FS:=(zb (qf vc (qa (eL (z6 (jo (eV 0)) [none,some 1] (bN 0) (zy oGe (eOp oIx (eV 0) (eC (.int 1))) (eV 1)) (eV 0))) qe)))
noncomputable def xr:List D->Option D:=z7 2 wt
theorem q76{fa:Addr}{cdv:Value}{A:Around}{outer:List Env}{s:Shared}{H:Hp}{E:XK}(n_tuple:mg "tuple" = none)(hr:Room 0 (A.deeper (envOfC "at_least" (qc wq) s.heap.objs.size fa cdv))):
  PSs (zg CX0 P w K mg base q4y "at_least" (qc wq) fa cdv A outer s H E).nox (qp wq) (tDS K wt):=by
 unfold wt;refine(qj ?_);refine(z0 ?_);refine(ja (vd) rfl n_tuple DL.boot_tuple ?_);walk_at "A";refine(ju ?_);refine(jl (N':=["pair","least"]) (cap:=[none,some 1]) rfl (zm rfl rfl) (j4 rfl) ?_ (fun _ _ _ _ _=>(qu qbf rfl (Or.inl rfl) (.inr rfl))) (fun _ _ _ _ _=>(q2o ?_)) (fun _ _ _ _ _=>?_));refine(j0 ?_);exact(q0 (pv 0));refine(jq qgj ?_ ?_);refine(vx ?_ qg);exact(q0 (pv 0));exact(q0 (pv 1));exact(q0 (pv 0));exact qd
theorem qew{fa:Addr}{dV:Value}{fd:FuncData}(F:Fun2 K "at_least" "at_least" wq dV fa fd)(n_tuple:mg "tuple" = none): FnOk P w K mg base CX0 1 fa fd ["pairs","least"] (spD K 2 xr):=
 F.okn (k:=0) (n:=2) (ar:=2) (k1:=1) (u:=wt) qev rfl rfl rfl fun cdv A outer s H E hr=>(by first|(with_reducible exact q76 n_tuple hr)|exact q76 n_tuple hr)
abbrev q0s:Stmt:=top 7
noncomputable def q60:List Str:=["some"]
theorem qh8:(q60).Nodup:=by decide +kernel
theorem qh9:FnScope q60 ["some"] (qc q0s):=⟨rfl,rfl,rfl,qh8,rfl,by decide +kernel,by decide +kernel⟩
theorem qdq:(["ware"]:List Str).Nodup:=by decide +kernel
noncomputable def q1v:FS:=(zb (qf q9j (qa (eL (z6 (jo (eV 0)) [none] (bN 0) zc (eOp oShl (eC (.int 1)) (eV 0)))) qe)))
noncomputable def xx:List D->Option D:=z7 1 q1v
theorem q92{fa:Addr}{cdv:Value}{A:Around}{outer:List Env}{s:Shared}{H:Hp}{E:XK}(n_sum:mg "sum" = none)(hr:Room 0 (A.deeper (envOfC "mark_of" (qc q0s) s.heap.objs.size fa cdv))):
  PSs (zg CX0 P w K mg base q60 "mark_of" (qc q0s) fa cdv A outer s H E).nox (qp q0s) (tDS K q1v):=by
 unfold q1v;refine(qj ?_);refine(z0 ?_);refine(zi (qcd rfl) rfl n_sum DL.boot_sum ?_);walk_at "A";refine(ju ?_);refine(jl (N':=["ware"]) (cap:=[none]) rfl (zm rfl rfl) (j4 rfl) ?_ (fun _ _ _ _ _=>(qu qdq rfl (Or.inl rfl) (.inr rfl))) (fun _ _ _ _ _=>ym) (fun _ _ _ _ _=>?_));refine(j0 ?_);exact(q0 (pv 0));refine(qm qrb qg ?_);exact(q0 (pv 0));exact qd
theorem qha{fa:Addr}{dV:Value}{fd:FuncData}(F:Fun2 K "mark_of" "mark_of" q0s dV fa fd)(n_sum:mg "sum" = none): FnOk P w K mg base CX0 1 fa fd ["some"] (spD K 1 xx):=
 F.okn (k:=0) (n:=1) (ar:=1) (k1:=1) (u:=q1v) qh9 rfl rfl rfl fun cdv A outer s H E hr=>(by first|(with_reducible exact q92 n_sum hr)|exact q92 n_sum hr)
abbrev q1a:Stmt:=top 15
noncomputable def q7u:List Str:=["pile"]
theorem qjq:(q7u).Nodup:=by decide +kernel
theorem qjr:FnScope q7u ["pile"] (qc q1a):=⟨rfl,rfl,rfl,qjq,rfl,by decide +kernel,by decide +kernel⟩
theorem q77:(["many","basket"]:List Str).Nodup:=by decide +kernel
noncomputable def q2u:FS:=(zb (eL (z6 (jo (eOp oIx (eV 0) (eC (.int 1)))) [none,none] (yh 2 (zh (bN 0) (zh (bN 1) yg))) zc (j7 (qa (eV 0) (qa (qf (qo 1 [] xx) (qa (eV 1) qe)) qe))))))
noncomputable def q2v:List D->Option D:=z7 1 q2u
theorem qas{fa:Addr}{cdv:Value}{A:Around}{outer:List Env}{s:Shared}{H:Hp}{E:XK}{a_mark_of:Addr}{fd_mark_of:FuncData}(c_25:Cal P w K mg base "mark_of" 1 ["some"] 1 xx a_mark_of fd_mark_of)(b_25:Binds K fd_mark_of ["some"] [])(hr:Room 1 (A.deeper (envOfC "marked" (qc q1a) s.heap.objs.size fa cdv))):
  PSs (zg CX0 P w K mg base q7u "marked" (qc q1a) fa cdv A outer s H E).nox (qp q1a) (tDS K q2u):=by
 unfold q2u;refine(qj ?_);refine(z0 ?_);refine(ju ?_);refine(jl (N':=["many","basket"]) (cap:=[none,none]) rfl (zm rfl rfl) (w8 (zl rfl (zl rfl yw))) ?_ (fun _ _ _ _ _=>(q1n rfl (jk (qu q77 rfl (Or.inl rfl) (.inr rfl)) (jk (qu q77 rfl (Or.inl rfl) (.inr rfl)) q1m)))) (fun _ _ _ _ _=>ym) (fun _ _ _ _ _=>?_));refine(j0 ?_);refine(vx ?_ qg);exact(q0 (pv 0));refine(jz ?_);walk_at "A";exact(q0 (pv 0));walk_at "A";refine(qq c_25 b_25 hr (by decide) rfl ?_);walk_at "A";exact(q0 (pv 1));exact qd;exact qd
theorem qjs{fa:Addr}{dV:Value}{fd:FuncData}(F:Fun2 K "marked" "marked" q1a dV fa fd){a_mark_of:Addr}{fd_mark_of:FuncData}(c_25:Cal P w K mg base "mark_of" 1 ["some"] 1 xx a_mark_of fd_mark_of)(b_25:Binds K fd_mark_of ["some"] []): FnOk P w K mg base CX0 2 fa fd ["pile"] (spD K 1 q2v):=
 F.okn (k:=1) (n:=1) (ar:=1) (k1:=2) (u:=q2u) qjr rfl rfl rfl fun cdv A outer s H E hr=>(by first|(with_reducible exact qas c_25 b_25 hr)|exact qas c_25 b_25 hr)
abbrev xj:Stmt:=top 12
noncomputable def q10:List Str:=["some","wares","first"]
theorem q2w:(q10).Nodup:=by decide +kernel
theorem q7v:FnScope q10 ["some","wares"] (qc xj):=⟨rfl,rfl,rfl,q2w,rfl,by decide +kernel,by decide +kernel⟩
theorem q61:(["ware","some"]:List Str).Nodup:=by decide +kernel
noncomputable def xk:FS:=(qz (zp 2 (eIf (bT (eV 0)) (eOp zd (eOp oIx (eV 0) (eUn q9m (eC (.int 1)))) (eC (.int 1))) (eC (.int 0)))) (zb (eL (z6 (iR2 (qa (eV 2) (qa (eV 1) qe))) [none,some 0] (bN 0) zc (eOp zd (eV 1) (j7 (qa (eV 0) qe)))))))
noncomputable def xl:List D->Option D:=z7 3 xk
theorem q2x{fa:Addr}{cdv:Value}{A:Around}{outer:List Env}{s:Shared}{H:Hp}{E:XK}(n_range:mg "range" = none)(hr:Room 0 (A.deeper (envOfC "one_ware_more" (qc xj) s.heap.objs.size fa cdv))):
  PSs (zg CX0 P w K mg base q10 "one_ware_more" (qc xj) fa cdv A outer s H E).nox (qp xj) (tDS K xk):=by
 unfold xk;refine(qh ?_ ?_);refine(z9 (i:=2) ?_ ?_ ?_ ?_ ?_ ?_);exact q2w;exact rfl;exact(Or.inl rfl);refine(qth ?_ ?_ qg);refine(ky ?_);exact(q0 (pv 0));refine(qm j5 ?_ qg);refine(vx ?_ ?_);exact(q0 (pv 0));exact(qro qg);exact rfl;walk_at "L";refine(qj ?_);refine(z0 ?_);refine(ju ?_);refine(jl (N':=["ware","some"]) (cap:=[none,some 0]) rfl (zm rfl rfl) (j4 rfl) ?_ (fun _ _ _ _ _=>(qu q61 rfl (Or.inl rfl) (.inr rfl))) (fun _ _ _ _ _=>ym) (fun _ _ _ _ _=>?_));refine(qin rfl n_range ?_);walk_at "A";exact(q0 (pv 2));walk_at "A";exact(q0 (pv 1));exact qd;refine(qm j5 ?_ ?_);exact(q0 (pv 1));refine(jz ?_);walk_at "A";exact(q0 (pv 0));exact qd
theorem q7w{fa:Addr}{dV:Value}{fd:FuncData}(F:Fun2 K "one_ware_more" "one_ware_more" xj dV fa fd)(n_range:mg "range" = none): FnOk P w K mg base CX0 1 fa fd ["some","wares"] (spD K 2 xl):=
 F.okn (k:=0) (n:=3) (ar:=2) (k1:=1) (u:=xk) q7v rfl rfl rfl fun cdv A outer s H E hr=>(by first|(with_reducible exact q2x n_range hr)|exact q2x n_range hr)
abbrev jv:Stmt:=top 13
noncomputable def q0j:List Str:=["some"]
theorem q6v:(q0j).Nodup:=by decide +kernel
theorem q6w:FnScope q0j ["some"] (qc jv):=⟨rfl,rfl,rfl,q6v,rfl,by decide +kernel,by decide +kernel⟩
theorem q5b:(["place","some"]:List Str).Nodup:=by decide +kernel
noncomputable def vf:FS:=(zb (eL (z6 (iR1 (qa (qf ko (qa (eV 0) qe)) qe)) [none,some 0] (bN 0) zc (eOp zd (eSl (eV 1) oNo (oAt (eV 0))) (eSl (eV 1) (oAt (eOp zd (eV 0) (eC (.int 1)))) oNo)))))
noncomputable def jw:List D->Option D:=z7 1 vf
theorem q23{fa:Addr}{cdv:Value}{A:Around}{outer:List Env}{s:Shared}{H:Hp}{E:XK}(n_range:mg "range" = none)(n_len:mg "len" = none)(hr:Room 0 (A.deeper (envOfC "one_ware_fewer" (qc jv) s.heap.objs.size fa cdv))):
  PSs (zg CX0 P w K mg base q0j "one_ware_fewer" (qc jv) fa cdv A outer s H E).nox (qp jv) (tDS K vf):=by
 unfold vf;refine(qj ?_);refine(z0 ?_);refine(ju ?_);refine(jl (N':=["place","some"]) (cap:=[none,some 0]) rfl (zm rfl rfl) (j4 rfl) ?_ (fun _ _ _ _ _=>(qu q5b rfl (Or.inl rfl) (.inr rfl))) (fun _ _ _ _ _=>ym) (fun _ _ _ _ _=>?_));refine(q0o rfl n_range ?_);walk_at "A";refine(zi (q04) rfl n_len DL.xu ?_);walk_at "A";exact(q0 (pv 0));exact qd;exact qd;refine(qm j5 ?_ ?_);refine(qci ?_ qcg (qch ?_));exact(q0 (pv 1));exact(q0 (pv 0));refine(qci ?_ (qch ?_) qcg);exact(q0 (pv 1));refine(qm j5 ?_ qg);exact(q0 (pv 0))
theorem q6x{fa:Addr}{dV:Value}{fd:FuncData}(F:Fun2 K "one_ware_fewer" "one_ware_fewer" jv dV fa fd)(n_range:mg "range" = none)(n_len:mg "len" = none): FnOk P w K mg base CX0 1 fa fd ["some"] (spD K 1 jw):=
 F.okn (k:=0) (n:=1) (ar:=1) (k1:=1) (u:=vf) q6w rfl rfl rfl fun cdv A outer s H E hr=>(by first|(with_reducible exact q23 n_range n_len hr)|exact q23 n_range n_len hr)
abbrev q2i:Stmt:=top 21
noncomputable def qa3:List Str:=["layer","wares","known","found","some","longer"]
theorem q2y:(qa3).Nodup:=by decide +kernel
theorem qms:FnScope qa3 ["layer","wares"] (qc q2i):=⟨rfl,rfl,rfl,q2y,rfl,by decide +kernel,by decide +kernel⟩
theorem qhb:(["some"]:List Str).Nodup:=by decide +kernel
theorem qhc:(["shorter","known"]:List Str).Nodup:=by decide +kernel
noncomputable def yy:FS:=(sIf (bT (qf q7i (qa (eL (z6 (jo (qf (qo 1 [] jw) (qa (eV 5) qe))) [none,some 2] (bN 0) zc (eOp q9y (eV 0) (eV 1)))) qe))) (wz 3 (eV 5)) yk)
noncomputable def q11:FS:=(xm (jo (qf (qo 2 [] xl) (qa (eV 4) (qa (eV 1) qe)))) (bN 5) yy)
noncomputable def q46:FS:=(qz (zp 2 (qf qbo (qa (eL (z6 (jo (eV 0)) [none] (bN 0) zc (j7 (qa (eV 0) (qa (eC (.bl true)) qe))))) qe))) (qz (q0e 3 (yu qe)) (qz (xm (jo (eV 0)) (bN 4) q11) (q0f 3 (zb (eV 3))))))
noncomputable def q47:List D->Option D:=z7 6 q46
theorem qdr{fa:Addr}{cdv:Value}{A:Around}{outer:List Env}{s:Shared}{H:Hp}{E:XK}{a_one_ware_more:Addr}{fd_one_ware_more:FuncData}(c_29:Cal P w K mg base "one_ware_more" 1 ["some","wares"] 2 xl a_one_ware_more fd_one_ware_more)(b_29:Binds K fd_one_ware_more ["some","wares"] []){a_one_ware_fewer:Addr}{fd_one_ware_fewer:FuncData}(c_28:Cal P w K mg base "one_ware_fewer" 1 ["some"] 1 jw a_one_ware_fewer fd_one_ware_fewer)(b_28:Binds K fd_one_ware_fewer ["some"] [])(n_dict:mg "dict" = none)(n_all:mg "all" = none)(hr:Room 1 (A.deeper (envOfC "grown" (qc q2i) s.heap.objs.size fa cdv))):
  PSs (zg CX0 P w K mg base qa3 "grown" (qc q2i) fa cdv A outer s H E).nox (qp q2i) (tDS K q46):=by
 unfold q46 q11 yy;refine(qh ?_ ?_);refine(z9 (i:=2) ?_ ?_ ?_ ?_ ?_ ?_);exact q2y;exact rfl;exact(Or.inr rfl);refine(ja (qpj rfl hr.units) rfl n_dict DL.boot_dict ?_);walk_at "A";refine(ju ?_);refine(jl (N':=["some"]) (cap:=[none]) rfl (zm rfl rfl) (j4 rfl) ?_ (fun _ _ _ _ _=>(qu qhb rfl (Or.inl rfl) (.inr rfl))) (fun _ _ _ _ _=>ym) (fun _ _ _ _ _=>?_));refine(j0 ?_);exact(q0 (pv 0));refine(jz ?_);walk_at "A";exact(q0 (pv 0));walk_at "A";exact q26;exact qd;exact qd;exact rfl;walk_at "L";refine(qh ?_ ?_);exact(q1l (i:=3) q2y rfl (Or.inl rfl) (vb qd));refine(qh ?_ ?_);refine(k6 uf rfl ?_ (qu q2y rfl (Or.inl rfl) (.inl rfl)) (qj ?_));refine(j0 ?_);exact(q0 (pv 0));refine(k6 uf rfl ?_ (qu q2y rfl (Or.inl rfl) (.inl rfl)) (qj ?_));refine(j0 ?_);refine(qq c_29 b_29 hr (by decide) rfl ?_);walk_at "A";exact(q0 (pv 4));walk_at "A";exact(q0 (pv 1));exact qd;refine(vw ?_ (qj ?_) x9);refine(ky ?_);refine(zi (qio rfl) rfl n_all DL.boot_all ?_);walk_at "A";refine(ju ?_);refine(jl (N':=["shorter","known"]) (cap:=[none,some 2]) rfl (zm rfl rfl) (j4 rfl) ?_ (fun _ _ _ _ _=>(qu qhc rfl (Or.inl rfl) (.inr rfl))) (fun _ _ _ _ _=>ym) (fun _ _ _ _ _=>?_));refine(j0 ?_);refine(qq c_28 b_28 hr (by decide) rfl ?_);walk_at "A";exact(q0 (pv 5));exact qd;refine(q5i (qs9 hr.units) ?_ ?_);exact(q0 (pv 0));exact(q0 (pv 1));exact qd;refine(q2n (pv 3) ?_);exact(q0 (pv 5));refine(yl 3 (qj ?_));refine(z0 ?_);exact(q0 (pv 3))
theorem qmt{fa:Addr}{dV:Value}{fd:FuncData}(F:Fun2 K "grown" "grown" q2i dV fa fd){a_one_ware_more:Addr}{fd_one_ware_more:FuncData}(c_29:Cal P w K mg base "one_ware_more" 1 ["some","wares"] 2 xl a_one_ware_more fd_one_ware_more)(b_29:Binds K fd_one_ware_more ["some","wares"] []){a_one_ware_fewer:Addr}{fd_one_ware_fewer:FuncData}(c_28:Cal P w K mg base "one_ware_fewer" 1 ["some"] 1 jw a_one_ware_fewer fd_one_ware_fewer)(b_28:Binds K fd_one_ware_fewer ["some"] [])(n_dict:mg "dict" = none)(n_all:mg "all" = none): FnOk P w K mg base CX0 2 fa fd ["layer","wares"] (spD K 2 q47):=
 F.okn (k:=1) (n:=6) (ar:=2) (k1:=2) (u:=q46) qms rfl rfl rfl fun cdv A outer s H E hr=>(by first|(with_reducible exact qdr c_29 b_29 c_28 b_28 n_dict n_all hr)|exact qdr c_29 b_29 c_28 b_28 n_dict n_all hr)
abbrev v8:Stmt:=top 16
noncomputable def q1b:List Str:=["marked_runs","some","mark"]
theorem q3d:(q1b).Nodup:=by decide +kernel
theorem q93:FnScope q1b ["marked_runs","some"] (qc v8):=⟨rfl,rfl,rfl,q3d,rfl,by decide +kernel,by decide +kernel⟩
theorem q24:(["many","basket","mark"]:List Str).Nodup:=by decide +kernel
noncomputable def yq:FS:=(qz (zp 2 (qf (qo 1 [] xx) (qa (eV 1) qe))) (zb (qf q9j (qa (eL (z6 (jo (eV 0)) [none,none,some 2] (yh 2 (zh (bN 0) (zh (bN 1) yg))) (zy oEq (eOp oBand (eV 1) (eV 2)) (eV 2)) (eV 0))) qe))))
noncomputable def v9:List D->Option D:=z7 3 yq
theorem q3e{fa:Addr}{cdv:Value}{A:Around}{outer:List Env}{s:Shared}{H:Hp}{E:XK}{a_mark_of:Addr}{fd_mark_of:FuncData}(c_25:Cal P w K mg base "mark_of" 1 ["some"] 1 xx a_mark_of fd_mark_of)(b_25:Binds K fd_mark_of ["some"] [])(n_sum:mg "sum" = none)(hr:Room 1 (A.deeper (envOfC "count_marked" (qc v8) s.heap.objs.size fa cdv))):
  PSs (zg CX0 P w K mg base q1b "count_marked" (qc v8) fa cdv A outer s H E).nox (qp v8) (tDS K yq):=by
 unfold yq;refine(qh ?_ ?_);refine(z9 (i:=2) ?_ ?_ ?_ ?_ ?_ ?_);exact q3d;exact rfl;exact(Or.inr rfl);refine(qq c_25 b_25 hr (by decide) rfl ?_);walk_at "A";exact(q0 (pv 1));exact qd;exact rfl;walk_at "L";refine(qj ?_);refine(z0 ?_);refine(zi (qcd rfl) rfl n_sum DL.boot_sum ?_);walk_at "A";refine(ju ?_);refine(jl (N':=["many","basket","mark"]) (cap:=[none,none,some 2]) rfl (zm rfl rfl) (w8 (zl rfl (zl rfl yw))) ?_ (fun _ _ _ _ _=>(q1n rfl (jk (qu q24 rfl (Or.inl rfl) (.inr rfl)) (jk (qu q24 rfl (Or.inl rfl) (.inr rfl)) q1m)))) (fun _ _ _ _ _=>(q2o ?_)) (fun _ _ _ _ _=>?_));refine(j0 ?_);exact(q0 (pv 0));refine(jq (q28 hr.units) ?_ ?_);refine(qm qoo ?_ ?_);exact(q0 (pv 1));exact(q0 (pv 2));exact(q0 (pv 2));exact(q0 (pv 0));exact qd
theorem q94{fa:Addr}{dV:Value}{fd:FuncData}(F:Fun2 K "count_marked" "count_marked" v8 dV fa fd){a_mark_of:Addr}{fd_mark_of:FuncData}(c_25:Cal P w K mg base "mark_of" 1 ["some"] 1 xx a_mark_of fd_mark_of)(b_25:Binds K fd_mark_of ["some"] [])(n_sum:mg "sum" = none): FnOk P w K mg base CX0 2 fa fd ["marked_runs","some"] (spD K 2 v9):=
 F.okn (k:=1) (n:=3) (ar:=2) (k1:=2) (u:=yq) q93 rfl rfl rfl fun cdv A outer s H E hr=>(by first|(with_reducible exact q3e c_25 b_25 n_sum hr)|exact q3e c_25 b_25 n_sum hr)
abbrev zk:Stmt:=qsk 22 1
noncomputable def q02:List Str:=["self","pile","least","runs","told","layer","pairs"]
theorem jb:(q02).Nodup:=by decide +kernel
theorem q62:FnScope q02 ["self","pile","least"] (qc zk):=⟨rfl,rfl,rfl,jb,rfl,by decide +kernel,by decide +kernel⟩
theorem q4z:(["some","runs"]:List Str).Nodup:=by decide +kernel
theorem q50:(["pair"]:List Str).Nodup:=by decide +kernel
noncomputable def ji:FS:=(qz (q0e 6 (z6 (jo (eV 5)) [none,some 3] (bN 0) zc (j7 (qa (eV 0) (qa (qf (qo 2 [] v9) (qa (eV 1) (qa (eV 0) qe))) qe))))) (q0f 6 (qz (qm3 4 (eV 6)) (zp 5 (qf (qo 2 [] q47) (qa (eL (z6 (jo (qf (qo 2 [] xr) (qa (eV 6) (qa (eV 2) qe)))) [none] (bN 0) zc (eOp oIx (eV 0) (eC (.int 0))))) (qa (eOp oIx (eV 1) (eC (.int 0))) qe)))))))
noncomputable def zu:FS:=(qz (zp 3 (qf (qo 1 [] q2v) (qa (eV 1) qe))) (qz (q0e 4 (yu qe)) (qz (zp 5 (eL (yu (qa (j7 qe) qe)))) (qz (jf (bT (eV 5)) ji 100000) (q0f 6 (q0f 4 (zb (qf vc (qa (eV 4) qe)))))))))
noncomputable def xp:List D->Option D:=z7 7 zu
theorem q1w{fa:Addr}{cdv:Value}{A:Around}{outer:List Env}{s:Shared}{H:Hp}{E:XK}{a_marked:Addr}{fd_marked:FuncData}(c_26:Cal P w K mg base "marked" 2 ["pile"] 1 q2v a_marked fd_marked)(b_26:Binds K fd_marked ["pile"] []){a_grown:Addr}{fd_grown:FuncData}(c_4:Cal P w K mg base "grown" 2 ["layer","wares"] 2 q47 a_grown fd_grown)(b_4:Binds K fd_grown ["layer","wares"] []){a_count_marked:Addr}{fd_count_marked:FuncData}(c_3:Cal P w K mg base "count_marked" 2 ["marked_runs","some"] 2 v9 a_count_marked fd_count_marked)(b_3:Binds K fd_count_marked ["marked_runs","some"] []){a_at_least:Addr}{fd_at_least:FuncData}(c_2:Cal P w K mg base "at_least" 1 ["pairs","least"] 2 xr a_at_least fd_at_least)(b_2:Binds K fd_at_least ["pairs","least"] [])(n_tuple:mg "tuple" = none)(hr:Room 2 (A.deeper (envOfC "Growing.counted" (qc zk) s.heap.objs.size fa cdv))):
  PSs (zg CX0 P w K mg base q02 "Growing.counted" (qc zk) fa cdv A outer s H E).nox (qp zk) (tDS K zu):=by
 unfold zu ji;refine(qh ?_ ?_);refine(z9 (i:=3) ?_ ?_ ?_ ?_ ?_ ?_);exact jb;exact rfl;exact(Or.inr rfl);refine(qq c_26 b_26 hr (by decide) rfl ?_);walk_at "A";exact(q0 (pv 1));exact qd;exact rfl;walk_at "L";refine(qh ?_ ?_);exact(q1l (i:=4) jb rfl (Or.inl rfl) (vb qd));refine(qh ?_ ?_);refine(z9 (i:=5) ?_ ?_ ?_ ?_ ?_ ?_);exact jb;exact rfl;exact(Or.inl rfl);refine(ju ?_);refine(vb ?_);walk_at "A";exact(jz qd);exact qd;exact rfl;walk_at "L";refine(qh ?_ ?_);refine(qc9 100000 uf ?_ (qh ?_ ?_));refine(ky ?_);exact(q0 (pv 5));refine(q9i (i:=6) rfl jb rfl rfl (N':=["some","runs"]) (cap:=[none,some 3]) (zm rfl rfl) (j4 rfl) ?_ (fun _ _ _ _ _=>(qu q4z rfl (Or.inl rfl) (.inr rfl))) (fun _ _ _ _ _=>ym) (fun _ _ _ _ _=>?_));refine(j0 ?_);exact(q0 (pv 5));refine(jz ?_);walk_at "A";exact(q0 (pv 0));walk_at "A";refine(qq c_3 b_3 hr (by decide) rfl ?_);walk_at "A";exact(q0 (pv 1));walk_at "A";exact(q0 (pv 0));exact qd;exact qd;refine(yl 6 (qh ?_ ?_));refine(qs4 (pv 4) ?_);exact(q0 (pv 6));refine(qj ?_);refine(z9 (i:=5) ?_ ?_ ?_ ?_ ?_ ?_);exact jb;exact rfl;exact(Or.inl rfl);refine(qq c_4 b_4 hr (by decide) rfl ?_);walk_at "A";refine(ju ?_);refine(jl (N':=["pair"]) (cap:=[none]) rfl (zm rfl rfl) (j4 rfl) ?_ (fun _ _ _ _ _=>(qu q50 rfl (Or.inl rfl) (.inr rfl))) (fun _ _ _ _ _=>ym) (fun _ _ _ _ _=>?_));refine(j0 ?_);refine(qq c_2 b_2 hr (by decide) rfl ?_);walk_at "A";exact(q0 (pv 6));walk_at "A";exact(q0 (pv 2));exact qd;refine(vx ?_ qg);exact(q0 (pv 0));walk_at "A";refine(vx ?_ qg);exact(q0 (pv 1));exact qd;exact rfl;walk_at "L";refine(yl 6 (yl 4 (qj ?_)));refine(z0 ?_);refine(ja (vd) rfl n_tuple DL.boot_tuple ?_);walk_at "A";exact(q0 (pv 4));exact qd
theorem q63{fa:Addr}{dV:Value}{fd:FuncData}(F:Fun2 K "counted" "Growing.counted" zk dV fa fd){a_marked:Addr}{fd_marked:FuncData}(c_26:Cal P w K mg base "marked" 2 ["pile"] 1 q2v a_marked fd_marked)(b_26:Binds K fd_marked ["pile"] []){a_grown:Addr}{fd_grown:FuncData}(c_4:Cal P w K mg base "grown" 2 ["layer","wares"] 2 q47 a_grown fd_grown)(b_4:Binds K fd_grown ["layer","wares"] []){a_count_marked:Addr}{fd_count_marked:FuncData}(c_3:Cal P w K mg base "count_marked" 2 ["marked_runs","some"] 2 v9 a_count_marked fd_count_marked)(b_3:Binds K fd_count_marked ["marked_runs","some"] []){a_at_least:Addr}{fd_at_least:FuncData}(c_2:Cal P w K mg base "at_least" 1 ["pairs","least"] 2 xr a_at_least fd_at_least)(b_2:Binds K fd_at_least ["pairs","least"] [])(n_tuple:mg "tuple" = none): FnOk P w K mg base CX0 3 fa fd ["self","pile","least"] (spD K 3 xp):=
 F.okn (k:=2) (n:=7) (ar:=3) (k1:=3) (u:=zu) q62 rfl rfl rfl fun cdv A outer s H E hr=>(by first|(with_reducible exact q1w c_26 b_26 c_4 b_4 c_3 b_3 c_2 b_2 n_tuple hr)|exact q1w c_26 b_26 c_4 b_4 c_3 b_3 c_2 b_2 n_tuple hr)
abbrev zw:Stmt:=qsk 22 0
noncomputable def q12:List Str:=["self","pile","least"]
theorem q7x:(q12).Nodup:=by decide +kernel
theorem q7y:FnScope q12 ["self","pile","least"] (qc zw):=⟨rfl,rfl,rfl,q7x,rfl,by decide +kernel,by decide +kernel⟩
noncomputable def ya:FS:=(zb (qf (qo 2 [] xr) (qa (qd6 "Growing" 3 xp (eV 0) (qa (eV 1) (qa (eV 2) qe))) (qa (eV 2) qe))))
noncomputable def yb:List D->Option D:=z7 3 ya
theorem q2z{fa:Addr}{cdv:Value}{A:Around}{outer:List Env}{s:Shared}{H:Hp}{E:XK}{C_Growing:Addr}(O_Growing:ClsOk K "Growing" C_Growing){a_at_least:Addr}{fd_at_least:FuncData}(c_2:Cal P w K mg base "at_least" 1 ["pairs","least"] 2 xr a_at_least fd_at_least)(b_2:Binds K fd_at_least ["pairs","least"] []){a_Growing_counted:Addr}{fd_Growing_counted:FuncData}(c_0:CalM P w K mg base "Growing" "counted" C_Growing 3 ["self","pile","least"] 3 xp a_Growing_counted fd_Growing_counted)(b_0:Binds K fd_Growing_counted ["self","pile","least"] [])(hr:Room 3 (A.deeper (envOfC "Growing.often" (qc zw) s.heap.objs.size fa cdv))):
  PSs (zg CX0 P w K mg base q12 "Growing.often" (qc zw) fa cdv A outer s H E).nox (qp zw) (tDS K ya):=by
 unfold ya;refine(qj ?_);refine(z0 ?_);refine(qq c_2 b_2 hr (by decide) rfl ?_);walk_at "A";refine(qj9 O_Growing c_0 b_0 hr (by decide) ?_ ?_);exact(q0 (pv 0));walk_at "A";exact(q0 (pv 1));walk_at "A";exact(q0 (pv 2));exact qd;walk_at "A";exact(q0 (pv 2));exact qd
theorem q7z{fa:Addr}{dV:Value}{fd:FuncData}(F:Fun2 K "often" "Growing.often" zw dV fa fd){C_Growing:Addr}(O_Growing:ClsOk K "Growing" C_Growing){a_at_least:Addr}{fd_at_least:FuncData}(c_2:Cal P w K mg base "at_least" 1 ["pairs","least"] 2 xr a_at_least fd_at_least)(b_2:Binds K fd_at_least ["pairs","least"] []){a_Growing_counted:Addr}{fd_Growing_counted:FuncData}(c_0:CalM P w K mg base "Growing" "counted" C_Growing 3 ["self","pile","least"] 3 xp a_Growing_counted fd_Growing_counted)(b_0:Binds K fd_Growing_counted ["self","pile","least"] []): FnOk P w K mg base CX0 4 fa fd ["self","pile","least"] (spD K 3 yb):=
 F.okn (k:=3) (n:=3) (ar:=3) (k1:=4) (u:=ya) q7y rfl rfl rfl fun cdv A outer s H E hr=>(by first|(with_reducible exact q2z O_Growing c_2 b_2 c_0 b_0 hr)|exact q2z O_Growing c_2 b_2 c_0 b_0 hr)
abbrev kj:Stmt:=top 1
noncomputable def q3o:List Str:=["thing"]
theorem qds:(q3o).Nodup:=by decide +kernel
theorem qdt:FnScope q3o ["thing"] (qc kj):=⟨rfl,rfl,rfl,qds,rfl,by decide +kernel,by decide +kernel⟩
noncomputable def q1f:FS:=(zb (q7g (q4j .int (eV 0)) (q7g (qgk (q4j .bool (eV 0))) (eOp oGe (eV 0) (eC (.int 0))))))
noncomputable def q08:List D->Option D:=z7 1 q1f
theorem q64{fa:Addr}{cdv:Value}{A:Around}{outer:List Env}{s:Shared}{H:Hp}{E:XK}(n_isinstance:mg "isinstance" = none)(n_int:mg "int" = none)(n_bool:mg "bool" = none)(hr:Room 0 (A.deeper (envOfC "is_number" (qc kj) s.heap.objs.size fa cdv))):
  PSs (zg CX0 P w K mg base q3o "is_number" (qc kj) fa cdv A outer s H E).nox (qp kj) (tDS K q1f):=by
 unfold q1f;refine(qj ?_);refine(z0 ?_);refine(q5k ?_ (q5k ?_ (q8b ?_)));refine(q2p .int rfl n_isinstance rfl n_int DL.boot_int ?_);exact(q0 (pv 0));refine(qii ?_);refine(q2p .bool rfl n_isinstance rfl n_bool DL.boot_bool ?_);exact(q0 (pv 0));refine(q5i qgj ?_ qg);exact(q0 (pv 0))
theorem qdu{fa:Addr}{dV:Value}{fd:FuncData}(F:Fun2 K "is_number" "is_number" kj dV fa fd)(n_isinstance:mg "isinstance" = none)(n_int:mg "int" = none)(n_bool:mg "bool" = none): FnOk P w K mg base CX0 1 fa fd ["thing"] (spD K 1 q08):=
 F.okn (k:=0) (n:=1) (ar:=1) (k1:=1) (u:=q1f) qdt rfl rfl rfl fun cdv A outer s H E hr=>(by first|(with_reducible exact q64 n_isinstance n_int n_bool hr)|exact q64 n_isinstance n_int n_bool hr)
abbrev kl:Stmt:=top 2
noncomputable def q3p:List Str:=["thing","lowest","highest"]
theorem qdv:(q3p).Nodup:=by decide +kernel
theorem qdw:FnScope q3p ["thing","lowest","highest"] (qc kl):=⟨rfl,rfl,rfl,qdv,rfl,by decide +kernel,by decide +kernel⟩
noncomputable def q09:FS:=(zb (q7g (qf (qo 1 [] q08) (qa (eV 0) qe)) (q8j oLe oLe (eV 1) (eV 0) (eV 2))))
noncomputable def km:List D->Option D:=z7 3 q09
theorem q65{fa:Addr}{cdv:Value}{A:Around}{outer:List Env}{s:Shared}{H:Hp}{E:XK}{a_is_number:Addr}{fd_is_number:FuncData}(c_5:Cal P w K mg base "is_number" 1 ["thing"] 1 q08 a_is_number fd_is_number)(b_5:Binds K fd_is_number ["thing"] [])(hr:Room 1 (A.deeper (envOfC "is_within" (qc kl) s.heap.objs.size fa cdv))):
  PSs (zg CX0 P w K mg base q3p "is_within" (qc kl) fa cdv A outer s H E).nox (qp kl) (tDS K q09):=by
 unfold q09;refine(qj ?_);refine(z0 ?_);refine(q5k ?_ (q8b ?_));refine(qq c_5 b_5 hr (by decide) rfl ?_);walk_at "A";exact(q0 (pv 0));exact qd;refine(qli qni qni ?_ ?_ ?_);exact(q0 (pv 1));exact(q0 (pv 0));exact(q0 (pv 2))
theorem qdx{fa:Addr}{dV:Value}{fd:FuncData}(F:Fun2 K "is_within" "is_within" kl dV fa fd){a_is_number:Addr}{fd_is_number:FuncData}(c_5:Cal P w K mg base "is_number" 1 ["thing"] 1 q08 a_is_number fd_is_number)(b_5:Binds K fd_is_number ["thing"] []): FnOk P w K mg base CX0 2 fa fd ["thing","lowest","highest"] (spD K 3 km):=
 F.okn (k:=1) (n:=3) (ar:=3) (k1:=2) (u:=q09) qdw rfl rfl rfl fun cdv A outer s H E hr=>(by first|(with_reducible exact q65 c_5 b_5 hr)|exact q65 c_5 b_5 hr)
abbrev q0t:Stmt:=top 29
noncomputable def q66:List Str:=["thing","wares"]
theorem qhd:(q66).Nodup:=by decide +kernel
theorem qhe:FnScope q66 ["thing","wares"] (qc q0t):=⟨rfl,rfl,rfl,qhd,rfl,by decide +kernel,by decide +kernel⟩
theorem q67:(["ware","higher","wares"]:List Str).Nodup:=by decide +kernel
noncomputable def q1x:FS:=(qz (sIf (bOr (q5j (bT (q4j .tuple (eV 0)))) (zy q7f (qf ko (qa (eV 0) qe)) (eV 1))) (zb (eC (.bl false))) yk) (zb (qf q7i (qa (eL (z6 (qgs (eV 0)) [none,none,some 1] (yh 2 (zh (bN 0) (zh (bN 1) yg))) zc (eOr (eOp (oIs false) (eV 1) (eC .non)) (qf (qo 3 [] km) (qa (eV 1) (qa (eOp zd (eV 0) (eC (.int 1))) (qa (eOp oSub (eV 2) (eC (.int 1))) qe))))))) qe))))
noncomputable def q1y:List D->Option D:=z7 2 q1x
theorem q95{fa:Addr}{cdv:Value}{A:Around}{outer:List Env}{s:Shared}{H:Hp}{E:XK}{a_is_within:Addr}{fd_is_within:FuncData}(c_7:Cal P w K mg base "is_within" 2 ["thing","lowest","highest"] 3 km a_is_within fd_is_within)(b_7:Binds K fd_is_within ["thing","lowest","highest"] [])(n_all:mg "all" = none)(n_isinstance:mg "isinstance" = none)(n_tuple:mg "tuple" = none)(n_len:mg "len" = none)(n_enumerate:mg "enumerate" = none)(hr:Room 2 (A.deeper (envOfC "is_tree" (qc q0t) s.heap.objs.size fa cdv))):
  PSs (zg CX0 P w K mg base q66 "is_tree" (qc q0t) fa cdv A outer s H E).nox (qp q0t) (tDS K q1x):=by
 unfold q1x;refine(qh ?_ ?_);refine(vw ?_ (qj ?_) x9);refine(PW.pt (qnj ?_ (qih ?_)));refine(q3x ?_);refine(ky ?_);refine(q2p .tuple rfl n_isinstance rfl n_tuple DL.boot_tuple ?_);exact(q0 (pv 0));refine(jq qc7 ?_ ?_);refine(zi (q04) rfl n_len DL.xu ?_);walk_at "A";exact(q0 (pv 0));exact qd;exact(q0 (pv 1));exact(z0 q26);refine(qj ?_);refine(z0 ?_);refine(zi (qio rfl) rfl n_all DL.boot_all ?_);walk_at "A";refine(ju ?_);refine(jl (N':=["ware","higher","wares"]) (cap:=[none,none,some 1]) rfl (zm rfl rfl) (w8 (zl rfl (zl rfl yw))) ?_ (fun _ _ _ _ _=>(q1n rfl (jk (qu q67 rfl (Or.inl rfl) (.inr rfl)) (jk (qu q67 rfl (Or.inl rfl) (.inr rfl)) q1m)))) (fun _ _ _ _ _=>ym) (fun _ _ _ _ _=>?_));refine(qon rfl n_enumerate ?_);exact(q0 (pv 0));refine(qtg ?_ (q8b ?_));refine(q5i (qtq rfl) ?_ q5g);exact(q0 (pv 1));refine(qq c_7 b_7 hr (by decide) rfl ?_);walk_at "A";exact(q0 (pv 1));walk_at "A";refine(qm j5 ?_ qg);exact(q0 (pv 0));walk_at "A";refine(qm q3v ?_ qg);exact(q0 (pv 2));exact qd;exact qd
theorem qhf{fa:Addr}{dV:Value}{fd:FuncData}(F:Fun2 K "is_tree" "is_tree" q0t dV fa fd){a_is_within:Addr}{fd_is_within:FuncData}(c_7:Cal P w K mg base "is_within" 2 ["thing","lowest","highest"] 3 km a_is_within fd_is_within)(b_7:Binds K fd_is_within ["thing","lowest","highest"] [])(n_all:mg "all" = none)(n_isinstance:mg "isinstance" = none)(n_tuple:mg "tuple" = none)(n_len:mg "len" = none)(n_enumerate:mg "enumerate" = none): FnOk P w K mg base CX0 3 fa fd ["thing","wares"] (spD K 2 q1y):=
 F.okn (k:=2) (n:=2) (ar:=2) (k1:=3) (u:=q1x) qhe rfl rfl rfl fun cdv A outer s H E hr=>(by first|(with_reducible exact q95 c_7 b_7 n_all n_isinstance n_tuple n_len n_enumerate hr)|exact q95 c_7 b_7 n_all n_isinstance n_tuple n_len n_enumerate hr)
abbrev q1c:Stmt:=top 9
noncomputable def q80:List Str:=["one","other"]
theorem qjt:(q80).Nodup:=by decide +kernel
theorem qju:FnScope q80 ["one","other"] (qc q1c):=⟨rfl,rfl,rfl,qjt,rfl,by decide +kernel,by decide +kernel⟩
noncomputable def q30:FS:=(zb (qf vc (qa (eL (qh1 (eV 0) (eV 1))) qe)))
noncomputable def yi:List D->Option D:=z7 2 q30
theorem qat{fa:Addr}{cdv:Value}{A:Around}{outer:List Env}{s:Shared}{H:Hp}{E:XK}(n_tuple:mg "tuple" = none)(n_sorted:mg "sorted" = none)(n_set:mg "set" = none)(hr:Room 0 (A.deeper (envOfC "joined" (qc q1c) s.heap.objs.size fa cdv))):
  PSs (zg CX0 P w K mg base q80 "joined" (qc q1c) fa cdv A outer s H E).nox (qp q1c) (tDS K q30):=by
 unfold q30;refine(qj ?_);refine(z0 ?_);refine(ja (vd) rfl n_tuple DL.boot_tuple ?_);walk_at "A";refine(ju ?_);refine(qpi rfl rfl n_sorted rfl n_set ?_ ?_);exact(q0 (pv 0));exact(q0 (pv 1));exact qd
theorem qjv{fa:Addr}{dV:Value}{fd:FuncData}(F:Fun2 K "joined" "joined" q1c dV fa fd)(n_tuple:mg "tuple" = none)(n_sorted:mg "sorted" = none)(n_set:mg "set" = none): FnOk P w K mg base CX0 1 fa fd ["one","other"] (spD K 2 yi):=
 F.okn (k:=0) (n:=2) (ar:=2) (k1:=1) (u:=q30) qju rfl rfl rfl fun cdv A outer s H E hr=>(by first|(with_reducible exact qat n_tuple n_sorted n_set hr)|exact qat n_tuple n_sorted n_set hr)
abbrev jx:Stmt:=top 24
noncomputable def q0k:List Str:=["above","ware","found","higher"]
theorem yj:(q0k).Nodup:=by decide +kernel
theorem q6y:FnScope q0k ["above","ware"] (qc jx):=⟨rfl,rfl,rfl,yj,rfl,by decide +kernel,by decide +kernel⟩
noncomputable def jr:FS:=(qz (wz 2 (eV 3)) (zp 3 (eOp oIx (eV 0) (eV 3))))
noncomputable def vg:FS:=(qz (q0e 2 (yu qe)) (qz (zp 3 (eOp oIx (eV 0) (eV 1))) (qz (jf (zy (oIs true) (eV 3) (eC .non)) jr 100000) (q0f 2 (zb (qf vc (qa (eV 2) qe)))))))
noncomputable def vh:List D->Option D:=z7 4 vg
theorem q25{fa:Addr}{cdv:Value}{A:Around}{outer:List Env}{s:Shared}{H:Hp}{E:XK}(n_tuple:mg "tuple" = none)(hr:Room 0 (A.deeper (envOfC "standing_above" (qc jx) s.heap.objs.size fa cdv))):
  PSs (zg CX0 P w K mg base q0k "standing_above" (qc jx) fa cdv A outer s H E).nox (qp jx) (tDS K vg):=by
 unfold vg jr;refine(qh ?_ ?_);exact(q1l (i:=2) yj rfl (Or.inl rfl) (vb qd));refine(qh ?_ ?_);refine(z9 (i:=3) ?_ ?_ ?_ ?_ ?_ ?_);exact yj;exact rfl;exact(Or.inl rfl);refine(vx ?_ ?_);exact(q0 (pv 0));exact(q0 (pv 1));exact rfl;walk_at "L";refine(qh ?_ ?_);refine(qc9 100000 uf ?_ (qh ?_ ?_));refine(jq (qlk rfl) ?_ q5g);exact(q0 (pv 3));refine(q2n (pv 2) ?_);exact(q0 (pv 3));refine(qj ?_);refine(z9 (i:=3) ?_ ?_ ?_ ?_ ?_ ?_);exact yj;exact rfl;exact(Or.inl rfl);refine(vx ?_ ?_);exact(q0 (pv 0));exact(q0 (pv 3));exact rfl;walk_at "L";refine(yl 2 (qj ?_));refine(z0 ?_);refine(ja (vd) rfl n_tuple DL.boot_tuple ?_);walk_at "A";exact(q0 (pv 2));exact qd
theorem q6z{fa:Addr}{dV:Value}{fd:FuncData}(F:Fun2 K "standing_above" "standing_above" jx dV fa fd)(n_tuple:mg "tuple" = none): FnOk P w K mg base CX0 1 fa fd ["above","ware"] (spD K 2 vh):=
 F.okn (k:=0) (n:=4) (ar:=2) (k1:=1) (u:=vg) q6y rfl rfl rfl fun cdv A outer s H E hr=>(by first|(with_reducible exact q25 n_tuple hr)|exact q25 n_tuple hr)
abbrev wu:Stmt:=top 25
noncomputable def q51:List Str:=["above","some","found","ware"]
theorem q1g:(q51).Nodup:=by decide +kernel
theorem qex:FnScope q51 ["above","some"] (qc wu):=⟨rfl,rfl,rfl,q1g,rfl,by decide +kernel,by decide +kernel⟩
noncomputable def k9:FS:=(zp 2 (qf (qo 2 [] yi) (qa (eV 2) (qa (qf (qo 2 [] vh) (qa (eV 0) (qa (eV 3) qe))) qe))))
noncomputable def q13:FS:=(qz (zp 2 (j7 qe)) (qz (xm (jo (eV 1)) (bN 3) k9) (zb (eV 2))))
noncomputable def xt:List D->Option D:=z7 4 q13
theorem q78{fa:Addr}{cdv:Value}{A:Around}{outer:List Env}{s:Shared}{H:Hp}{E:XK}{a_joined:Addr}{fd_joined:FuncData}(c_8:Cal P w K mg base "joined" 1 ["one","other"] 2 yi a_joined fd_joined)(b_8:Binds K fd_joined ["one","other"] []){a_standing_above:Addr}{fd_standing_above:FuncData}(c_30:Cal P w K mg base "standing_above" 1 ["above","ware"] 2 vh a_standing_above fd_standing_above)(b_30:Binds K fd_standing_above ["above","ware"] [])(hr:Room 1 (A.deeper (envOfC "kinds_of" (qc wu) s.heap.objs.size fa cdv))):
  PSs (zg CX0 P w K mg base q51 "kinds_of" (qc wu) fa cdv A outer s H E).nox (qp wu) (tDS K q13):=by
 unfold q13 k9;refine(qh ?_ ?_);refine(z9 (i:=2) ?_ ?_ ?_ ?_ ?_ ?_);exact q1g;exact rfl;exact(Or.inl rfl);exact(jz qd);exact rfl;walk_at "L";refine(qh ?_ ?_);refine(k6 uf rfl ?_ (qu q1g rfl (Or.inl rfl) (.inl rfl)) (qj ?_));refine(j0 ?_);exact(q0 (pv 1));refine(z9 (i:=2) ?_ ?_ ?_ ?_ ?_ ?_);exact q1g;exact rfl;exact(Or.inl rfl);refine(qq c_8 b_8 hr (by decide) rfl ?_);walk_at "A";exact(q0 (pv 2));walk_at "A";refine(qq c_30 b_30 hr (by decide) rfl ?_);walk_at "A";exact(q0 (pv 0));walk_at "A";exact(q0 (pv 3));exact qd;exact qd;exact rfl;walk_at "L";refine(qj ?_);refine(z0 ?_);exact(q0 (pv 2))
theorem qey{fa:Addr}{dV:Value}{fd:FuncData}(F:Fun2 K "kinds_of" "kinds_of" wu dV fa fd){a_joined:Addr}{fd_joined:FuncData}(c_8:Cal P w K mg base "joined" 1 ["one","other"] 2 yi a_joined fd_joined)(b_8:Binds K fd_joined ["one","other"] []){a_standing_above:Addr}{fd_standing_above:FuncData}(c_30:Cal P w K mg base "standing_above" 1 ["above","ware"] 2 vh a_standing_above fd_standing_above)(b_30:Binds K fd_standing_above ["above","ware"] []): FnOk P w K mg base CX0 2 fa fd ["above","some"] (spD K 2 xt):=
 F.okn (k:=1) (n:=4) (ar:=2) (k1:=2) (u:=q13) qex rfl rfl rfl fun cdv A outer s H E hr=>(by first|(with_reducible exact q78 c_8 b_8 c_30 b_30 hr)|exact q78 c_8 b_8 c_30 b_30 hr)
abbrev q1d:Stmt:=top 27
noncomputable def q81:List Str:=["pile","above"]
theorem qjw:(q81).Nodup:=by decide +kernel
theorem qjx:FnScope q81 ["pile","above"] (qc q1d):=⟨rfl,rfl,rfl,qjw,rfl,by decide +kernel,by decide +kernel⟩
theorem q79:(["many","basket","above"]:List Str).Nodup:=by decide +kernel
noncomputable def q31:FS:=(qz (sIf (q5j (bT (qf (qo 2 [] q1y) (qa (eV 1) (qa (eOp oIx (eV 0) (eC (.int 0))) qe))))) qiy yk) (zb (j7 (qa (eOp oIx (eV 0) (eC (.int 0))) (qa (qf vc (qa (eL (z6 (jo (eOp oIx (eV 0) (eC (.int 1)))) [none,none,some 1] (yh 2 (zh (bN 0) (zh (bN 1) yg))) zc (j7 (qa (eV 0) (qa (qf (qo 2 [] yi) (qa (eV 1) (qa (qf (qo 2 [] xt) (qa (eV 2) (qa (eV 1) qe))) qe))) qe))))) qe)) qe)))))
noncomputable def q32:List D->Option D:=z7 2 q31
theorem qau{fa:Addr}{cdv:Value}{A:Around}{outer:List Env}{s:Shared}{H:Hp}{E:XK}{a_is_tree:Addr}{fd_is_tree:FuncData}(c_6:Cal P w K mg base "is_tree" 3 ["thing","wares"] 2 q1y a_is_tree fd_is_tree)(b_6:Binds K fd_is_tree ["thing","wares"] []){a_joined:Addr}{fd_joined:FuncData}(c_8:Cal P w K mg base "joined" 1 ["one","other"] 2 yi a_joined fd_joined)(b_8:Binds K fd_joined ["one","other"] []){a_kinds_of:Addr}{fd_kinds_of:FuncData}(c_9:Cal P w K mg base "kinds_of" 2 ["above","some"] 2 xt a_kinds_of fd_kinds_of)(b_9:Binds K fd_kinds_of ["above","some"] [])(n_tuple:mg "tuple" = none)(hr:Room 3 (A.deeper (envOfC "lifted" (qc q1d) s.heap.objs.size fa cdv))):
  PSs (zg CX0 P w K mg base q81 "lifted" (qc q1d) fa cdv A outer s H E).nox (qp q1d) (tDS K q31):=by
 unfold q31;refine(qh ?_ ?_);refine(vw ?_ (qj qlo) x9);refine(q3x ?_);refine(ky ?_);refine(qq c_6 b_6 hr (by decide) rfl ?_);walk_at "A";exact(q0 (pv 1));walk_at "A";refine(vx ?_ qg);exact(q0 (pv 0));exact qd;refine(qj ?_);refine(z0 ?_);refine(jz ?_);walk_at "A";refine(vx ?_ qg);exact(q0 (pv 0));walk_at "A";refine(ja (vd) rfl n_tuple DL.boot_tuple ?_);walk_at "A";refine(ju ?_);refine(jl (N':=["many","basket","above"]) (cap:=[none,none,some 1]) rfl (zm rfl rfl) (w8 (zl rfl (zl rfl yw))) ?_ (fun _ _ _ _ _=>(q1n rfl (jk (qu q79 rfl (Or.inl rfl) (.inr rfl)) (jk (qu q79 rfl (Or.inl rfl) (.inr rfl)) q1m)))) (fun _ _ _ _ _=>ym) (fun _ _ _ _ _=>?_));refine(j0 ?_);refine(vx ?_ qg);exact(q0 (pv 0));refine(jz ?_);walk_at "A";exact(q0 (pv 0));walk_at "A";refine(qq c_8 b_8 hr (by decide) rfl ?_);walk_at "A";exact(q0 (pv 1));walk_at "A";refine(qq c_9 b_9 hr (by decide) rfl ?_);walk_at "A";exact(q0 (pv 2));walk_at "A";exact(q0 (pv 1));exact qd;exact qd;exact qd;exact qd;exact qd
theorem qjy{fa:Addr}{dV:Value}{fd:FuncData}(F:Fun2 K "lifted" "lifted" q1d dV fa fd){a_is_tree:Addr}{fd_is_tree:FuncData}(c_6:Cal P w K mg base "is_tree" 3 ["thing","wares"] 2 q1y a_is_tree fd_is_tree)(b_6:Binds K fd_is_tree ["thing","wares"] []){a_joined:Addr}{fd_joined:FuncData}(c_8:Cal P w K mg base "joined" 1 ["one","other"] 2 yi a_joined fd_joined)(b_8:Binds K fd_joined ["one","other"] []){a_kinds_of:Addr}{fd_kinds_of:FuncData}(c_9:Cal P w K mg base "kinds_of" 2 ["above","some"] 2 xt a_kinds_of fd_kinds_of)(b_9:Binds K fd_kinds_of ["above","some"] [])(n_tuple:mg "tuple" = none): FnOk P w K mg base CX0 4 fa fd ["pile","above"] (spD K 2 q32):=
 F.okn (k:=3) (n:=2) (ar:=2) (k1:=4) (u:=q31) qjx rfl rfl rfl fun cdv A outer s H E hr=>(by first|(with_reducible exact qau c_6 b_6 c_8 b_8 c_9 b_9 n_tuple hr)|exact qau c_6 b_6 c_8 b_8 c_9 b_9 n_tuple hr)
abbrev q48:Stmt:=top 26
noncomputable def qdy:List Str:=["above","some","kinds"]
theorem qg0:(qdy).Nodup:=by decide +kernel
theorem qpt:FnScope qdy ["above","some"] (qc q48):=⟨rfl,rfl,rfl,qg0,rfl,by decide +kernel,by decide +kernel⟩
theorem qjz:(["ware","kinds"]:List Str).Nodup:=by decide +kernel
noncomputable def q68:FS:=(qz (zp 2 (qf (qo 2 [] xt) (qa (eV 0) (qa (eV 1) qe)))) (zb (qf vc (qa (eL (z6 (jo (eV 1)) [none,some 2] (bN 0) (zy (oIn true) (eV 0) (eV 1)) (eV 0))) qe))))
noncomputable def q49:List D->Option D:=z7 3 q68
theorem qg1{fa:Addr}{cdv:Value}{A:Around}{outer:List Env}{s:Shared}{H:Hp}{E:XK}{a_kinds_of:Addr}{fd_kinds_of:FuncData}(c_9:Cal P w K mg base "kinds_of" 2 ["above","some"] 2 xt a_kinds_of fd_kinds_of)(b_9:Binds K fd_kinds_of ["above","some"] [])(n_tuple:mg "tuple" = none)(hr:Room 2 (A.deeper (envOfC "lean" (qc q48) s.heap.objs.size fa cdv))):
  PSs (zg CX0 P w K mg base qdy "lean" (qc q48) fa cdv A outer s H E).nox (qp q48) (tDS K q68):=by
 unfold q68;refine(qh ?_ ?_);refine(z9 (i:=2) ?_ ?_ ?_ ?_ ?_ ?_);exact qg0;exact rfl;exact(Or.inr rfl);refine(qq c_9 b_9 hr (by decide) rfl ?_);walk_at "A";exact(q0 (pv 0));walk_at "A";exact(q0 (pv 1));exact qd;exact rfl;walk_at "L";refine(qj ?_);refine(z0 ?_);refine(ja (vd) rfl n_tuple DL.boot_tuple ?_);walk_at "A";refine(ju ?_);refine(jl (N':=["ware","kinds"]) (cap:=[none,some 2]) rfl (zm rfl rfl) (j4 rfl) ?_ (fun _ _ _ _ _=>(qu qjz rfl (Or.inl rfl) (.inr rfl))) (fun _ _ _ _ _=>(q2o ?_)) (fun _ _ _ _ _=>?_));refine(j0 ?_);exact(q0 (pv 1));refine(jq qcj ?_ ?_);exact(q0 (pv 0));exact(q0 (pv 1));exact(q0 (pv 0));exact qd
theorem qpu{fa:Addr}{dV:Value}{fd:FuncData}(F:Fun2 K "lean" "lean" q48 dV fa fd){a_kinds_of:Addr}{fd_kinds_of:FuncData}(c_9:Cal P w K mg base "kinds_of" 2 ["above","some"] 2 xt a_kinds_of fd_kinds_of)(b_9:Binds K fd_kinds_of ["above","some"] [])(n_tuple:mg "tuple" = none): FnOk P w K mg base CX0 3 fa fd ["above","some"] (spD K 2 q49):=
 F.okn (k:=2) (n:=3) (ar:=2) (k1:=3) (u:=q68) qpt rfl rfl rfl fun cdv A outer s H E hr=>(by first|(with_reducible exact qg1 c_9 b_9 n_tuple hr)|exact qg1 c_9 b_9 n_tuple hr)
abbrev vt:Stmt:=top 28
noncomputable def q22:List Str:=["pile","above","least","pairs"]
theorem q4a:(q22).Nodup:=by decide +kernel
theorem qa4:FnScope q22 ["pile","above","least"] (qc vt):=⟨rfl,rfl,rfl,q4a,rfl,by decide +kernel,by decide +kernel⟩
theorem q82:(["pair","above"]:List Str).Nodup:=by decide +kernel
noncomputable def kb:FS:=(qz (zp 3 (qd6 "Growing" 3 yb (eC (.obj "Growing")) (qa (qf (qo 2 [] q32) (qa (eV 0) (qa (eV 1) qe))) (qa (eV 2) qe)))) (zb (qf vc (qa (eL (z6 (jo (eV 3)) [none,some 1] (bN 0) (zy oEq (qf (qo 2 [] q49) (qa (eV 1) (qa (eOp oIx (eV 0) (eC (.int 0))) qe))) (eOp oIx (eV 0) (eC (.int 0)))) (eV 0))) qe))))
noncomputable def jn:List D->Option D:=z7 4 kb
theorem q4b{fa:Addr}{cdv:Value}{A:Around}{outer:List Env}{s:Shared}{H:Hp}{E:XK}{C_Growing:Addr}(O_Growing:ClsOk K "Growing" C_Growing)(m_Growing:mg "Growing" = some (.ref C_Growing)){a_Growing_often:Addr}{fd_Growing_often:FuncData}(c_1:CalM P w K mg base "Growing" "often" C_Growing 4 ["self","pile","least"] 3 yb a_Growing_often fd_Growing_often)(b_1:Binds K fd_Growing_often ["self","pile","least"] []){a_lifted:Addr}{fd_lifted:FuncData}(c_24:Cal P w K mg base "lifted" 4 ["pile","above"] 2 q32 a_lifted fd_lifted)(b_24:Binds K fd_lifted ["pile","above"] []){a_lean:Addr}{fd_lean:FuncData}(c_23:Cal P w K mg base "lean" 3 ["above","some"] 2 q49 a_lean fd_lean)(b_23:Binds K fd_lean ["above","some"] [])(n_tuple:mg "tuple" = none)(hr:Room 4 (A.deeper (envOfC "often_kinds" (qc vt) s.heap.objs.size fa cdv))):
  PSs (zg CX0 P w K mg base q22 "often_kinds" (qc vt) fa cdv A outer s H E).nox (qp vt) (tDS K kb):=by
 unfold kb;refine(qh ?_ ?_);refine(z9 (i:=3) ?_ ?_ ?_ ?_ ?_ ?_);exact q4a;exact rfl;exact(Or.inl rfl);refine(qj9 O_Growing c_1 b_1 hr (by decide) ?_ ?_);exact(qs2 O_Growing m_Growing rfl);walk_at "A";refine(qq c_24 b_24 hr (by decide) rfl ?_);walk_at "A";exact(q0 (pv 0));walk_at "A";exact(q0 (pv 1));exact qd;walk_at "A";exact(q0 (pv 2));exact qd;exact rfl;walk_at "L";refine(qj ?_);refine(z0 ?_);refine(ja (vd) rfl n_tuple DL.boot_tuple ?_);walk_at "A";refine(ju ?_);refine(jl (N':=["pair","above"]) (cap:=[none,some 1]) rfl (zm rfl rfl) (j4 rfl) ?_ (fun _ _ _ _ _=>(qu q82 rfl (Or.inl rfl) (.inr rfl))) (fun _ _ _ _ _=>(q2o ?_)) (fun _ _ _ _ _=>?_));refine(j0 ?_);exact(q0 (pv 3));refine(jq (q28 hr.units) ?_ ?_);refine(qq c_23 b_23 hr (by decide) rfl ?_);walk_at "A";exact(q0 (pv 1));walk_at "A";refine(vx ?_ qg);exact(q0 (pv 0));exact qd;refine(vx ?_ qg);exact(q0 (pv 0));exact(q0 (pv 0));exact qd
theorem qa5{fa:Addr}{dV:Value}{fd:FuncData}(F:Fun2 K "often_kinds" "often_kinds" vt dV fa fd){C_Growing:Addr}(O_Growing:ClsOk K "Growing" C_Growing)(m_Growing:mg "Growing" = some (.ref C_Growing)){a_Growing_often:Addr}{fd_Growing_often:FuncData}(c_1:CalM P w K mg base "Growing" "often" C_Growing 4 ["self","pile","least"] 3 yb a_Growing_often fd_Growing_often)(b_1:Binds K fd_Growing_often ["self","pile","least"] []){a_lifted:Addr}{fd_lifted:FuncData}(c_24:Cal P w K mg base "lifted" 4 ["pile","above"] 2 q32 a_lifted fd_lifted)(b_24:Binds K fd_lifted ["pile","above"] []){a_lean:Addr}{fd_lean:FuncData}(c_23:Cal P w K mg base "lean" 3 ["above","some"] 2 q49 a_lean fd_lean)(b_23:Binds K fd_lean ["above","some"] [])(n_tuple:mg "tuple" = none): FnOk P w K mg base CX0 5 fa fd ["pile","above","least"] (spD K 3 jn):=
 F.okn (k:=4) (n:=4) (ar:=3) (k1:=5) (u:=kb) qa4 rfl rfl rfl fun cdv A outer s H E hr=>(by first|(with_reducible exact q4b O_Growing m_Growing c_1 b_1 c_24 b_24 c_23 b_23 n_tuple hr)|exact q4b O_Growing m_Growing c_1 b_1 c_24 b_24 c_23 b_23 n_tuple hr)
abbrev yr:Stmt:=top 38
noncomputable def q33:List Str:=["_law_above_here","_law_basket","_law_there","_law_ware"]
theorem q0d:(q33).Nodup:=by decide +kernel
theorem qbg:FnScope q33 ["_law_above_here","_law_basket"] (qc yr):=⟨rfl,rfl,rfl,q0d,rfl,by decide +kernel,by decide +kernel⟩
noncomputable def yc:FS:=(zp 2 (eOp zd (eV 2) (qf (qo 2 [] y8) (qa (eV 0) (qa (eV 3) qe)))))
noncomputable def wc:FS:=(qz (zp 2 (eL (q6l q8h (qa (eV 1) qe)))) (qz (xm (jo (eV 1)) (bN 3) yc) (zb (eV 2))))
noncomputable def vi:List D->Option D:=z7 4 wc
theorem q59{fa:Addr}{cdv:Value}{A:Around}{outer:List Env}{s:Shared}{H:Hp}{E:XK}{a__law_over:Addr}{fd__law_over:FuncData}(c_20:Cal P w K mg base "_law_over" 1 ["_law_above_here","_law_ware"] 2 y8 a__law_over fd__law_over)(b_20:Binds K fd__law_over ["_law_above_here","_law_ware"] [])(n_list:mg "list" = none)(hr:Room 1 (A.deeper (envOfC "_law_lifted" (qc yr) s.heap.objs.size fa cdv))):
  PSs (zg CX0 P w K mg base q33 "_law_lifted" (qc yr) fa cdv A outer s H E).nox (qp yr) (tDS K wc):=by
 unfold wc yc;refine(qh ?_ ?_);refine(z9 (i:=2) ?_ ?_ ?_ ?_ ?_ ?_);exact q0d;exact rfl;exact(Or.inl rfl);refine(ju ?_);refine(qiq (qoh) rfl n_list DL.boot_list ?_);walk_at "A";exact(q0 (pv 1));exact qd;exact rfl;walk_at "L";refine(qh ?_ ?_);refine(k6 uf rfl ?_ (qu q0d rfl (Or.inl rfl) (.inl rfl)) (qj ?_));refine(j0 ?_);exact(q0 (pv 1));refine(z9 (i:=2) ?_ ?_ ?_ ?_ ?_ ?_);exact q0d;exact rfl;exact(Or.inl rfl);refine(qm j5 ?_ ?_);exact(q0 (pv 2));refine(qq c_20 b_20 hr (by decide) rfl ?_);walk_at "A";exact(q0 (pv 0));walk_at "A";exact(q0 (pv 3));exact qd;exact rfl;walk_at "L";refine(qj ?_);refine(z0 ?_);exact(q0 (pv 2))
theorem qbh{fa:Addr}{dV:Value}{fd:FuncData}(F:Fun2 K "_law_lifted" "_law_lifted" yr dV fa fd){a__law_over:Addr}{fd__law_over:FuncData}(c_20:Cal P w K mg base "_law_over" 1 ["_law_above_here","_law_ware"] 2 y8 a__law_over fd__law_over)(b_20:Binds K fd__law_over ["_law_above_here","_law_ware"] [])(n_list:mg "list" = none): FnOk P w K mg base CX0 2 fa fd ["_law_above_here","_law_basket"] (spD K 2 vi):=
 F.okn (k:=1) (n:=4) (ar:=2) (k1:=2) (u:=wc) qbg rfl rfl rfl fun cdv A outer s H E hr=>(by first|(with_reducible exact q59 c_20 b_20 n_list hr)|exact q59 c_20 b_20 n_list hr)
abbrev q6r:Stmt:=top 44
noncomputable def qhg:List Str:=["_law_script","_law_wares","_law_above_here","_law_runs","_law_k","_law_number_here","_law_many","_law_pile","_law_raised","_law_least","_law_due_here","_law_flat","_law_one","_law_other"]
theorem xf:(qhg).Nodup:=by decide +kernel
theorem qsl:FnScope qhg ["_law_script"] (qc q6r):=⟨rfl,rfl,rfl,xf,rfl,by decide +kernel,by decide +kernel⟩
theorem qdz:(["_law_many","_law_basket","_law_above_here"]:List Str).Nodup:=by decide +kernel
theorem qe0:(["_law_many","_law_basket","_law_other"]:List Str).Nodup:=by decide +kernel
noncomputable def q34:FS:=(qz (zp 5 (qf (qo 2 [] xc) (qa (eV 0) (qa (eOp zd (eC (.int 2)) (eV 4)) qe)))) (qz (zp 6 (eOp zd (eC (.int 1)) (eOp oMod (eOp oDiv (eV 5) (eC (.int 65536))) (eOp oIx (eL (yu (qa (eC (.int 9)) (qa (eOp oPow (eC (.int 10)) (eC (.int 12))) qe)))) (eOp oMod (eOp oDiv (eV 5) (eC (.int 256))) (eC (.int 2))))))) (wz 3 (j7 (qa (eV 6) (qa (qf (qo 2 [] y4) (qa (eOp oMod (eV 5) (eC (.int 64))) (qa (eV 1) qe))) qe))))))
noncomputable def q52:FS:=(qz (q0e 8 (z6 (jo (eV 3)) [none,none,some 13] (yh 2 (zh (bN 0) (zh (bN 1) yg))) zc (j7 (qa (eV 0) (qa (qf (qo 2 [] vi) (qa (eV 2) (qa (eV 1) qe))) qe))))) (q0f 8 (sIf (q5j (bT (qf (qo 2 [] yx) (qa (qf (qo 3 [] jn) (qa (eV 7) (qa (eV 13) (qa (eV 9) qe)))) (qa (qf (qo 3 [] wb) (qa (eV 8) (qa (eV 13) (qa (eV 9) qe)))) qe))))) (zb (eC (.bl false))) yk)))
noncomputable def q6s:FS:=(qz (zp 1 (eOp oMod (eOp oDiv (qf (qo 2 [] zo) (qa (eV 0) (qa (eC (.int 0)) qe))) (eC (.int 2))) (eC (.int 6)))) (qz (zp 2 (qf (qo 2 [] q06) (qa (qf (qo 2 [] xc) (qa (eV 0) (qa (eC (.int 1)) qe))) (qa (eV 1) qe)))) (qz (q0e 3 (yu qe)) (qz (xm (iR1 (qa (qf (qo 1 [] xi) (qa (eV 0) qe)) qe)) (bN 4) q34) (q0f 3 (qz (zp 7 (j7 (qa (eV 1) (qa (qf vc (qa (eV 3) qe)) qe)))) (qz (q0e 8 (z6 (jo (eV 3)) [none,none,some 2] (yh 2 (zh (bN 0) (zh (bN 1) yg))) zc (j7 (qa (eV 0) (qa (qf (qo 2 [] vi) (qa (eV 2) (qa (eV 1) qe))) qe))))) (q0f 8 (qz (zp 5 (qf (qo 2 [] zj) (qa (qf (qo 2 [] zo) (qa (eV 0) (qa (eC (.int 0)) qe))) (qa (eC (.int 7)) qe)))) (qz (zp 9 (qf oMax (qa (eC (.int 1)) (qa (eOp zd (qf (qo 2 [] xw) (qa (eV 8) (qa (qf (qo 2 [] y4) (qa (eOp oMod (eV 5) (eC (.int 64))) (qa (eV 1) qe))) qe))) (eOp oMod (eOp oDiv (eV 5) (eC (.int 64))) (eC (.int 2)))) qe)))) (qz (sIf (zy oEq (eOp oMod (eOp oDiv (eV 5) (eC (.int 128))) (eC (.int 8))) (eC (.int 0))) (zp 9 (eOp zd (eC (.int 1)) (eOp oMod (eOp zq (eV 5) (eV 5)) (eOp oPow (eC (.int 10)) (eC (.int 13)))))) yk) (qz (zp 10 (qf (qo 3 [] wb) (qa (eV 8) (qa (eV 2) (qa (eV 9) qe))))) (qz (sIf (q5j (bT (qf (qo 2 [] yx) (qa (qf (qo 3 [] jn) (qa (eV 7) (qa (eV 2) (qa (eV 9) qe)))) (qa (eV 10) qe))))) (zb (eC (.bl false))) yk) (qz (zp 11 (eOp zq (j7 (qa (eC .non) qe)) (eV 1))) (qz (zp 12 (eOp zd (eOp zq (j7 (qa (eOp oSub (eV 1) (eC (.int 1))) qe)) (qf oMax (qa (eC (.int 0)) (qa (eOp oSub (eV 1) (eC (.int 1))) qe)))) (eOp zq (j7 (qa (eC .non) qe)) (qf oMin (qa (eC (.int 1)) (qa (eV 1) qe)))))) (qz (xm (jo (eL (yu (qa (eV 11) (qa (eV 12) qe))))) (bN 13) q52) (q0f 8 (zb (qf (qo 2 [] yx) (qa (qf (qo 3 [] jn) (qa (eV 7) (qa (eV 2) (qa (eV 9) qe)))) (qa (eV 10) qe)))))))))))))))))))))
noncomputable def qhh:List D->Option D:=z7 14 q6s
theorem qk0{fa:Addr}{cdv:Value}{A:Around}{outer:List Env}{s:Shared}{H:Hp}{E:XK}{a__law_above:Addr}{fd__law_above:FuncData}(c_10:Cal P w K mg base "_law_above" 1 ["_law_number_here","_law_wares"] 2 q06 a__law_above fd__law_above)(b_10:Binds K fd__law_above ["_law_number_here","_law_wares"] []){a__law_mixed:Addr}{fd__law_mixed:FuncData}(c_18:Cal P w K mg base "_law_mixed" 1 ["_law_cell_here","_law_k"] 2 zj a__law_mixed fd__law_mixed)(b_18:Binds K fd__law_mixed ["_law_cell_here","_law_k"] []){a__law_due:Addr}{fd__law_due:FuncData}(c_14:Cal P w K mg base "_law_due" 5 ["_law_runs","_law_above_here","_law_least"] 3 wb a__law_due fd__law_due)(b_14:Binds K fd__law_due ["_law_runs","_law_above_here","_law_least"] []){a__law_same:Addr}{fd__law_same:FuncData}(c_21:Cal P w K mg base "_law_same" 17 ["_law_found","_law_due_here"] 2 yx a__law_same fd__law_same)(b_21:Binds K fd__law_same ["_law_found","_law_due_here"] []){a__law_number:Addr}{fd__law_number:FuncData}(c_19:Cal P w K mg base "_law_number" 2 ["_law_script","_law_k"] 2 xc a__law_number fd__law_number)(b_19:Binds K fd__law_number ["_law_script","_law_k"] []){a__law_many_runs:Addr}{fd__law_many_runs:FuncData}(c_17:Cal P w K mg base "_law_many_runs" 2 ["_law_script"] 1 xi a__law_many_runs fd__law_many_runs)(b_17:Binds K fd__law_many_runs ["_law_script"] []){a__law_cell:Addr}{fd__law_cell:FuncData}(c_12:Cal P w K mg base "_law_cell" 1 ["_law_script","_law_k"] 2 zo a__law_cell fd__law_cell)(b_12:Binds K fd__law_cell ["_law_script","_law_k"] []){a_often_kinds:Addr}{fd_often_kinds:FuncData}(c_27:Cal P w K mg base "often_kinds" 5 ["pile","above","least"] 3 jn a_often_kinds fd_often_kinds)(b_27:Binds K fd_often_kinds ["pile","above","least"] []){a__law_lifted:Addr}{fd__law_lifted:FuncData}(c_16:Cal P w K mg base "_law_lifted" 2 ["_law_above_here","_law_basket"] 2 vi a__law_lifted fd__law_lifted)(b_16:Binds K fd__law_lifted ["_law_above_here","_law_basket"] []){a__law_count:Addr}{fd__law_count:FuncData}(c_13:Cal P w K mg base "_law_count" 1 ["_law_runs","_law_some"] 2 xw a__law_count fd__law_count)(b_13:Binds K fd__law_count ["_law_runs","_law_some"] []){a__law_set:Addr}{fd__law_set:FuncData}(c_22:Cal P w K mg base "_law_set" 1 ["_law_mark","_law_wares"] 2 y4 a__law_set fd__law_set)(b_22:Binds K fd__law_set ["_law_mark","_law_wares"] [])(n_range:mg "range" = none)(n_max:mg "max" = none)(n_tuple:mg "tuple" = none)(n_min:mg "min" = none)(hr:Room 17 (A.deeper (envOfC "law" (qc q6r) s.heap.objs.size fa cdv))):
  PSs (zg CX0 P w K mg base qhg "law" (qc q6r) fa cdv A outer s H E).nox (qp q6r) (tDS K q6s):=by
 unfold q6s q52 q34;refine(qh ?_ ?_);refine(z9 (i:=1) ?_ ?_ ?_ ?_ ?_ ?_);exact xf;exact rfl;exact(Or.inl rfl);refine(qm j9 ?_ qg);refine(qm q3w ?_ qg);refine(qq c_12 b_12 hr (by decide) rfl ?_);walk_at "A";exact(q0 (pv 0));walk_at "A";exact qg;exact qd;exact rfl;walk_at "L";refine(qh ?_ ?_);refine(z9 (i:=2) ?_ ?_ ?_ ?_ ?_ ?_);exact xf;exact rfl;exact(Or.inr rfl);refine(qq c_10 b_10 hr (by decide) rfl ?_);walk_at "A";refine(qq c_19 b_19 hr (by decide) rfl ?_);walk_at "A";exact(q0 (pv 0));walk_at "A";exact qg;exact qd;walk_at "A";exact(q0 (pv 1));exact qd;exact rfl;walk_at "L";refine(qh ?_ ?_);exact(q1l (i:=3) xf rfl (Or.inl rfl) (vb qd));refine(qh ?_ ?_);refine(k6 uf rfl ?_ (qu xf rfl (Or.inl rfl) (.inl rfl)) (qh ?_ ?_));refine(q0o rfl n_range ?_);walk_at "A";refine(qq c_17 b_17 hr (by decide) rfl ?_);walk_at "A";exact(q0 (pv 0));exact qd;exact qd;refine(z9 (i:=5) ?_ ?_ ?_ ?_ ?_ ?_);exact xf;exact rfl;exact(Or.inl rfl);refine(qq c_19 b_19 hr (by decide) rfl ?_);walk_at "A";exact(q0 (pv 0));walk_at "A";refine(qm j5 qg ?_);exact(q0 (pv 4));exact qd;exact rfl;walk_at "L";refine(qh ?_ ?_);refine(z9 (i:=6) ?_ ?_ ?_ ?_ ?_ ?_);exact xf;exact rfl;exact(Or.inl rfl);refine(qm j5 qg ?_);refine(qm j9 ?_ ?_);refine(qm q3w ?_ qg);exact(q0 (pv 5));refine(vx ?_ ?_);refine(ju ?_);refine(vb ?_);walk_at "A";exact qg;walk_at "A";exact(qm qc6 qg qg);exact qd;refine(qm j9 ?_ qg);refine(qm q3w ?_ qg);exact(q0 (pv 5));exact rfl;walk_at "L";refine(qj ?_);refine(q2n (pv 3) ?_);refine(jz ?_);walk_at "A";exact(q0 (pv 6));walk_at "A";refine(qq c_22 b_22 hr (by decide) rfl ?_);walk_at "A";refine(qm j9 ?_ qg);exact(q0 (pv 5));walk_at "A";exact(q0 (pv 1));exact qd;exact qd;refine(yl 3 (qh ?_ ?_));refine(z9 (i:=7) ?_ ?_ ?_ ?_ ?_ ?_);exact xf;exact rfl;exact(Or.inl rfl);refine(jz ?_);walk_at "A";exact(q0 (pv 1));walk_at "A";refine(ja (vd) rfl n_tuple DL.boot_tuple ?_);walk_at "A";exact(q0 (pv 3));exact qd;exact qd;exact rfl;walk_at "L";refine(qh ?_ ?_);refine(q9i (i:=8) rfl xf rfl rfl (N':=["_law_many","_law_basket","_law_above_here"]) (cap:=[none,none,some 2]) (zm rfl rfl) (w8 (zl rfl (zl rfl yw))) ?_ (fun _ _ _ _ _=>(q1n rfl (jk (qu qdz rfl (Or.inl rfl) (.inr rfl)) (jk (qu qdz rfl (Or.inl rfl) (.inr rfl)) q1m)))) (fun _ _ _ _ _=>ym) (fun _ _ _ _ _=>?_));refine(j0 ?_);exact(q0 (pv 3));refine(jz ?_);walk_at "A";exact(q0 (pv 0));walk_at "A";refine(qq c_16 b_16 hr (by decide) rfl ?_);walk_at "A";exact(q0 (pv 2));walk_at "A";exact(q0 (pv 1));exact qd;exact qd;refine(yl 8 (qh ?_ ?_));refine(z9 (i:=5) ?_ ?_ ?_ ?_ ?_ ?_);exact xf;exact rfl;exact(Or.inl rfl);refine(qq c_18 b_18 hr (by decide) rfl ?_);walk_at "A";refine(qq c_12 b_12 hr (by decide) rfl ?_);walk_at "A";exact(q0 (pv 0));walk_at "A";exact qg;exact qd;walk_at "A";exact qg;exact qd;exact rfl;walk_at "L";refine(qh ?_ ?_);refine(z9 (i:=9) ?_ ?_ ?_ ?_ ?_ ?_);exact xf;exact rfl;exact(Or.inl rfl);refine(zi (q8g rfl) rfl n_max DL.boot_max ?_);walk_at "A";exact qg;walk_at "A";refine(qm j5 ?_ ?_);refine(qq c_13 b_13 hr (by decide) rfl ?_);walk_at "A";exact(q0 (pv 8));walk_at "A";refine(qq c_22 b_22 hr (by decide) rfl ?_);walk_at "A";refine(qm j9 ?_ qg);exact(q0 (pv 5));walk_at "A";exact(q0 (pv 1));exact qd;exact qd;refine(qm j9 ?_ qg);refine(qm q3w ?_ qg);exact(q0 (pv 5));exact qd;exact rfl;walk_at "L";refine(qh ?_ ?_);refine(vw ?_ (qj ?_) x9);refine(jq (q28 hr.units) ?_ qg);refine(qm j9 ?_ qg);refine(qm q3w ?_ qg);exact(q0 (pv 5));refine(z9 (i:=9) ?_ ?_ ?_ ?_ ?_ ?_);exact xf;exact rfl;exact(Or.inl rfl);refine(qm j5 qg ?_);refine(qm j9 ?_ ?_);refine(qm xn ?_ ?_);exact(q0 (pv 5));exact(q0 (pv 5));exact(qm qc6 qg qg);exact rfl;walk_at "L";refine(qh ?_ ?_);refine(z9 (i:=10) ?_ ?_ ?_ ?_ ?_ ?_);exact xf;exact rfl;exact(Or.inl rfl);refine(qq c_14 b_14 hr (by decide) rfl ?_);walk_at "A";exact(q0 (pv 8));walk_at "A";exact(q0 (pv 2));walk_at "A";exact(q0 (pv 9));exact qd;exact rfl;walk_at "L";refine(qh ?_ ?_);refine(vw ?_ (qj ?_) x9);refine(q3x ?_);refine(ky ?_);refine(qq c_21 b_21 hr (by decide) rfl ?_);walk_at "A";refine(qq c_27 b_27 hr (by decide) rfl ?_);walk_at "A";exact(q0 (pv 7));walk_at "A";exact(q0 (pv 2));walk_at "A";exact(q0 (pv 9));exact qd;walk_at "A";exact(q0 (pv 10));exact qd;exact(z0 q26);refine(qh ?_ ?_);refine(z9 (i:=11) ?_ ?_ ?_ ?_ ?_ ?_);exact xf;exact rfl;exact(Or.inl rfl);refine(qm xn ?_ ?_);refine(jz ?_);walk_at "A";exact q5g;exact qd;exact(q0 (pv 1));exact rfl;walk_at "L";refine(qh ?_ ?_);refine(z9 (i:=12) ?_ ?_ ?_ ?_ ?_ ?_);exact xf;exact rfl;exact(Or.inl rfl);refine(qm j5 ?_ ?_);refine(qm xn ?_ ?_);refine(jz ?_);walk_at "A";refine(qm q3v ?_ qg);exact(q0 (pv 1));exact qd;refine(zi (q8g rfl) rfl n_max DL.boot_max ?_);walk_at "A";exact qg;walk_at "A";refine(qm q3v ?_ qg);exact(q0 (pv 1));exact qd;refine(qm xn ?_ ?_);refine(jz ?_);walk_at "A";exact q5g;exact qd;refine(zi (qip rfl) rfl n_min DL.boot_min ?_);walk_at "A";exact qg;walk_at "A";exact(q0 (pv 1));exact qd;exact rfl;walk_at "L";refine(qh ?_ ?_);refine(k6 uf rfl ?_ (qu xf rfl (Or.inr rfl) (.inl rfl)) (qh ?_ ?_));refine(j0 ?_);refine(ju ?_);refine(vb ?_);walk_at "A";exact(q0 (pv 11));walk_at "A";exact(q0 (pv 12));exact qd;refine(q9i (i:=8) rfl xf rfl rfl (N':=["_law_many","_law_basket","_law_other"]) (cap:=[none,none,some 13]) (zm rfl rfl) (w8 (zl rfl (zl rfl yw))) ?_ (fun _ _ _ _ _=>(q1n rfl (jk (qu qe0 rfl (Or.inl rfl) (.inr rfl)) (jk (qu qe0 rfl (Or.inl rfl) (.inr rfl)) q1m)))) (fun _ _ _ _ _=>ym) (fun _ _ _ _ _=>?_));refine(j0 ?_);exact(q0 (pv 3));refine(jz ?_);walk_at "A";exact(q0 (pv 0));walk_at "A";refine(qq c_16 b_16 hr (by decide) rfl ?_);walk_at "A";exact(q0 (pv 2));walk_at "A";exact(q0 (pv 1));exact qd;exact qd;refine(yl 8 (qj ?_));refine(vw ?_ (qj ?_) x9);refine(q3x ?_);refine(ky ?_);refine(qq c_21 b_21 hr (by decide) rfl ?_);walk_at "A";refine(qq c_27 b_27 hr (by decide) rfl ?_);walk_at "A";exact(q0 (pv 7));walk_at "A";exact(q0 (pv 13));walk_at "A";exact(q0 (pv 9));exact qd;walk_at "A";refine(qq c_14 b_14 hr (by decide) rfl ?_);walk_at "A";exact(q0 (pv 8));walk_at "A";exact(q0 (pv 13));walk_at "A";exact(q0 (pv 9));exact qd;exact qd;exact(z0 q26);refine(yl 8 (qj ?_));refine(z0 ?_);refine(qq c_21 b_21 hr (by decide) rfl ?_);walk_at "A";refine(qq c_27 b_27 hr (by decide) rfl ?_);walk_at "A";exact(q0 (pv 7));walk_at "A";exact(q0 (pv 2));walk_at "A";exact(q0 (pv 9));exact qd;walk_at "A";exact(q0 (pv 10));exact qd
theorem qsm{fa:Addr}{dV:Value}{fd:FuncData}(F:Fun2 K "law" "law" q6r dV fa fd){a__law_above:Addr}{fd__law_above:FuncData}(c_10:Cal P w K mg base "_law_above" 1 ["_law_number_here","_law_wares"] 2 q06 a__law_above fd__law_above)(b_10:Binds K fd__law_above ["_law_number_here","_law_wares"] []){a__law_mixed:Addr}{fd__law_mixed:FuncData}(c_18:Cal P w K mg base "_law_mixed" 1 ["_law_cell_here","_law_k"] 2 zj a__law_mixed fd__law_mixed)(b_18:Binds K fd__law_mixed ["_law_cell_here","_law_k"] []){a__law_due:Addr}{fd__law_due:FuncData}(c_14:Cal P w K mg base "_law_due" 5 ["_law_runs","_law_above_here","_law_least"] 3 wb a__law_due fd__law_due)(b_14:Binds K fd__law_due ["_law_runs","_law_above_here","_law_least"] []){a__law_same:Addr}{fd__law_same:FuncData}(c_21:Cal P w K mg base "_law_same" 17 ["_law_found","_law_due_here"] 2 yx a__law_same fd__law_same)(b_21:Binds K fd__law_same ["_law_found","_law_due_here"] []){a__law_number:Addr}{fd__law_number:FuncData}(c_19:Cal P w K mg base "_law_number" 2 ["_law_script","_law_k"] 2 xc a__law_number fd__law_number)(b_19:Binds K fd__law_number ["_law_script","_law_k"] []){a__law_many_runs:Addr}{fd__law_many_runs:FuncData}(c_17:Cal P w K mg base "_law_many_runs" 2 ["_law_script"] 1 xi a__law_many_runs fd__law_many_runs)(b_17:Binds K fd__law_many_runs ["_law_script"] []){a__law_cell:Addr}{fd__law_cell:FuncData}(c_12:Cal P w K mg base "_law_cell" 1 ["_law_script","_law_k"] 2 zo a__law_cell fd__law_cell)(b_12:Binds K fd__law_cell ["_law_script","_law_k"] []){a_often_kinds:Addr}{fd_often_kinds:FuncData}(c_27:Cal P w K mg base "often_kinds" 5 ["pile","above","least"] 3 jn a_often_kinds fd_often_kinds)(b_27:Binds K fd_often_kinds ["pile","above","least"] []){a__law_lifted:Addr}{fd__law_lifted:FuncData}(c_16:Cal P w K mg base "_law_lifted" 2 ["_law_above_here","_law_basket"] 2 vi a__law_lifted fd__law_lifted)(b_16:Binds K fd__law_lifted ["_law_above_here","_law_basket"] []){a__law_count:Addr}{fd__law_count:FuncData}(c_13:Cal P w K mg base "_law_count" 1 ["_law_runs","_law_some"] 2 xw a__law_count fd__law_count)(b_13:Binds K fd__law_count ["_law_runs","_law_some"] []){a__law_set:Addr}{fd__law_set:FuncData}(c_22:Cal P w K mg base "_law_set" 1 ["_law_mark","_law_wares"] 2 y4 a__law_set fd__law_set)(b_22:Binds K fd__law_set ["_law_mark","_law_wares"] [])(n_range:mg "range" = none)(n_max:mg "max" = none)(n_tuple:mg "tuple" = none)(n_min:mg "min" = none): FnOk P w K mg base CX0 18 fa fd ["_law_script"] (spD K 1 qhh):=
 F.okn (k:=17) (n:=14) (ar:=1) (k1:=18) (u:=q6s) qsl rfl rfl rfl fun cdv A outer s H E hr=>(by first|(with_reducible exact qk0 c_10 b_10 c_18 b_18 c_14 b_14 c_21 b_21 c_19 b_19 c_17 b_17 c_12 b_12 c_27 b_27 c_16 b_16 c_13 b_13 c_22 b_22 n_range n_max n_tuple n_min hr)|exact qk0 c_10 b_10 c_18 b_18 c_14 b_14 c_21 b_21 c_19 b_19 c_17 b_17 c_12 b_12 c_27 b_27 c_16 b_16 c_13 b_13 c_22 b_22 n_range n_max n_tuple n_min hr)
end
end My
open PySem PyProof.Rows L2 DL
local macro_rules | `(tactic| simp! [$a,*])=> `(tactic| simp (config:={decide:=true,implicitDefEqProofs:=false}) only [z7,qz,sIf,zp,zb,qti,yk,q0e,quo,qup,qtj,xm,q0f,qtl,eOp,eC,eV0,eVs,qf,qa,qe,j7,eL,yu,q6l,eSl,oNo,oAt,quw,qun,zy,q5j,bT,bOr,q7g,eOr,qgk,eIf,q4j,qps,eUn,isB,qc8,q9m,qnr,qty,qux,frzs,jo,q5m,qo,qto,qus,bN,yh,zh,yg,q00,qrg,gu,g0i,p5,g0g,mv,Nat.reduceAdd,Nat.reduceSub,Nat.reduceEqDiff,List.replicate,g36,g08,g2b,List.set_cons_zero,List.set_cons_succ,List.set_nil,g2y,g2x,mm,Option.bind_none,pb,Option.map_none,g04,Option.join_none,qmi,qmj,qjn,qmk,vz,qel,qfy,qfz,qsc,qpl,qpm,qpn,qpo,w9,qmr,ny,p8,g5e,g50,gm,g0k,g20,and_true,true_and,and_self,ite_true,ite_false,Int.reduceSub,Int.reduceMod,Int.reduceAdd,Int.reduceDiv,Int.reducePow,Int.reduceMul,Int.reduceNeg,Int.reduceEq,Int.reduceLT,Int.reduceLE,Int.reduceToNat,quy,qsh,qpp,qpq,qpr,qmm,reduceCtorEq,List.isEmpty_nil,List.isEmpty_cons,g51, $a,*])
namespace My
open PySem PyProof.Rows L2 DL
abbrev TI(ns:List Int): D:=.tup (ns.map .int)
abbrev Run:=Int×List Int
abbrev q03(r:Run): D:=.tup [.int r.1,TI r.2]
abbrev yz(w:Nat)(rs:List Run): D:=.tup [.int (w:Int),.tup (rs.map q03)]
def bit(m i:Nat): Bool:=m / 2 ^ i%2==1
def qi(n m:Nat): List Int:=((List.range n).filter fun i=>bit m i).map fun i:Nat=>(i:Int)
def mk(b:List Int): Int:=(b.map fun x=>(2:Int) ^ x.toNat).sum
theorem qg2(a b:Nat): Builtin.bitAnd (a:Int) (b:Int)=((a &&& b:Nat):Int):=by
 unfold Builtin.bitAnd;rw [nk (by omega:(0:Int)<=(a:Int)),nk (by omega:(0:Int)<=(b:Int))];simp
theorem qav(a b:Int): oBand (.int a) (.int b)=some (.int (Builtin.bitAnd a b)):=rfl
theorem qg3(n:Nat): z5 0 n=(List.range n).map fun i:Nat=>.int (i:Int):=by
 unfold z5;simp only [Int.zero_add]
theorem q14:∀k:Nat,k<64->qi (Builtin.Int.intBits (k:Int)) k=qi 12 k/\mk (qi 12 k)=(k:Int):=by decide
theorem qe1:∀a:Nat,a<64->∀b:Nat,b<64->qi 12 a=qi 12 b->a=b:=fun a ha b hb h=>by
 have h1:=(q14 a ha).2;have h2:=(q14 b hb).2;rw [h,h2] at h1;omega
theorem q0l(n m:Nat): (qi n m).length<=n:=by
 unfold qi;rw [mv];exact mx (uy _ _) (by simp)
theorem qmu{n m:Nat}{x:Int}(h:x∈qi n m): ∃i:Nat,x=(i:Int)/\i<n:=by
 unfold qi at h;obtain⟨i,hi,rfl⟩:=nv.mp h;exact⟨i,rfl,by simpa using(g00.mp hi).1⟩
theorem qpv(b:List Int)(hb:∀x∈b,0<=x/\x<100)(ρ : Rho): qv (bN 0) zc (eOp oShl (eC (.int 1)) (eV 0)) (none :: ρ) (b.map D.int)=some ((b.map fun x=>(2:Int) ^ x.toNat).map D.int):=by
 have:=q3j (b:=bN 0) (f:=eOp oShl (eC (.int 1)) (eV 0)) (ρ :=none :: ρ) (fun d=>match d with | .int x=>.int (2 ^ x.toNat)|_=>.non) (ds:=b.map D.int) fun d hd=>by
  obtain⟨x,hx,rfl⟩:=nv.mp hd;have:=hb x hx;refine⟨_,rfl,qh3 x_c (x_v rfl) ?_⟩;rw [qml 1 x (by omega) (by omega) (by decide),Int.one_mul]
 rw [this,t8,t8]
 rfl
theorem q96(b:List Int)(hb:∀x∈b,0<=x/\x<100)(hl:b.length<=1000): xx [TI b]=some (.int (mk b)):=by
 have hl':b.length<=lim:=by show _<=1000000;omega
 have c:=qpv b hb [];have a:=q5t (b.map fun x=>(2:Int) ^ x.toNat)
 (refine z8 ?_;simp! [q1v,z6,hl',c,a])
 rfl
def ye(rs:List Run): Prop:=rs.length<=1000/\∀r∈rs,(∀x∈r.2,0<=x/\x<100)/\r.2.length<=1000/\0<=r.1/\∃t,t<64/\r.2=qi 12 t
abbrev mrD(r:Run): D:=.tup [.int r.1,.int (mk r.2)]
theorem qk1(w:Nat)(rs:List Run)(h:ye rs): q2v [yz w rs]=some (.lst (rs.map mrD)):=by
 have hl':rs.length<=lim:=by have:=h.1;show _<=1000000;omega
 have c:qv (yh 2 (zh (bN 0) (zh (bN 1) yg))) zc (j7 (qa (eV 0) (qa (qf (qo 1 [] xx) (qa (eV 1) qe)) qe))) [none,none] (rs.map q03)=some (rs.map mrD):=by
  have hr:=h.2;clear hl' h
  induction rs with
  | nil=>rfl
  | cons r rs ih=>
   have ih':=ih fun x hx=>hr x (gr _ hx);have m:=q96 r.2 (hr r gq).1 (hr r gq).2.1;rw [gu];simp! [qv,ih',m,zc]
 (refine z8 ?_;simp! [q2u,z6,hl',c])
def cM(rs:List Run)(k:Nat): Int:=((rs.filter fun r=>decide (Builtin.bitAnd (mk r.2) (k:Int)=(k:Int))).map (·.1)).sum
theorem qpw(rs:List Run)(k:Nat): qv (yh 2 (zh (bN 0) (zh (bN 1) yg))) (zy oEq (eOp oBand (eV 1) (eV 2)) (eV 2)) (eV 0) [none,none,some (.fz (.int (k:Int)))] (rs.map mrD)
  = some (((rs.filter fun r=>decide (Builtin.bitAnd (mk r.2) (k:Int)=(k:Int))).map (·.1)).map D.int):=by
 induction rs with
 | nil=>rfl
 | cons r rs ih=>
  rw [gu]
  by_cases hb:Builtin.bitAnd (mk r.2) (k:Int)=(k:Int)
  ·simp! [qv,ih,qav,hb,nt,g5e,ny]
  ·simp! [qv,ih,qav,hb,nt,g50,p8,gm]
theorem q97(rs:List Run)(h:ye rs)(k:Nat)(hk:k<64): v9 [.lst (rs.map mrD),TI (qi 12 k)]=some (.int (cM rs k)):=by
 have hl':rs.length<=lim:=by have:=h.1;show _<=1000000;omega
 have m:xx [TI (qi 12 k)]=some (.int (k:Int)):=by
  rw [q96 _ (fun x hx=>?_) (mx (q0l 12 k) (by decide)),(q14 k hk).2];obtain⟨i,rfl,hi⟩:=qmu hx;omega
 have c:=qpw rs k;have a:=q5t ((rs.filter fun r=>decide (Builtin.bitAnd (mk r.2) (k:Int)=(k:Int))).map (·.1))
 (refine z8 ?_;simp! [yq,z6,hl',m,c,a])
 rfl
end My
open PySem PyProof.Rows L2 DL
namespace My
open PySem PyProof.Rows L2 DL
abbrev qr(k:Nat): D:=TI (qi 12 k)
abbrev pairD(rs:List Run)(k:Nat): D:=.tup [qr k,.int (cM rs k)]
theorem qez(rs:List Run)(L:Int)(l:List Nat)(hl:l.length<=1000): xr [.lst (l.map (pairD rs)),.int L]=some (.tup ((l.filter fun k=>decide (L<=cM rs k)).map (pairD rs))):=by
 have hl':l.length<=lim:=by show _<=1000000;omega
 have c:qv (bN 0) (zy oGe (eOp oIx (eV 0) (eC (.int 1))) (eV 1)) (eV 0) [none,some (.fz (.int L))] (l.map (pairD rs))=some ((l.filter fun k=>decide (L<=cM rs k)).map (pairD rs)):=by
  clear hl hl'
  induction l with
  | nil=>rfl
  | cons k l ih=>
   rw [gu]
   by_cases hb:L<=cM rs k
   ·simp! [qv,ih,hb,nt,g5e,ny]
   ·simp! [qv,ih,hb,nt,g50,p8,gm]
 (refine z8 ?_;simp! [wt,z6,hl',c,w9])
theorem qe2(rs:List Run)(L:Int)(l:List Nat)(hl:l.length<=1000): xr [.tup (l.map (pairD rs)),.int L]=some (.tup ((l.filter fun k=>decide (L<=cM rs k)).map (pairD rs))):=by
 have hl':l.length<=lim:=by show _<=1000000;omega
 have c:qv (bN 0) (zy oGe (eOp oIx (eV 0) (eC (.int 1))) (eV 1)) (eV 0) [none,some (.fz (.int L))] (l.map (pairD rs))=some ((l.filter fun k=>decide (L<=cM rs k)).map (pairD rs)):=by
  clear hl hl'
  induction l with
  | nil=>rfl
  | cons k l ih=>
   rw [gu]
   by_cases hb:L<=cM rs k
   ·simp! [qv,ih,hb,nt,g5e,ny]
   ·simp! [qv,ih,hb,nt,g50,p8,gm]
 (refine z8 ?_;simp! [wt,z6,hl',c,w9])
def firstOf(b:List Int): Int:=match b.getLast? with
 | some x=>x+1
 | none=>0
theorem qk2:∀i:Nat,i<6->∀m:Nat,m<2 ^ i->qi 12 (m+2 ^ i)=qi 12 m++[(i:Int)]:=by decide +kernel
theorem qpx(b:List Int)(x:Int): oIx (TI (b++[x])) (.int (-1))=some (.int x):=by
 rw [qsh,qmn,g02,gu,g0i,List.getLast?_append];simp
theorem qpy{fa:FA}{ρ : Rho}{i j:Int}(ha:fa ρ = some [.int i,.int j])(h1 : -(2 ^ 62)<=i)(h2:i<2 ^ 62)(h3 : -(2 ^ 62)<=j)(h4:j<2 ^ 62): iR2 fa ρ = some (z5 i (j-i).toNat):=by
 unfold iR2;rw [ha,mm];dsimp only;rw [nk h1,nk h2,nk h3,nk h4]
 rfl
theorem qf0(b:List Int)(w s:Nat)(hs:firstOf b=(s:Int))(hb:b.length<=100)(hw:w<=100)(hs2:s<=100): xl [TI b,.int (w:Int)]=some (.lst ((List.range (w-s)).map fun i:Nat=>TI (b++[((s+i:Nat):Int)]))):=by
 have e:eIf (bT (eV 0)) (eOp zd (eOp oIx (eV 0) (eUn q9m (eC (.int 1)))) (eC (.int 1))) (eC (.int 0)) [some (.fz (TI b)),some (.fz (.int (w:Int))),none]=some (.int (s:Int)):=by
  rw [<- hs];cases b with
  | nil=>rfl
  | cons x r=>
   have hx:∃b' y,x :: r=b'++[y]:=⟨(x :: r).dropLast,(x :: r).getLast (by simp),(List.dropLast_concat_getLast (by simp)).symm⟩
   obtain⟨b',y,e⟩:=hx;have ht:bT (eV 0) [some (.fz (TI (x :: r))),some (.fz (.int (w:Int))),none]=some true:=rfl;unfold eIf;rw [ht,mm,mq rfl,e];have hf:firstOf (b'++[y])=y+1:=by unfold firstOf;rw [List.getLast?_append];simp
   rw [hf];exact qh3 (qh3 (x_v rfl) (quv x_c rfl) (qpx b' y)) x_c rfl
 have r:iR2 (qa (eV 2) (qa (eV 1) qe)) [some (.fz (TI b)),some (.fz (.int (w:Int))),some (.fz (.int (s:Int)))]=some (z5 (s:Int) (w-s)):=by
  rw [qpy (q5u (x_v rfl) (q5u (x_v rfl) qbp)) (by omega) (by omega) (by omega) (by omega),show((w:Int)-(s:Int)).toNat=w-s by omega]
 have hl:(z5 (s:Int) (w-s)).length<=lim:=by rw [q4u];show _<=1000000;omega
 have c:qv (bN 0) zc (eOp zd (eV 1) (j7 (qa (eV 0) qe))) [none,some (.fz (TI b))] (z5 (s:Int) (w-s))=some ((List.range (w-s)).map fun i:Nat=>TI (b++[((s+i:Nat):Int)])):=by
  have:=q3j (b:=bN 0) (f:=eOp zd (eV 1) (j7 (qa (eV 0) qe))) (ρ :=[none,some (.fz (TI b))]) (fun d=>match d with | .int x=>TI (b++[x])|_=>.non) (ds:=z5 (s:Int) (w-s)) fun d hd=>by
   simp only [z5,nv] at hd;obtain⟨i,_,rfl⟩:=hd;refine⟨_,rfl,qh3 (x_v rfl) (qtx (q5u (x_v rfl) qbp) (by show 1<=1000000;decide)) ?_⟩;rw [qar _ _ (by rw [mv];simp;omega)];simp only [TI,g02,gu,g0i]
  rw [this,z5,t8]
  congr 1
 have lc:z6 (iR2 (qa (eV 2) (qa (eV 1) qe))) [none,some 0] (bN 0) zc (eOp zd (eV 1) (j7 (qa (eV 0) qe))) [some (.fz (TI b)),some (.fz (.int (w:Int))),some (.fz (.int (s:Int)))]=some ((List.range (w-s)).map fun i:Nat=>TI (b++[((s+i:Nat):Int)])):=by
  unfold z6;rw [r,mm,mq hl];exact c
 have k1:zp 2 (eIf (bT (eV 0)) (eOp zd (eOp oIx (eV 0) (eUn q9m (eC (.int 1)))) (eC (.int 1))) (eC (.int 0))) [some (.fz (TI b)),some (.fz (.int (w:Int))),none]=some (.nx,[some (.fz (TI b)),some (.fz (.int (w:Int))),some (.fz (.int (s:Int)))]):=by
  unfold zp;rw [e]
  rfl
 have k2:zb (eL (z6 (iR2 (qa (eV 2) (qa (eV 1) qe))) [none,some 0] (bN 0) zc (eOp zd (eV 1) (j7 (qa (eV 0) qe))))) [some (.fz (TI b)),some (.fz (.int (w:Int))),some (.fz (.int (s:Int)))]=some (.rt (.lst ((List.range (w-s)).map fun i:Nat=>TI (b++[((s+i:Nat):Int)]))),[some (.fz (TI b)),some (.fz (.int (w:Int))),some (.fz (.int (s:Int)))]):=by
  unfold zb;rw [x_l lc]
  rfl
 have k3:xk [some (.fz (TI b)),some (.fz (.int (w:Int))),none]=some (.rt (.lst ((List.range (w-s)).map fun i:Nat=>TI (b++[((s+i:Nat):Int)]))),[some (.fz (TI b)),some (.fz (.int (w:Int))),some (.fz (.int (s:Int)))]):=by
  unfold xk qz;simp (config:={implicitDefEqProofs:=false}) only [k1,mm,k2]
 refine z8 ?_;have k4:([TI b,.int (w:Int)].map (fun d=>some (B.fz d))++List.replicate (3 - [TI b,D.int (w:Int)].length) none:Rho)=[some (.fz (TI b)),some (.fz (.int (w:Int))),none]:=rfl;rw [k4,k3,pb]
def firstN(k:Nat): Nat:=((List.range 7).find? fun s=>decide (k<2 ^ s)).getD 6
def k5(w k:Nat): List Nat:=(List.range (w-firstN k)).map fun i=>k+2 ^ (firstN k+i)
def jt(k:Nat): List Nat:=((List.range 6).filter fun j=>bit k j).map fun j=>k-2 ^ j
theorem qmv:∀k:Nat,k<64->firstOf (qi 12 k)=(firstN k:Int)/\k<2 ^ firstN k/\firstN k<=6:=by decide +kernel
theorem qpz(w k:Nat)(hw:w<=6)(hk:k<64): xl [qr k,.int (w:Int)]=some (.lst ((k5 w k).map qr)):=by
 obtain⟨h1,h2,h3⟩:=qmv k hk;rw [qf0 (qi 12 k) w (firstN k) h1 (mx (q0l 12 k) (by decide)) (by omega) (by omega)];unfold k5;rw [t8]
 congr 2
 refine g3r fun i hi=>?_;have hi':=g05.mp hi;have h4:k<2 ^ (firstN k+i):=m8 h2 (g3o (by decide) (by omega));show TI _=TI (qi 12 (k+2 ^ (firstN k+i)));rw [qk2 (firstN k+i) (by omega) k h4]
theorem qhi:∀k:Nat,k<64->((List.range (qi 12 k).length).map fun p=>(qi 12 k).take p++(qi 12 k).drop (p+1))=(jt k).map (qi 12):=by decide +kernel
theorem qmw(k:Nat)(hk:k<64): jw [qr k]=some (.lst ((jt k).map qr)):=by
 have hb:=q0l 12 k;have c:qv (bN 0) zc (eOp zd (eSl (eV 1) oNo (oAt (eV 0))) (eSl (eV 1) (oAt (eOp zd (eV 0) (eC (.int 1)))) oNo)) [none,some (.fz (qr k))] (z5 0 (qi 12 k).length) =
   some ((jt k).map qr):=by
  have:=q3j (b:=bN 0) (f:=eOp zd (eSl (eV 1) oNo (oAt (eV 0))) (eSl (eV 1) (oAt (eOp zd (eV 0) (eC (.int 1)))) oNo)) (ρ :=[none,some (.fz (qr k))]) (fun d=>match d with | .int x=>TI ((qi 12 k).take x.toNat++(qi 12 k).drop (x.toNat+1))|_=>.non) (ds:=z5 0 (qi 12 k).length) fun d hd=>by
   rw [qg3] at hd;obtain⟨i,hi,rfl⟩:=nv.mp hd;have s1:oSl (qr k) none (some (i:Int))=some (TI ((qi 12 k).take i)):=by
    show some (D.tup (DL.cutD ((qi 12 k).map D.int) none (some (i:Int))))=_;rw [qek (α :=D), <- List.map_take]
   have s2:oSl (qr k) (some ((i+1:Nat):Int)) none=some (TI ((qi 12 k).drop (i+1))):=by
    show some (D.tup (DL.cutD ((qi 12 k).map D.int) (some ((i+1:Nat):Int)) none))=_;rw [qmo (α :=D), <- List.map_drop]
   have s3:zd (TI ((qi 12 k).take i)) (TI ((qi 12 k).drop (i+1)))=some (TI ((qi 12 k).take i++(qi 12 k).drop (i+1))):=by
    rw [qar _ _ (by rw [mv,mv,tx,g0c];omega), <- g02]
   refine⟨_,rfl,?_⟩;show eOp zd (eSl (eV 1) oNo (oAt (eV 0))) (eSl (eV 1) (oAt (eOp zd (eV 0) (eC (.int 1)))) oNo) [some (.fz (.int (i:Int))),some (.fz (qr k))]=some (TI ((qi 12 k).take (i:Int).toNat++(qi 12 k).drop ((i:Int).toNat+1)));rw [g0n];have e1:(i:Int)+1=((i+1:Nat):Int):=by omega
   simp! [s1,e1,s2,s3]
  rw [this,qg3,t8];have hf:=g06 (List.map TI) (qhi k hk);rw [t8,t8] at hf;exact g06 some hf
 have hr:iR1 (qa (qf ko (qa (eV 0) qe)) qe) [some (.fz (qr k))]=some (z5 0 (qi 12 k).length):=by
  have ha:qa (qf ko (qa (eV 0) qe)) qe [some (.fz (qr k))]=some [.int ((qi 12 k).length:Int)]:=by
   refine q5u (x_call (q5u (x_v rfl) qbp) ?_) qbp;rw [qnr,mv]
  rw [q42 _ _ _ ha (by omega) (by omega),g0n]
 have hl:(z5 0 (qi 12 k).length).length<=lim:=by rw [q4u];show _<=1000000;omega
 (refine z8 ?_;simp! [vf,z6,hr,hl,c])
theorem qf1{A:List Nat}(hn:A.Nodup)(hA:∀k∈A,k<64): (A.map (qi 12)).Nodup:=by
 rw [List.Nodup,g1d];refine g2n (fun {a b} ha hb hne e=>hne (qe1 a (hA a ha) b (hA b hb) e)) hn
theorem qaw:∀A:List Nat,q7p (A.map fun k=>D.tup [qr k,.bl true])=some (A.map (qi 12),A.map fun _=>.bl true)
 | []=>rfl
 | k :: A=>by
  have hi:we ((qi 12 k).map D.int)=some (qi 12 k):=q39 _;rw [gu];show(we ((qi 12 k).map D.int)).bind (fun q=>(q7p (A.map fun k=>D.tup [qr k,.bl true])).map fun p=>(q :: p.1,D.bl true :: p.2))=_;rw [hi,qaw A]
  rfl
abbrev xq(A:List Nat): D:=.dtt (A.map (qi 12)) (A.map fun _=>.bl true)
theorem qhj(A:List Nat)(hn:A.Nodup)(hA:∀k∈A,k<64)(hl:A.length<=1000): qbo [.lst (A.map fun k=>D.tup [qr k,.bl true])]=some (xq A):=by
 show(q7p (A.map fun k=>D.tup [qr k,.bl true])).bind (fun p=>if p.1.Nodup/\(A.map fun k=>D.tup [qr k,.bl true]).length<=lim then some (D.dtt p.1 p.2) else none)=_;rw [qaw];show(if(A.map (qi 12)).Nodup/\_ then _ else _)=_;rw [mq ⟨qf1 hn hA,by rw [mv];show _<=1000000;omega⟩]
theorem qmx(A:List Nat)(hA:∀k∈A,k<64)(m:Nat)(hm:m<64): q9y (qr m) (xq A)=some (.bl (decide (m∈A))):=by
 have hi:we ((qi 12 m).map D.int)=some (qi 12 m):=q39 _;show(we ((qi 12 m).map D.int)).map (fun k=>D.bl (decide (k∈A.map (qi 12))))=_;rw [hi,pb]
 congr 2
 rw [pj,u0,u0]
 constructor
 ·intro h
  obtain⟨a,ha,e⟩:=nv.mp h;exact qe1 a (hA a ha) m hm e ▸ ha
 ·exact fun h=>g2a h
theorem qmy:∀k:Nat,k<64->∀m∈jt k,m<64:=by decide +kernel
def chk(A:List Nat)(l:Nat): Bool:=(jt l).all fun m=>decide (m∈A)
theorem qsn(A:List Nat)(hA:∀k∈A,k<64)(l:Nat)(hl:l<64)(x0 x1 x3 x4:Option B): qf q7i (qa (eL (z6 (jo (qf (qo 1 [] jw) (qa (eV 5) qe))) [none,some 2] (bN 0) zc (eOp q9y (eV 0) (eV 1)))) qe)
  [x0,x1,some (.fz (xq A)),x3,x4,some (.fz (qr l))]=some (.bl (chk A l)):=by
 have f:=qmw l hl;have hlen:((jt l).map qr).length<=lim:=by
  rw [mv];unfold jt;rw [mv];exact mx (uy _ _) (by simp;decide)
 have c:qv (bN 0) zc (eOp q9y (eV 0) (eV 1)) [none,some (.fz (xq A))] ((jt l).map qr)=some (((jt l).map fun m=>decide (m∈A)).map D.bl):=by
  have hf:=qmy l hl;generalize jt l=q at hf;clear f hlen
  induction q with
  | nil=>rfl
  | cons m q ih=>
   have ih':=ih fun x hx=>hf x (gr _ hx);have hi:=qmx A hA m (hf m gq);rw [gu];simp! [qv,ih',hi,zc]
 have a:q7i [.lst (((jt l).map fun m=>decide (m∈A)).map D.bl)]=some (.bl (chk A l)):=by rw [q8w,g4t];rfl
 rw [mv] at hlen;simp! [f,z6,hlen,c,a]
theorem qq0:∀w:Nat,w<7->∀k:Nat,k<64->∀l∈k5 w k,l<64:=by decide +kernel
theorem qmz:∀w:Nat,w<7->∀k:Nat,k<64->(k5 w k).length<=6:=by decide +kernel
theorem q3q(A:List Nat)(hA:∀k∈A,k<64)(x0 x1 x4:Option B): ∀(q acc:List Nat) (b5:Option B),(∀l∈q,l<64)->acc.length+q.length<=1000->∃b5',
  runFor (bN 5) yy (q.map qr) [x0,x1,some (.fz (xq A)),some (.ow (acc.map qr)),x4,b5]=some (.nx,[x0,x1,some (.fz (xq A)),some (.ow ((acc++q.filter (chk A)).map qr)),x4,b5'])
 | [],acc,b5,_,_=>⟨b5,by simp [runFor]⟩
 | l :: q,acc,b5,hq,hl=>by
  simp only [p5] at hl;have hla:acc.length<lim:=by show _<1000000;omega
  have ck:=qsn A hA l (hq l gq) x0 x1 (some (.ow (acc.map qr))) x4;have hq':∀x∈q,x<64:=fun x hx=>hq x (gr _ hx);have e0:bN 5 (qr l) [x0,x1,some (.fz (xq A)),some (.ow (acc.map qr)),x4,b5]=some [x0,x1,some (.fz (xq A)),some (.ow (acc.map qr)),x4,some (.fz (qr l))]:=by
   unfold bN
   rfl
  cases hc:chk A l with
  | true=>
   rw [hc] at ck;obtain⟨b5',ih⟩:=q3q A hA x0 x1 x4 q (acc++[l]) (some (.fz (qr l))) hq' (by simp;omega);have body:yy [x0,x1,some (.fz (xq A)),some (.ow (acc.map qr)),x4,some (.fz (qr l))]=some (.nx,[x0,x1,some (.fz (xq A)),some (.ow ((acc++[l]).map qr)),x4,some (.fz (qr l))]):=by
    unfold yy;refine qsd (qmp ck rfl) rfl ?_;simp! [wz,q2c,q2d,hla,g02]
   refine⟨b5',?_⟩;rw [gu,zt (b:=bN 5) e0 body,ih,nt,mq hc];simp
  | false=>
   rw [hc] at ck;obtain⟨b5',ih⟩:=q3q A hA x0 x1 x4 q acc (some (.fz (qr l))) hq' (by omega);have body:yy [x0,x1,some (.fz (xq A)),some (.ow (acc.map qr)),x4,some (.fz (qr l))]=some (.nx,[x0,x1,some (.fz (xq A)),some (.ow (acc.map qr)),x4,some (.fz (qr l))]):=by
    unfold yy;exact qse (qmp ck rfl) rfl qsf
   refine⟨b5',?_⟩;rw [gu,zt (b:=bN 5) e0 body,ih,nt,mj (by rw [hc];exact m9)]
def qbq(w:Nat)(A:List Nat): List Nat:=A.flatMap fun s=>(k5 w s).filter (chk A)
theorem q7a(w:Nat)(hw:w<=6)(A:List Nat)(hA:∀k∈A,k<64)(x0:Option B): ∀(q acc:List Nat) (b4 b5:Option B),(∀l∈q,l<64)->acc.length+q.length*6<=1000->∃b4' b5',
  runFor (bN 4) q11 (q.map qr) [x0,some (.fz (.int (w:Int))),some (.fz (xq A)),some (.ow (acc.map qr)),b4,b5]=some (.nx,[x0,some (.fz (.int (w:Int))),some (.fz (xq A)),some (.ow ((acc++q.flatMap fun s=>(k5 w s).filter (chk A)).map qr)),b4',b5'])
 | [],acc,b4,b5,_,_=>⟨b4,b5,by simp [runFor]⟩
 | s :: q,acc,b4,b5,hq,hl=>by
  simp only [p5] at hl;have hs:=hq s gq;have m:=qpz w s hw hs;have hml:=qmz w (by omega) s hs;obtain⟨c5,e⟩:=q3q A hA x0 (some (.fz (.int (w:Int)))) (some (.fz (qr s))) (k5 w s) acc b5 (qq0 w (by omega) s hs) (by omega);have hfl:((k5 w s).filter (chk A)).length<=6:=mx (uy _ _) hml;obtain⟨b4',b5',ih⟩:=q7a w hw A hA x0 q (acc++(k5 w s).filter (chk A)) (some (.fz (qr s))) c5 (fun x hx=>hq x (gr _ hx)) (by rw [nj];omega);have body:q11 [x0,some (.fz (.int (w:Int))),some (.fz (xq A)),some (.ow (acc.map qr)),some (.fz (qr s)),b5]=some (.nx,[x0,some (.fz (.int (w:Int))),some (.fz (xq A)),some (.ow ((acc++(k5 w s).filter (chk A)).map qr)),some (.fz (qr s)),c5]):=by
   simp! [q11,m,e]
  refine⟨b4',b5',?_⟩;rw [gu,zt (b:=bN 4) rfl body,ih,g10,mr]
theorem qn0(w:Nat)(hw:w<=6)(A:List Nat)(hn:A.Nodup)(hA:∀k∈A,k<64)(hl:A.length<=100): q47 [.lst (A.map qr),.int (w:Int)]=some (.lst ((qbq w A).map qr)):=by
 have hl':A.length<=lim:=by show _<=1000000;omega
 have c:qv (bN 0) zc (j7 (qa (eV 0) (qa (eC (.bl true)) qe))) [none] (A.map qr)=some (A.map fun k=>D.tup [qr k,.bl true]):=by
  clear hl hl' hn hA
  induction A with
  | nil=>rfl
  | cons k A ih=>
   rw [gu];simp! [qv,ih,zc]
 have d:=qhj A hn hA (by omega);obtain⟨b4,b5,e⟩:=q7a w hw A hA (some (.fz (.lst (A.map qr)))) A [] none none hA (by simp;omega);simp only [g0i,g08] at e
 (refine z8 ?_;simp! [q46,z6,hl',c,d,e])
 rfl
end My
open PySem PyProof.Rows L2 DL
namespace My
open PySem PyProof.Rows L2 DL
theorem qe3(p q:Run->Bool): ∀rs:List Run,(∀r∈rs,0<=r.1)->(∀r∈rs,p r=true->q r=true)->((rs.filter p).map (·.1)).sum<=((rs.filter q).map (·.1)).sum
 | [],_,_=>Int.le_refl _
 | r :: rs,h,hpq=>by
  have ih:=qe3 p q rs (fun x hx=>h x (gr _ hx)) fun x hx=>hpq x (gr _ hx);have h0:=h r gq;have h1:=hpq r gq;rw [nt,nt];cases hp:p r with
  | true=>
   rw [hp] at h1;rw [mq rfl,mq (h1 rfl),gu,gu,g4d,g4d];omega
  | false=>
   rw [mj m9]
   split
   ·rw [gu,g4d];omega
   ·exact ih
def wx(rs:List Run)(L:Int)(k:Nat): Bool:=decide (L<=cM rs k)
theorem qk3:∀t:Nat,t<64->∀k:Nat,k<64->∀m∈jt k,t &&& k=k->t &&& m=m:=by decide +kernel
theorem qtz(rs:List Run)(h:ye rs)(k:Nat)(hk:k<64)(m:Nat)(hm:m∈jt k): cM rs k<=cM rs m:=by
 unfold cM;refine qe3 _ _ rs (fun r hr=>(h.2 r hr).2.2.1) fun r hr hq=>?_;obtain⟨t,ht,e⟩:=(h.2 r hr).2.2.2;have e2:mk r.2=(t:Int):=by rw [e];exact(q14 t ht).2
 rw [u0,e2,qg2] at hq ⊢;have:=qk3 t ht k hk m hm (by exact_mod_cast hq);rw [this]
theorem qax(rs:List Run)(L:Int)(h:ye rs)(k:Nat)(hk:k<64)(hp:wx rs L k=true): ∀m∈jt k,wx rs L m=true:=fun m hm=>by
 have:=qtz rs h k hk m hm;unfold wx at hp ⊢;rw [u0] at hp ⊢;omega
def cnd(rs:List Run)(L:Int)(l:Nat): Bool:=(jt l).all (wx rs L)
def lv(w:Nat): Nat->List Nat
 | 0=>[0]
 | d+1=>(lv w d).flatMap (k5 w)
def jm(w:Nat): List Nat:=(List.range (w+1)).flatMap (lv w)
theorem qn1:∀w:Nat,w<7->jm w=(List.range (w+1)).flatMap (lv w):=fun _ _=>rfl
theorem q1h:∀w:Nat,w<7->(jm w).length=2 ^ w/\∀k∈jm w,k<2 ^ w:=by decide +kernel
theorem qn2{w:Nat}(hw:w<=6): ∀k∈jm w,k<64:=fun k hk=>m8 ((q1h w (by omega)).2 k hk) (mx (g3o (by decide) hw) (by decide))
theorem qk4(w:Nat)(hw:w<=6): (jm w).length=2 ^ w:=(q1h w (by omega)).1
theorem qhk{w:Nat}(hw:w<=6): 2 ^ w<=64:=mx (g3o (by decide) hw) (by decide)
def oft(w:Nat)(rs:List Run)(L:Int): List Nat:=(jm w).filter fun k=>decide (L<=cM rs k)
theorem qe4:∀w:Nat,w<7->lv w (w+1)=[]/\∀d:Nat,d<8->(∀k∈lv w d,k<64)/\(lv w d).Nodup/\(lv w d).length<=20:=by decide +kernel
theorem qhl:∀w:Nat,w<7->∀k:Nat,k<64->∀l∈k5 w k,k∈jt l:=by decide +kernel
theorem qn3:∀w:Nat,w<7->∀d:Nat,d<7->∀l∈lv w (d+1),∀m∈jt l,m∈lv w d:=by decide +kernel
theorem q7b{α β : Type}(q : α -> Bool)(g : α -> List β): ∀l:List α,(∀s∈l,q s=false->g s=[])->(l.filter q).flatMap g=l.flatMap g
 | [],_=>rfl
 | s :: l,h=>by
  have ih:=q7b q g l fun x hx=>h x (gr _ hx);rw [nt,g10];cases c:q s with
  | true=>rw [mq rfl,g10,ih]
  | false=>rw [mj m9,ih,h s gq c,g08]
theorem q3r{α β : Type}(p : β -> Bool)(g : α -> List β): ∀l:List α,(l.flatMap g).filter p=l.flatMap fun s=>(g s).filter p
 | []=>rfl
 | s :: l=>by rw [g10,g10,List.filter_append,q3r p g l]
def layer(w:Nat)(rs:List Run)(L:Int)(d:Nat): List Nat:=(lv w d).filter (cnd rs L)
theorem step(w:Nat)(hw:w<=6)(rs:List Run)(L:Int)(h:ye rs)(d:Nat)(hd:d<7): qbq w ((layer w rs L d).filter (wx rs L))=layer w rs L (d+1):=by
 obtain⟨_,lf⟩:=qe4 w (by omega);obtain⟨l1,l2,l3⟩:=lf d (by omega);obtain⟨k1,k2,k3⟩:=lf (d+1) (by omega);have eA:(layer w rs L d).filter (wx rs L)=(lv w d).filter fun k=>wx rs L k&&cnd rs L k:=by
  unfold layer;rw [g45]
 rw [eA];unfold qbq;rw [q7b _ _ (lv w d) fun s hs hq=>?_]
 ·unfold layer
  show _=((lv w d).flatMap (k5 w)).filter (cnd rs L);have e1:(lv w d).flatMap (fun s=>(k5 w s).filter (chk ((lv w d).filter fun k=>wx rs L k&&cnd rs L k)))=((lv w d).flatMap (k5 w)).filter (chk ((lv w d).filter fun k=>wx rs L k&&cnd rs L k)):=(q3r _ _ _).symm;rw [e1];refine g1e fun l hl=>?_;have hl':l∈lv w (d+1):=hl;have hf:=qn3 w (by omega) d (by omega) l hl';unfold chk cnd;rw [pj,my,my]
  constructor
  ·intro z m hm
   have:=z m hm;rw [u0,g00,mi] at this;exact this.2.1
  ·intro z m hm
   rw [u0,g00,mi];refine⟨hf m hm,z m hm,?_⟩;show(jt m).all (wx rs L)=true;rw [my];exact qax rs L h m (l1 m (hf m hm)) (z m hm)
 ·refine g34.mpr fun l hl hc=>?_
  have hm:=qhl w (by omega) s (l1 s hs) l hl;unfold chk at hc;have:=my.mp hc s hm;rw [u0,g00] at this;rw [this.2] at hq;cases hq
theorem qay(w:Nat)(hw:w<=6)(rs:List Run)(L:Int)(h:ye rs): ∀n d:Nat,d+n<=w+1->layer w rs L d=[]->(List.range' d n).flatMap (layer w rs L)=[]
 | 0,d,_,_=>rfl
 | n+1,d,hd,e=>by
  have s:=step w hw rs L h d (by omega);rw [e] at s;have e1:layer w rs L (d+1)=[]:=s.symm;rw [List.range'_succ,g10,e,g08];exact qay w hw rs L h n (d+1) (by omega) e1
theorem qk5(rs:List Run)(h:ye rs)(A:List Nat)(hA:∀k∈A,k<64): qv (bN 0) zc (j7 (qa (eV 0) (qa (qf (qo 2 [] v9) (qa (eV 1) (qa (eV 0) qe))) qe))) [none,some (.fz (.lst (rs.map mrD)))] (A.map qr)=some (A.map (pairD rs)):=by
 induction A with
 | nil=>rfl
 | cons k l ih=>
  have ih':=ih fun x hx=>hA x (gr _ hx);have cm:=q97 rs h k (hA k gq);rw [gu];simp! [qv,ih',cm,zc]
theorem qn4(rs:List Run)(A:List Nat): qv (bN 0) zc (eOp oIx (eV 0) (eC (.int 0))) [none] (A.map (pairD rs))=some (A.map qr):=by
 induction A with
 | nil=>rfl
 | cons k l ih=>
  rw [gu];simp! [qv,ih,zc]
theorem turn(w:Nat)(hw:w<=6)(rs:List Run)(L:Int)(h:ye rs)(x0:Option B)(A acc:List Nat)(hn:A.Nodup)(hA:∀k∈A,k<64)(hl:A.length<=100)(hacc:acc.length<=1000)(b6:Option B):
  ji [x0,some (.fz (yz w rs)),some (.fz (.int L)),some (.fz (.lst (rs.map mrD))),some (.ow (acc.map (pairD rs))),some (.fz (.lst (A.map qr))),b6] =
   some (.nx,[x0,some (.fz (yz w rs)),some (.fz (.int L)),some (.fz (.lst (rs.map mrD))),some (.ow ((acc++A).map (pairD rs))),some (.fz (.lst ((qbq w (A.filter (wx rs L))).map qr))),some (.fz (.lst (A.map (pairD rs))))]):=by
 have hl':A.length<=lim:=by show _<=1000000;omega
 have hfl:(A.filter fun k=>decide (L<=cM rs k)).length<=lim:=mx (uy _ _) hl';have he:acc.length+A.length<=lim:=by show _<=1000000;omega
 have c1:=qk5 rs h A hA;have al:=qez rs L A (by omega);have c2:=qn4 rs (A.filter fun k=>decide (L<=cM rs k));have g:=qn0 w hw (A.filter fun k=>decide (L<=cM rs k)) (g1h _ hn) (fun k hk=>hA k (g00.mp hk).1) (mx (uy _ _) hl);have e:(A.filter (wx rs L))=A.filter fun k=>decide (L<=cM rs k):=rfl;rw [e];simp! [ji,z6,hl',c1,qm3,q2c,q2d,he,al,hfl,c2,g,g02]
theorem qe5(w:Nat)(hw:w<=6)(rs:List Run)(L:Int)(h:ye rs)(x0:Option B): ∀(n d f:Nat) (acc:List Nat) (b6:Option B),d+n=w+1->n<f->acc.length+n*20<=1000->∃b5' b6',
  jf (bT (eV 5)) ji f [x0,some (.fz (yz w rs)),some (.fz (.int L)),some (.fz (.lst (rs.map mrD))),some (.ow (acc.map (pairD rs))),some (.fz (.lst ((layer w rs L d).map qr))),b6] =
   some (.nx,[x0,some (.fz (yz w rs)),some (.fz (.int L)),some (.fz (.lst (rs.map mrD))),some (.ow ((acc++(List.range' d n).flatMap (layer w rs L)).map (pairD rs))),b5',b6'])
 | n,d,0,acc,b6,_,hf,_=>by omega
 | n,d,f+1,acc,b6,hd,hf,hl=>by
  obtain⟨le,lf⟩:=qe4 w (by omega);have ht:bT (eV 5) [x0,some (.fz (yz w rs)),some (.fz (.int L)),some (.fz (.lst (rs.map mrD))),some (.ow (acc.map (pairD rs))),some (.fz (.lst ((layer w rs L d).map qr))),b6]=some (!((layer w rs L d).map qr).isEmpty):=qmp (x_v rfl) rfl
  by_cases hc:layer w rs L d=[]
  ·rw [hc] at ht
   have hz:=qay w hw rs L h n d (by omega) hc;rw [hz,g2b];refine⟨some (.fz (.lst ((layer w rs L d).map qr))),b6,?_⟩;unfold jf;rw [hc];rw [ht]
   rfl
  ·have hne:(!((layer w rs L d).map qr).isEmpty)=true:=by
    cases e:layer w rs L d with
    | nil=>exact absurd e hc
    | cons a l=>rfl
   rw [hne] at ht;cases n with
   | zero=>
    have:d=w+1:=by omega
    subst this;exact absurd (by unfold layer;rw [le];rfl) hc
   | succ n=>
    obtain⟨k1,k2,k3⟩:=lf d (by omega);have hll:(layer w rs L d).length<=20:=mx (uy _ _) k3;have t:=turn w hw rs L h x0 (layer w rs L d) acc (g1h _ k2) (fun k hk=>k1 k (g00.mp hk).1) (by omega) (by omega) b6;rw [step w hw rs L h d (by omega)] at t;obtain⟨b5',b6',ih⟩:=qe5 w hw rs L h x0 n (d+1) f (acc++layer w rs L d) (some (.fz (.lst ((layer w rs L d).map (pairD rs))))) (by omega) (by omega) (by rw [nj];omega);refine⟨b5',b6',?_⟩;unfold jf;rw [ht,mm,mq rfl,t,mm];dsimp only;rw [ih,List.range'_succ,g10,mr]
theorem quz(r:Rho): frz 0 (none :: r)=none :: r:=rfl
theorem qn5(d:D)(r:Rho): frz 0 (some (.fz d) :: r)=some (.fz d) :: r:=rfl
def q69(w:Nat)(rs:List Run)(L:Int): List Nat:=(jm w).filter (cnd rs L)
theorem qhm(self:D)(w:Nat)(hw:w<=6)(rs:List Run)(L:Int)(h:ye rs): xp [self,yz w rs,.int L]=some (.tup ((q69 w rs L).map (pairD rs))):=by
 have m:=qk1 w rs h;obtain⟨b5,b6,e⟩:=qe5 w hw rs L h (some (.fz self)) (w+1) 0 100000 [] none (by omega) (by omega) (by simp;omega);have e0:layer w rs L 0=[0]:=rfl;rw [e0, <- List.range_eq_range',g08] at e;have e1:(List.range (w+1)).flatMap (layer w rs L)=q69 w rs L:=by
  unfold q69;rw [qn1 w (by omega),q3r]
  rfl
 rw [e1] at e;simp only [g0i,gu] at e;rw [show qr 0=D.tup [] from rfl] at e;cases b6 with
 | none=>(refine z8 ?_;simp! [zu,m,e,w9,quz])
 | some z=>cases z with
  | fz z=>(refine z8 ?_;simp! [zu,m,e,w9,qn5])
  | ow z=>(refine z8 ?_;simp! [zu,m,e,w9])
  | od z=>(refine z8 ?_;simp! [zu,m,e,w9])
theorem qhn(rs:List Run)(L:Int)(h:ye rs)(k:Nat)(hk:k<64)(hp:wx rs L k=true): cnd rs L k=true:=by
 unfold cnd;rw [my];exact qax rs L h k hk hp
theorem qn6(w:Nat)(hw:w<=6)(rs:List Run)(L:Int)(h:ye rs): (q69 w rs L).filter (fun k=>decide (L<=cM rs k))=oft w rs L:=by
 unfold q69 oft;rw [g45];refine g1e fun k hk=>?_;cases hp:decide (L<=cM rs k) with
 | false=>rfl
 | true=>rw [qhn rs L h k (qn2 hw k hk) hp];rfl
theorem qn7(w:Nat)(hw:w<=6)(rs:List Run)(L:Int): (q69 w rs L).length<=64:=by
 unfold q69;exact mx (uy _ _) (by rw [qk4 w hw];exact qhk hw)
theorem qns:isO "Growing" (.obj "Growing")=true:=by decide
theorem qn8(w:Nat)(hw:w<=6)(rs:List Run)(L:Int)(h:ye rs): yb [.obj "Growing",yz w rs,.int L]=some (.tup ((oft w rs L).map (pairD rs))):=by
 have c:=qhm (.obj "Growing") w hw rs L h;have a:=qe2 rs L (q69 w rs L) (by have:=qn7 w hw rs L;omega);rw [qn6 w hw rs L h] at a
 (refine z8 ?_;simp! [ya,qd6,qns,c,a])
end My
open PySem PyProof.Rows L2 DL
namespace My
open PySem PyProof.Rows L2 DL
theorem q6t(x:Int): ∀b:List Int,inF (.int x) (b.map D.int)=decide (x∈b)
 | []=>rfl
 | y :: b=>by
  show((eqF (.int y) (.int x)) || inF (.int x) (b.map D.int))=_;rw [q6t x b];show((y==x) || _)=_;rw [pj];simp only [g0r,g24,u0,m6]
  constructor <;> rintro(h|h)
  ·exact .inl h.symm
  ·exact .inr h
  ·exact .inl h.symm
  ·exact .inr h
theorem q6a(b:List Int): (b.map D.int).all flat=true:=by
 rw [g4t,my];intro x _;rfl
def uni(s t:List Int): List Int:=((List.range 12).map fun i:Nat=>(i:Int)).filter fun x=>decide (x∈s\/x∈t)
theorem q6b:∀(s:List Int),(∀x∈s,0<=x/\x<12)->q3i (s.map D.int)=some (s.map Int.toNat)
 | [],_=>rfl
 | x :: s,h=>by
  have hx:=h x gq;show(if 0<=x/\x<12 then(q3i (s.map D.int)).map (x.toNat :: ·) else none)=_;rw [mq hx,q6b s fun y hy=>h y (gr _ hy)]
  rfl
theorem qaz{s:List Int}(h:∀x∈s,0<=x/\x<12)(n:Nat): n∈s.map Int.toNat↔(n:Int)∈s:=by
 constructor
 ·intro hn
  obtain⟨x,hx,e⟩:=nv.mp hn;have:=h x hx;have:x=(n:Int):=by omega
  exact this ▸ hx
 ·intro hn
  exact nv.mpr ⟨_,hn,by simp⟩
theorem qho(s t:List Int)(hs:∀x∈s,0<=x/\x<12)(ht:∀x∈t,0<=x/\x<12): qh0 (TI s) (TI t)=some ((uni s t).map D.int):=by
 show(q3i (s.map D.int)).bind (fun a=>(q3i (t.map D.int)).bind fun b=>some (((List.range 12).filter fun n=>decide (n∈a\/n∈b)).map fun n=>D.int (n:Nat)))=_;rw [q6b s hs,q6b t ht];show some _=_
 congr 1
 unfold uni;rw [List.filter_map,t8]
 congr 1
 refine g1e fun n _=>?_;show decide (n∈s.map Int.toNat\/n∈t.map Int.toNat)=decide ((n:Int)∈s\/(n:Int)∈t);rw [pj,g0j,g0j,qaz hs,qaz ht]
theorem qb0(s t:List Int)(hs:∀x∈s,0<=x/\x<12)(ht:∀x∈t,0<=x/\x<12): yi [TI s,TI t]=some (TI (uni s t)):=by
 have h:=qho s t hs ht
 (refine z8 ?_;simp! [q30,qh1,h,w9])
theorem qq1(x:Int)(b:List Int): oIn true (.int x) (TI b)=some (.bl (!decide (x∈b))):=by
 show(if(flat (.int x)&&(b.map D.int).all flat)=true then some (D.bl (if true=true then !inF (.int x) (b.map D.int) else inF (.int x) (b.map D.int))) else none)=_;rw [q6a,q6t];rfl
theorem q3f:∀ns:List Int,xb (ns.map D.int)=0
 | []=>rfl
 | n :: ns=>by simp only [gu,xb,q0g,q3f ns];rfl
theorem eq_nil(ns:List Int): oEq (.lst (ns.map .int)) (.lst [])=some (.bl ns.isEmpty):=by
 cases ns with
 | nil=>rfl
 | cons x s=>
  show(none:Option D).or (if(xa ((x :: s).map D.int) []&&decide (xb ((x :: s).map D.int)<=60))=true then some (D.bl (eqL ((x :: s).map D.int) [])) else none)=_;rw [q3f];rfl
theorem ne_nil(ns:List Int): qmg (.lst (ns.map .int)) (.lst [])=some (.bl (!ns.isEmpty)):=by
 cases ns with
 | nil=>rfl
 | cons x s=>
  show(none:Option D).or (if(xa ((x :: s).map D.int) []&&decide (xb ((x :: s).map D.int)<=60))=true then some (D.bl (!eqL ((x :: s).map D.int) [])) else none)=_;rw [q3f];rfl
theorem qbr{c:FT}{ρ : Rho}(q:Int->Bool): ∀(l:List Int),(∀x∈l,c (some (.fz (.int x)) :: ρ)=some (q x))->qv (bN 0) c (eV 0) (none :: ρ) (l.map D.int)=some ((l.filter q).map D.int)
 | [],_=>rfl
 | x :: l,h=>by
  have ih:=qbr q l fun y hy=>h y (gr _ hy);have h1:=h x gq;have b1:bN 0 (D.int x) (none :: ρ)=some (some (.fz (.int x)) :: ρ):=rfl;have v1:eV 0 (some (.fz (.int x)) :: ρ)=some (.int x):=rfl;simp only [gu,qv,b1,h1,mm,nt];cases q x with
  | true=>simp only [ny,v1,mm,ih,pb,gu]
  | false=>simp only [gm,p8,ih]
theorem qn9(s b:List Int): (s.filter fun w=> !decide (w∈b)).isEmpty=s.all fun w=>decide (w∈b):=by
 rw [pj,g51,g34,my]
 constructor
 ·intro h x hx
  have:=h x hx
  simpa using this
 ·intro h x hx
  simpa using h x hx
theorem same_int(n:Nat)(i:Int): F_law_same (n+1) [.int i,.int i]=some (.bl true):=by
 show z7 4 (y9 (F_law_same n)) [.int i,.int i]=_
 (refine z8 ?_;simp! [y9])
theorem qb1(n:Nat)(x0 x1:Option B): ∀(ds:List D) (b2 b3:Option B),(∀d∈ds,F_law_same n [d,d]=some (.bl true))->∃b2' b3',runFor (yh 2 (zh (bN 2) (zh (bN 3) yg))) (k8 (F_law_same n)) (q01 ds ds) [x0,x1,b2,b3]=some (.nx,[x0,x1,b2',b3'])
 | [],b2,b3,_=>⟨b2,b3,rfl⟩
 | d :: ds,b2,b3,h=>by
  obtain⟨b2',b3',ih⟩:=qb1 n x0 x1 ds (some (.fz d)) (some (.fz d)) fun e he=>h e (gr _ he);refine⟨b2',b3',?_⟩;have hd:=h d gq;have z:q01 (d :: ds) (d :: ds)=.tup [d,d] :: q01 ds ds:=rfl;rw [z,zt (ρ1:=[x0,x1,some (.fz d),some (.fz d)]) rfl (show k8 (F_law_same n) [x0,x1,some (.fz d),some (.fz d)]=some (.nx,[x0,x1,some (.fz d),some (.fz d)]) by simp! [k8,hd]),ih]
theorem q83(n:Nat)(ds:List D)(h:∀d∈ds,F_law_same n [d,d]=some (.bl true)): F_law_same (n+1) [.tup ds,.tup ds]=some (.bl true):=by
 obtain⟨b2,b3,hl⟩:=qb1 n (some (.fz (.tup ds))) (some (.fz (.tup ds))) ds none none h;show z7 4 (y9 (F_law_same n)) [.tup ds,.tup ds]=_
 (refine z8 ?_;simp! [y9,qlh,xm,hl])
theorem qq2(n:Nat)(b:List Int): F_law_same (n+2) [TI b,TI b]=some (.bl true):=q83 _ _ fun d hd=>by
 obtain⟨x,_,rfl⟩:=nv.mp hd;exact same_int _ _
theorem q0a(ns:List Int)(k:Int)(h0:0<=k): ∃c,zo [.lst (ns.map .int),.int k]=some (.int c):=by
 by_cases h:k<(ns.length:Int)
 ·have hi:atI (ns.map D.int) k=some (.int (ns[k.toNat]'(by omega))):=by rw [q9z h0,n9,ng (by omega)];rfl
  exact⟨ns[k.toNat]'(by omega),by(refine z8 ?_;simp! [wo,h,hi])⟩
 ·exact⟨0,by(refine z8 ?_;simp! [wo,h])⟩
theorem q35(c k:Int)(h1 : -1000000<k)(h2:k<1000000): ∃m,zj [.int c,.int k]=some (.int m)/\0<=m:=by
 have t1:zq (.int k) (.int k)=some (.int (k*k)):=vz _ _ ⟨by omega,by omega⟩;have t2:∀x:Int,zq (.int (x%2147483647)) (.int (x%2147483647))=some (.int ((x%2147483647)*(x%2147483647))):=fun x=>
  vz _ _ ⟨by have:=uo x (show(2147483647:Int)≠0 by decide);omega,by have:=g09 x (show(0:Int)<2147483647 by decide);omega⟩
 have t3:∀x y:Int,zq (.int x) (.int (y%2147483629))=some (.int (x*(y%2147483629))):=fun x y=>
  vz _ _ ⟨by have:=uo y (show(2147483629:Int)≠0 by decide);omega,by have:=g09 y (show(0:Int)<2147483629 by decide);omega⟩
 simp! [zj,kh,t1,t2,t3];exact⟨_,rfl,uo _ (by decide)⟩
def zv:Nat->Int->Int->List Int
 | 0,_,_=>[]
 | n+1,m,k=>if m%2=1 then k :: zv n (m / 2) (k+1) else zv n (m / 2) (k+1)
theorem q36(x1:Option B): ∀(n:Nat) (m k:Int) (acc:List D) (b:Option B),acc.length+n<=100->∃b' m',
  runFor (bN 3) ve (z5 k n) [some (.fz (.int m)),x1,some (.ow acc),b]=some (.nx,[some (.fz (.int m')),x1,some (.ow (acc++(zv n m k).map .int)),b'])
 | 0,m,k,acc,b,_=>⟨b,m,by simp [z5,runFor,zv]⟩
 | n+1,m,k,acc,b,h=>by
  have ha:acc.length<lim:=by show _<1000000;omega
  rw [kc]
  by_cases hm:m%2=1
  ·obtain⟨b',m',ih⟩:=q36 x1 n (m / 2) (k+1) (acc++[.int k]) (some (.fz (.int k))) (by simp;omega)
   refine⟨b',m',?_⟩;rw [zt (b:=bN 3) rfl (show ve [some (.fz (.int m)),x1,some (.ow acc),some (.fz (.int k))]=some (.nx,[some (.fz (.int (m / 2))),x1,some (.ow (acc++[.int k])),some (.fz (.int k))]) by simp! [ve,hm,wz,q2c,q2d,ha]),ih,zv,mq hm];simp
  ·obtain⟨b',m',ih⟩:=q36 x1 n (m / 2) (k+1) acc (some (.fz (.int k))) (by omega)
   refine⟨b',m',?_⟩;rw [zt (b:=bN 3) rfl (show ve [some (.fz (.int m)),x1,some (.ow acc),some (.fz (.int k))]=some (.nx,[some (.fz (.int (m / 2))),x1,some (.ow acc),some (.fz (.int k))]) by simp! [ve,hm]),ih,zv,mj hm]
theorem q98(m:Int)(w:Nat)(hw:w<=12): y4 [.int m,.int (w:Int)]=some (TI (zv w m 0)):=by
 obtain⟨b',m',h⟩:=q36 (some (.fz (.int (w:Int)))) w m 0 [] none (by simp;omega);rw [g08] at h;have r:iR1 (qa (eV 1) qe) [some (.fz (.int m)),some (.fz (.int (w:Int))),some (.ow []),none]=some (z5 0 w):=q42 _ _ (w:Int) rfl (by omega) (by omega)
 (refine z8 ?_;simp! [q1s,xm,r,h])
theorem qk6(a b:Int)(h:0<b)(h2:b<18446744073709551616): oDivB (.int a) (.int b)=some (.int (a / b)):=by simp [oDivB,oI,h,h2]
theorem q5a(ns:List Int)(k:Int)(h0:0<=k)(h1:k<=1000): ∃m,xc [.lst (ns.map .int),.int k]=some (.int m)/\0<=m:=by
 obtain⟨c0,hc0⟩:=q0a ns 0 (by decide)
 by_cases h:c0%2=0
 ·obtain⟨c,hc⟩:=q0a ns k h0
  simp! [xc,yp,hc0,h,hc];exact⟨_,rfl,uo _ (by decide)⟩
 ·have hx:oMax [.int 1,.int (ns.length:Int)]=some (.int (if(ns.length:Int)>1 then(ns.length:Int) else 1)):=rfl
  have hp:(0:Int)<(if(ns.length:Int)>1 then(ns.length:Int) else 1):=by split <;> omega
  generalize (if(ns.length:Int)>1 then(ns.length:Int) else 1)=M at hx hp;obtain⟨c,hc⟩:=q0a ns (k%M) (uo _ (by omega));obtain⟨a,ha,a0⟩:=q35 c (k+5) (by omega) (by omega);obtain⟨d,hd,d0⟩:=q35 k 9 (by omega) (by omega);simp! [xc,yp,hc0,h,hx,hp,hc,ha,hd];exact⟨_,rfl,by omega⟩
theorem q84(ns:List Int): ∃n:Nat,xi [.lst (ns.map .int)]=some (.int (n:Int))/\n<=70:=by
 obtain⟨c0,hc0⟩:=q0a ns 0 (by decide)
 by_cases h:c0%2=0
 ·have h1:oMin [.int ((ns.length:Int)-2),.int 61]=some (.int (if 61<(ns.length:Int)-2 then 61 else(ns.length:Int)-2)):=rfl
  generalize hM:(if 61<(ns.length:Int)-2 then 61 else(ns.length:Int)-2)=M at h1;have h2:oMax [.int 0,.int M]=some (.int ((M.toNat:Nat):Int)):=by
   show some (D.int (if M>0 then M else 0))=_
   congr 2
   split <;> omega
  refine⟨M.toNat,by(refine z8 ?_;simp! [xh,hc0,h,h1,h2]),?_⟩
  split at hM <;> omega
 ·obtain⟨a,ha,a0⟩:=q35 c0 3 (by decide) (by decide)
  have hb:=uo a (show(12:Int)≠0 by decide);have hb2:=g09 a (show(0:Int)<12 by decide);refine⟨(3+a%12).toNat,?_,by omega⟩;rw [show(((3+a%12).toNat:Nat):Int)=3+a%12 by omega]
  (refine z8 ?_;simp! [xh,hc0,h,ha])
def upD:Option Nat->D
 | none=>.non
 | some j=>.int (j:Int)
abbrev abD(ab:List (Option Nat)): D:=.tup (ab.map upD)
structure Tree(w:Nat)(ab:List (Option Nat)): Prop where
 len:ab.length=w
 up:∀(i j:Nat),ab[i]? = some (some j)->i<j/\j<w
theorem q99(w:Nat)(hw:w<=8)(x1:Option B)(hx1:x1=some (.fz (.int (w:Int)))): ∀(n k:Nat) (m:Int) (acc:List (Option Nat)) (b3 b4:Option B),k+n=w->acc.length=k->(∀(i j:Nat),acc[i]? = some (some j)->i<j/\j<w)->∃ab b0' b3' b4',Tree w ab /\
  runFor (bN 3) lb_law_above_1 (z5 (k:Int) n) [some (.fz (.int m)),x1,some (.ow (acc.map upD)),b3,b4]=some (.nx,[b0',x1,some (.ow (ab.map upD)),b3',b4'])
 | 0,k,m,acc,b3,b4,hk,hl,hu=>⟨acc,_,b3,b4,⟨by omega,hu⟩,rfl⟩
 | n + 1,k,m,acc,b3,b4,hk,hl,hu=>by
  subst hx1;have hp:(0:Int)<(w:Int)-(k:Int):=by omega
  have e0:=uo m (show((w:Int)-(k:Int))≠0 by omega);have e1:=g09 m hp;have d:=qk6 m ((w:Int)-(k:Int)) hp (by omega);have la:acc.length<lim:=by show _<1000000;omega
  have l2:∀a b:D,([a,b]:List D).length<=lim:=fun _ _=>by show 2<=1000000;decide
  obtain⟨o,ho,hou⟩:∃o:Option Nat,(∀j,o=some j->k<j/\j<w)/\lb_law_above_1 [some (.fz (.int m)),some (.fz (.int (w:Int))),some (.ow (acc.map upD)),some (.fz (.int (k:Int))),b4]=some (.nx,[some (.fz (.int (m / ((w:Int)-(k:Int))))),some (.fz (.int (w:Int))),some (.ow ((acc++[o]).map upD)),some (.fz (.int (k:Int))),some (.fz (.int (m%((w:Int)-(k:Int)))))]):=by
   by_cases c:0<m%((w:Int)-(k:Int))
   ·refine⟨some (k+(m%((w:Int)-(k:Int))).toNat),fun j hj=>by cases hj;omega,?_⟩
    rw [g02,show [some (k+(m%((w:Int)-(k:Int))).toNat)].map upD=[.int ((k:Int)+m%((w:Int)-(k:Int)))] by simp [upD];omega];simp! [lb_law_above_1,hp,d,c,qsi,l2,wz,q2c,q2d,la]
   ·refine⟨none,fun j hj=>by(cases hj),?_⟩
    rw [g02];simp! [lb_law_above_1,hp,d,c,qsj,l2,wz,q2c,q2d,la]
    rfl
  obtain⟨ab,b0',b3',b4',T,ih⟩:=q99 w hw _ rfl n (k+1) (m / ((w:Int)-(k:Int))) (acc++[o]) (some (.fz (.int (k:Int)))) (some (.fz (.int (m%((w:Int)-(k:Int)))))) (by omega) (by simp [hl]) (fun i j hij=>by
   by_cases hi:i<acc.length
   ·rw [p9 hi] at hij
    exact hu i j hij
   ·rw [p6 (by omega)] at hij
    have:i-acc.length=0:=by
     cases q:i-acc.length with
     | zero=>rfl
     | succ z=>rw [q] at hij;simp at hij
    rw [this] at hij;have hij:o=some j:=by simpa using hij
    have:=ho j hij;omega)
  refine⟨ab,b0',b3',b4',T,?_⟩;have e:bN 3 (.int (k:Int)) [some (.fz (.int m)),some (.fz (.int (w:Int))),some (.ow (acc.map upD)),b3,b4]=some [some (.fz (.int m)),some (.fz (.int (w:Int))),some (.ow (acc.map upD)),some (.fz (.int (k:Int))),b4]:=rfl;rw [kc,zt e hou,show(k:Int)+1=((k+1:Nat):Int) by omega,ih]
theorem qe6(m:Int)(w:Nat)(hw:w<=8): ∃ab,Tree w ab/\q06 [.int m,.int (w:Int)]=some (abD ab):=by
 obtain⟨ab,b0,b3,b4,T,h⟩:=q99 w hw _ rfl w 0 m [] none none (by omega) rfl (fun i j h=>by simp at h);rw [show((0:Nat):Int)=0 from rfl,g0i] at h;have r:iR1 (qa (eV 1) qe) [some (.fz (.int m)),some (.fz (.int (w:Int))),some (.ow []),none,none]=some (z5 0 w):=q42 _ _ (w:Int) rfl (by omega) (by omega);exact⟨ab,T,by(refine z8 ?_;simp! [q05,xm,r,h])⟩
end My
open PySem PyProof.Rows L2 DL
namespace My
open PySem PyProof.Rows L2 DL
def ch(ab:List (Option Nat)): Nat->Option Nat->List Nat
 | 0,_=>[]
 | _+1,none=>[]
 | n+1,some j=>j :: ch ab n (ab[j]?).join
theorem qk7(ab:List (Option Nat)): ∀(n:Nat) (o:Option Nat),(ch ab n o).length<=n
 | 0,_=>gv _
 | _+1,none=>g03 _
 | n+1,some j=>Nat.succ_le_succ (qk7 ab n _)
def Fuel(w n:Nat)(o:Option Nat): Prop:=∀j,o=some j->j<w/\w<=j+n
theorem q6c{w n j:Nat}{ab:List (Option Nat)}(T:Tree w ab)(h:Fuel w (n+1) (some j)): Fuel w n (ab[j]?).join:=fun k hk=>by
 have hj:=h j rfl;have:ab[j]? = some (some k):=by
  cases q:ab[j]? with
  | none=>rw [q] at hk;cases hk
  | some o=>rw [q] at hk;simp only [g04] at hk;rw [hk]
 have:=T.up j k this;omega
theorem qhp{w:Nat}{ab:List (Option Nat)}(T:Tree w ab){i:Nat}(hi:i<w): atI (ab.map upD) (i:Int)=some (upD (ab[i]?).join):=by
 have h:i<ab.length:=by rw [T.len];exact hi
 rw [qmq,n9,ng h]
 rfl
theorem q9a{w:Nat}{ab:List (Option Nat)}(T:Tree w ab)(hw:w<=8)(x1:Option B): ∀(n F:Nat) (o:Option Nat) (acc:List D),Fuel w n o->n<F->acc.length+n<=100 ->
  jf (zy (oIs true) (eV 3) (eC .non)) jr F [some (.fz (abD ab)),x1,some (.ow acc),some (.fz (upD o))]=some (.nx,[some (.fz (abD ab)),x1,some (.ow (acc++(ch ab n o).map fun j:Nat=>.int (j:Int))),some (.fz .non)])
 | n,0,o,acc,_,hF,_=>by omega
 | 0,F+1,none,acc,h,_,_=>by
  unfold jf;have c:zy (oIs true) (eV 3) (eC .non) [some (.fz (abD ab)),x1,some (.ow acc),some (.fz (upD none))]=some false:=rfl;rw [c];simp [ch,upD]
 | 0,F+1,some j,acc,h,_,_=>by
  have:=h j rfl;omega
 | n+1,F+1,none,acc,h,_,_=>by
  unfold jf;have c:zy (oIs true) (eV 3) (eC .non) [some (.fz (abD ab)),x1,some (.ow acc),some (.fz (upD none))]=some false:=rfl;rw [c];simp [ch,upD]
 | n+1,F+1,some j,acc,h,hF,hc=>by
  unfold jf;have c:zy (oIs true) (eV 3) (eC .non) [some (.fz (abD ab)),x1,some (.ow acc),some (.fz (upD (some j)))]=some true:=rfl;have hj:=h j rfl;have a:=qhp T hj.1;have la:acc.length<lim:=by show _<1000000;omega
  have body:jr [some (.fz (abD ab)),x1,some (.ow acc),some (.fz (upD (some j)))]=some (.nx,[some (.fz (abD ab)),x1,some (.ow (acc++[.int (j:Int)])),some (.fz (upD (ab[j]?).join))]):=by
   rw [show upD (some j)=.int (j:Int) from rfl];simp! [jr,wz,q2c,q2d,la,a]
  have ih:=q9a T hw x1 n F (ab[j]?).join (acc++[.int (j:Int)]) (q6c T h) (by omega) (by simp only [nj,p5,g0g];omega);rw [c];simp only [mm,ny,body,ih,ch,gu,mr,g5g]
def st(w:Nat)(ab:List (Option Nat))(i:Nat): List Int:=(ch ab w (ab[i]?).join).map fun j:Nat=>(j:Int)
theorem qbs{w i:Nat}{ab:List (Option Nat)}(T:Tree w ab): Fuel w w (ab[i]?).join:=fun k hk=>by
 have:ab[i]? = some (some k):=by
  cases q:ab[i]? with
  | none=>rw [q] at hk;cases hk
  | some o=>rw [q] at hk;simp only [g04] at hk;rw [hk]
 have:=T.up i k this;omega
theorem qf2{w:Nat}{ab:List (Option Nat)}(T:Tree w ab)(hw:w<=8){i:Nat}(hi:i<w): vh [abD ab,.int (i:Int)]=some (TI (st w ab i)):=by
 have a:=qhp T hi;have h:=q9a T hw (some (.fz (.int (i:Int)))) w 100000 (ab[i]?).join [] (qbs T) (by omega) (by simp only [g0g];omega);rw [g08] at h;have t0:([]:List D).length<=lim:=by decide
 have e:TI (st w ab i)=.tup ((ch ab w (ab[i]?).join).map fun j:Nat=>.int (j:Int)):=by unfold st;simp
 rw [e]
 (refine z8 ?_;simp! [vg,t0,a,h])
inductive Anc(ab:List (Option Nat))(i:Nat): Nat->Prop
 | one {j:Nat}:ab[i]? = some (some j)->Anc ab i j
 | more {p j:Nat}:Anc ab i p->ab[p]? = some (some j)->Anc ab i j
theorem qe7{ab:List (Option Nat)}{i j x:Nat}(h:ab[i]? = some (some j))(hx:Anc ab j x): Anc ab i x:=by
 induction hx with
 | one q=>exact .more (.one h) q
 | more _ q ih=>exact .more ih q
theorem qg4{ab:List (Option Nat)}{i x:Nat}(h:Anc ab i x): ∃j,ab[i]? = some (some j)/\(x=j\/Anc ab j x):=by
 induction h with
 | one q=>exact⟨_,q,.inl rfl⟩
 | more _ q ih=>
  obtain⟨j,h1,h2⟩:=ih;rcases h2 with rfl|h2
  ·exact⟨_,h1,.inr (.one q)⟩
  ·exact⟨j,h1,.inr (.more h2 q)⟩
theorem qk8{w:Nat}{ab:List (Option Nat)}(T:Tree w ab){i x:Nat}(h:Anc ab i x): i<x/\x<w:=by
 induction h with
 | one q=>exact T.up _ _ q
 | more _ q ih=>have:=T.up _ _ q;omega
theorem qe8{w:Nat}{ab:List (Option Nat)}(T:Tree w ab)(x:Nat): ∀(n:Nat) (o:Option Nat),Fuel w n o->(x∈ch ab n o↔∃j,o=some j/\(x=j\/Anc ab j x))
 | 0,none,_=>by simp [ch]
 | 0,some j,h=>by have:=h j rfl;omega
 | n+1,none,_=>by simp [ch]
 | n + 1,some j,h=>by
  have ih:=qe8 T x n (ab[j]?).join (q6c T h);rw [ch,m6,ih]
  constructor
  ·rintro(rfl|⟨k,hk,hx⟩)
   ·exact⟨x,rfl,.inl rfl⟩
   ·have q:ab[j]? = some (some k):=by
     cases q:ab[j]? with
     | none=>rw [q] at hk;cases hk
     | some o=>rw [q] at hk;simp only [g04] at hk;rw [hk]
    refine⟨j,rfl,.inr ?_⟩;rcases hx with rfl|hx
    ·exact .one q
    ·exact qe7 q hx
  ·rintro⟨j',e,hx⟩
   cases e;rcases hx with rfl|hx
   ·exact .inl rfl
   ·obtain⟨k,hk,h2⟩:=qg4 hx
    exact .inr ⟨k,by rw [hk];rfl,h2⟩
theorem qk9{w:Nat}{ab:List (Option Nat)}(T:Tree w ab)(i:Nat)(x:Int): x∈st w ab i↔∃y:Nat,x=(y:Int)/\Anc ab i y:=by
 unfold st;rw [nv]
 constructor
 ·rintro⟨y,hy,rfl⟩
  obtain⟨j,hj,h⟩:=(qe8 T y w _ (qbs T)).mp hy;have q:ab[i]? = some (some j):=by
   cases q:ab[i]? with
   | none=>rw [q] at hj;cases hj
   | some o=>rw [q] at hj;simp only [g04] at hj;rw [hj]
  refine⟨y,rfl,?_⟩;rcases h with rfl|h
  ·exact .one q
  ·exact qe7 q h
 ·rintro⟨y,rfl,h⟩
  obtain⟨j,h1,h2⟩:=qg4 h;exact⟨y,(qe8 T y w _ (qbs T)).mpr ⟨j,by rw [h1];rfl,h2⟩,rfl⟩
def j3(P:Int->Bool): List Int:=((List.range 12).map fun i:Nat=>(i:Int)).filter P
theorem nset_mem{P:Int->Bool}{x:Int}: x∈j3 P↔(0<=x/\x<12)/\P x=true:=by
 unfold j3;rw [g00,nv];refine and_congr_left fun _=>⟨?_,fun h=>⟨x.toNat,g05.mpr (by omega),by omega⟩⟩
 rintro⟨i,hi,rfl⟩
 have:=g05.mp hi;omega
theorem q53{P Q:Int->Bool}(h:∀x:Int,0<=x->x<12->P x=Q x): j3 P=j3 Q:=by
 unfold j3;apply g1e;intro x hx;obtain⟨i,hi,rfl⟩:=nv.mp hx;have:=g05.mp hi;exact h _ (by omega) (by omega)
theorem qka(s t:List Int): uni s t=j3 fun x=>decide (x∈s) || decide (x∈t):=by
 unfold uni j3;apply g1e;intro x _;rw [pj];simp
def kp(w:Nat)(ab:List (Option Nat))(s:List Int)(x:Int): Bool:=s.any fun i=>decide (x∈st w ab i.toNat)
theorem qu0{w:Nat}{ab:List (Option Nat)}(T:Tree w ab)(hw:w<=8)(i:Nat): ∀x∈st w ab i,0<=x/\x<12:=fun x hx=>by
 obtain⟨y,rfl,h⟩:=(qk9 T i x).mp hx;have:=qk8 T h;omega
theorem q9b{w:Nat}{ab:List (Option Nat)}(T:Tree w ab)(hw:w<=8)(x1:Option B): ∀(s:List Int) (P:Int->Bool) (b3:Option B),(∀x∈s,0<=x/\x<(w:Int))->∃b3',
  runFor (bN 3) k9 (s.map D.int) [some (.fz (abD ab)),x1,some (.fz (TI (j3 P))),b3]=some (.nx,[some (.fz (abD ab)),x1,some (.fz (TI (j3 fun x=>P x || kp w ab s x))),b3'])
 | [],P,b3,_=>⟨b3,by simp only [g0i,runFor,kp,List.any_nil,g5m]⟩
 | i :: s,P,b3,hs=>by
  obtain⟨i0,i1⟩:=hs i gq;have se:=qf2 T hw (i:=i.toNat) (by omega);rw [show((i.toNat:Nat):Int)=i by omega] at se;have je:=qb0 (j3 P) (st w ab i.toNat) (fun x hx=>(nset_mem.mp hx).1) (qu0 T hw _);have ue:uni (j3 P) (st w ab i.toNat)=j3 fun x=>P x || decide (x∈st w ab i.toNat):=by
   rw [qka];apply q53;intro x h0 h1
   congr 1
   rw [pj,g0j,nset_mem];exact⟨fun h=>h.2,fun h=>⟨⟨h0,h1⟩,h⟩⟩
  rw [ue] at je;obtain⟨b3',ih⟩:=q9b T hw x1 s (fun x=>P x || decide (x∈st w ab i.toNat)) (some (.fz (.int i))) (fun x hx=>hs x (gr _ hx));refine⟨b3',?_⟩;have body:k9 [some (.fz (abD ab)),x1,some (.fz (TI (j3 P))),some (.fz (.int i))]=some (.nx,[some (.fz (abD ab)),x1,some (.fz (TI (j3 fun x=>P x || decide (x∈st w ab i.toNat)))),some (.fz (.int i))]):=by
   simp! [k9,se,je]
  have e0:bN 3 (.int i) [some (.fz (abD ab)),x1,some (.fz (TI (j3 P))),b3]=some [some (.fz (abD ab)),x1,some (.fz (TI (j3 P))),some (.fz (.int i))]:=rfl;have e:(fun x=>P x || decide (x∈st w ab i.toNat) || kp w ab s x)=fun x=>P x || kp w ab (i :: s) x:=by
   funext x
   simp only [kp,g5n,Bool.or_assoc]
  rw [gu,zt e0 body,ih,e]
theorem qe9{w:Nat}{ab:List (Option Nat)}(T:Tree w ab)(hw:w<=8)(s:List Int)(hs:∀x∈s,0<=x/\x<(w:Int)): xt [abD ab,TI s]=some (TI (j3 (kp w ab s))):=by
 obtain⟨b3,h⟩:=q9b T hw (some (.fz (TI s))) s (fun _=>false) none hs;simp only [g35] at h;rw [show TI (j3 fun _=>false)=.tup [] from rfl] at h;have t0:([]:List D).length<=lim:=by decide
 (refine z8 ?_;simp! [q13,t0,xm,h])
end My
open PySem PyProof.Rows L2 DL
namespace My
open PySem PyProof.Rows L2 DL
theorem q54{α : Type}{b:FB}{e:FE}{ρ : Rho}(f g : α -> D): ∀(as:List α),(∀a∈as,∃ ρ1,b (f a) ρ = some ρ1/\e ρ1=some (g a))->qv b zc e ρ (as.map f)=some (as.map g)
 | [],_=>rfl
 | a :: as,h=>by
  obtain⟨ρ1,e1,e2⟩:=h a gq;have ih:=q54 f g as fun x hx=>h x (gr _ hx);simp only [gu,qv,e1,e2,mm,zc,ny,ih,pb]
theorem q3s{α : Type}{b:FB}{c:FT}{e:FE}{ρ : Rho}(f : α -> D)(p : α -> Bool)(g : α -> D): ∀(as:List α),(∀a∈as,∃ ρ1,b (f a) ρ = some ρ1/\c ρ1=some (p a)/\(p a=true->e ρ1=some (g a)))->qv b c e ρ (as.map f)=some ((as.filter p).map g)
 | [],_=>rfl
 | a :: as,h=>by
  obtain⟨ρ1,e1,e2,e3⟩:=h a gq;have ih:=q3s f p g as fun x hx=>h x (gr _ hx);simp only [gu,qv,e1,e2,mm,nt];cases hp:p a with
  | true=>simp only [ny,e3 hp,mm,ih,pb,gu]
  | false=>simp only [gm,p8,ih]
def isNum:D->Bool
 | .int i=>decide (0<=i)
 | _=>false
theorem qea(d:D): q08 [d]=some (.bl (isNum d)):=by
 cases d <;> rfl
theorem qbi{a b i:Int}(h0:0<=i)(h1:a<=i)(h2:i<=b): km [.int i,.int a,.int b]=some (.bl true):=by
 have hn:=qea (.int i);rw [show isNum (.int i)=true from nk h0] at hn
 (refine z8 ?_;simp! [q09,hn,q8j,h1,h2])
theorem qb2{w:Nat}{ab:List (Option Nat)}(T:Tree w ab): ∀(suf pre:List (Option Nat)),ab=pre++suf ->
  qv (yh 2 (zh (bN 0) (zh (bN 1) yg))) zc (eOr (eOp (oIs false) (eV 1) (eC .non)) (qf (qo 3 [] km) (qa (eV 1) (qa (eOp zd (eV 0) (eC (.int 1))) (qa (eOp oSub (eV 2) (eC (.int 1))) qe))))) [none,none,some (.fz (.int (w:Int)))] (q01 (z5 (pre.length:Int) suf.length) (suf.map upD))=some ((suf.map fun _=>true).map D.bl)
 | [],pre,_=>rfl
 | o :: suf,pre,h=>by
  have ih:=qb2 T suf (pre++[o]) (by rw [h,mr];rfl);rw [show((pre++[o]).length:Int)=(pre.length:Int)+1 by simp] at ih;have z:q01 (z5 (pre.length:Int) (o :: suf).length) ((o :: suf).map upD)=.tup [.int (pre.length:Int),upD o] :: q01 (z5 ((pre.length:Int)+1) suf.length) (suf.map upD):=by
   rw [p5,kc];rfl
  have hg:ab[pre.length]? = some o:=by rw [h,p6 (gv _),Nat.sub_self];rfl
  have is_pn:oIs false .non .non=some (.bl true):=rfl;have is_pi:∀i:Int,oIs false (.int i) .non=some (.bl false):=fun _=>rfl;rw [z];cases o with
  | none=>simp! [qv,zc,ih,upD,is_pn]
  | some j=>
   have:=T.up _ _ hg;have wi:=qbi (a:=(pre.length:Int)+1) (b:=(w:Int)-1) (i:=(j:Int)) (by omega) (by omega) (by omega);simp! [qv,zc,ih,upD,is_pi,wi]
theorem qhq{w:Nat}{ab:List (Option Nat)}(T:Tree w ab)(hw:w<=8): q1y [abD ab,.int (w:Int)]=some (.bl true):=by
 have c:=qb2 T ab [] rfl;rw [show(([]:List (Option Nat)).length:Int)=0 from rfl] at c;have a:=q8w (ab.map fun _=>true);rw [show(ab.map fun _=>true).all id=true by rw [g4t,my];intro _ _;rfl] at a;have n:q7f (.int (ab.length:Int)) (.int (w:Int))=some (.bl false):=by rw [qfz,nk (by rw [T.len])];rfl
 have hl:(q01 (z5 0 ab.length) (ab.map upD)).length<=lim:=by
  unfold q01;rw [g3q,q4u,mv,T.len];show _<=1000000;omega
 (refine z8 ?_;simp! [q1x,n,z6,qgs,q4k,hl,c,a])
def lp(w:Nat)(ab:List (Option Nat))(b:List Int)(x:Int): Bool:=decide (x∈b) || kp w ab b x
def lb(w:Nat)(ab:List (Option Nat))(b:List Int): List Int:=j3 (lp w ab b)
def In(w:Nat)(s:List Int): Prop:=∀x∈s,0<=x/\x<(w:Int)
theorem qhr{w:Nat}{ab:List (Option Nat)}(T:Tree w ab)(hw:w<=8)(b:List Int)(hb:In w b): yi [TI b,TI (j3 (kp w ab b))]=some (TI (lb w ab b)):=by
 have je:=qb0 b (j3 (kp w ab b)) (fun x hx=>by have:=hb x hx;omega) (fun x hx=>(nset_mem.mp hx).1);have e:uni b (j3 (kp w ab b))=lb w ab b:=by
  rw [qka];apply q53;intro x h0 h1;unfold lp
  congr 1
  rw [pj,g0j,nset_mem];exact⟨fun h=>h.2,fun h=>⟨⟨h0,h1⟩,h⟩⟩
 rw [e] at je;exact je
abbrev lr(w:Nat)(ab:List (Option Nat))(r:Run): Run:=(r.1,lb w ab r.2)
theorem qkb{w:Nat}{ab:List (Option Nat)}(T:Tree w ab)(hw:w<=8)(rs:List Run)(hl:rs.length<=1000)(hr:∀r∈rs,In w r.2): q32 [yz w rs,abD ab]=some (yz w (rs.map (lr w ab))):=by
 have t:=qhq T hw;have c:=q54 (b:=yh 2 (zh (bN 0) (zh (bN 1) yg))) (e:=j7 (qa (eV 0) (qa (qf (qo 2 [] yi) (qa (eV 1) (qa (qf (qo 2 [] xt) (qa (eV 2) (qa (eV 1) qe))) qe))) qe))) (ρ :=[none,none,some (.fz (abD ab))]) q03 (fun r=>q03 (lr w ab r)) rs fun r hrr=>by
  have k:=qe9 T hw r.2 (hr r hrr);have j:=qhr T hw r.2 (hr r hrr);have l2:([D.int r.1,TI (lb w ab r.2)]:List D).length<=lim:=by show 2<=1000000;decide
  refine⟨[some (.fz (.int r.1)),some (.fz (TI r.2)),some (.fz (abD ab))],rfl,?_⟩;simp! [k,j,l2]
 have hl':rs.length<=lim:=by show _<=1000000;omega
 have l2:∀a b:D,([a,b]:List D).length<=lim:=fun _ _=>by show 2<=1000000;decide
 have e:yz w (rs.map (lr w ab))=.tup [.int (w:Int),.tup (rs.map fun r=>q03 (lr w ab r))]:=by
  show D.tup [.int (w:Int),.tup ((rs.map (lr w ab)).map q03)]=_;rw [t8];rfl
 rw [e]
 (refine z8 ?_;simp! [q31,t,z6,hl',c,l2])
theorem qq3{w:Nat}{ab:List (Option Nat)}(T:Tree w ab)(hw:w<=8)(s:List Int)(hl:s.length<=1000)(hs:In w s): q49 [abD ab,TI s]=some (TI (s.filter fun x=> !decide (x∈j3 (kp w ab s)))):=by
 have k:=qe9 T hw s hs;have c:=qbr (c:=zy (oIn true) (eV 0) (eV 1)) (ρ :=[some (.fz (TI (j3 (kp w ab s))))]) (fun x=> !decide (x∈j3 (kp w ab s))) s fun x _=>by
  have o:=qq1 x (j3 (kp w ab s));simp! [o]
 have hl':s.length<=lim:=by show _<=1000000;omega
 (refine z8 ?_;simp! [q68,k,z6,hl',c])
theorem qu1{o:Option Nat}{k:Nat}: oEq (upD o) (.int (k:Int))=some (.bl (decide (o=some k))):=by
 cases o with
 | none=>rfl
 | some j=>
  show oEq (.int (j:Int)) (.int (k:Int))=_;rw [qfy]
  congr 2
  exact g4z.mpr ⟨fun h=>by rw [show j=k by omega],fun h=>by cases h;rfl⟩
theorem q6d{w:Nat}{ab:List (Option Nat)}(T:Tree w ab)(hw:w<=12): ∀(n k c N:Nat) (acc:List D) (b3:Option B),k+n=w->c<w->(∀j,(ab[c]?).join=some j->k<=j)->Fuel w N (ab[c]?).join->acc.length+n<=100->∃b1' b3',
  runFor (bN 3) xo (z5 (k:Int) n) [some (.fz (abD ab)),some (.fz (.int (c:Int))),some (.ow acc),b3]=some (.nx,[some (.fz (abD ab)),b1',some (.ow (acc++(ch ab N (ab[c]?).join).map fun j:Nat=>.int (j:Int))),b3'])
 | 0,k,c,N,acc,b3,hk,hc,hj,hF,_=>by
  have:(ab[c]?).join=none:=by
   cases q:(ab[c]?).join with
   | none=>rfl
   | some j=>have:=hj j q;have:=hF j q;omega
  rw [this];exact⟨_,b3,by cases N <;> simp [z5,runFor,ch] <;> rfl⟩
 | n + 1,k,c,N,acc,b3,hk,hc,hj,hF,hl=>by
  have a:=qhp T hc;have e:=qu1 (o:=(ab[c]?).join) (k:=k);have la:acc.length<lim:=by show _<1000000;omega
  have e0:bN 3 (.int (k:Int)) [some (.fz (abD ab)),some (.fz (.int (c:Int))),some (.ow acc),b3]=some [some (.fz (abD ab)),some (.fz (.int (c:Int))),some (.ow acc),some (.fz (.int (k:Int)))]:=rfl
  by_cases h:(ab[c]?).join=some k
  ·rw [nk h] at e
   have hN:∃M,N=M+1:=by
    have:=hF k h;cases N with
    | zero=>omega
    | succ M=>exact⟨M,rfl⟩
   obtain⟨M,rfl⟩:=hN;rw [h] at hF;have hF2:=q6c T hF;obtain⟨b1',b3',ih⟩:=q6d T hw n (k+1) k M (acc++[.int (k:Int)]) (some (.fz (.int (k:Int)))) (by omega) (by omega) (fun j hj'=>by
    have q:ab[k]? = some (some j):=by
     cases q:ab[k]? with
     | none=>rw [q] at hj';cases hj'
     | some o=>rw [q] at hj';simp only [g04] at hj';rw [hj']
    have:=T.up _ _ q;omega) hF2 (by simp only [nj,p5,g0g];omega)
   refine⟨b1',b3',?_⟩;have body:xo [some (.fz (abD ab)),some (.fz (.int (c:Int))),some (.ow acc),some (.fz (.int (k:Int)))]=some (.nx,[some (.fz (abD ab)),some (.fz (.int (k:Int))),some (.ow (acc++[.int (k:Int)])),some (.fz (.int (k:Int)))]):=by
    simp! [xo,a,e,wz,q2c,q2d,la]
   rw [kc,zt e0 body,show(k:Int)+1=((k+1:Nat):Int) by omega,ih,h,ch];simp
  ·rw [pq h] at e
   obtain⟨b1',b3',ih⟩:=q6d T hw n (k+1) c N acc (some (.fz (.int (k:Int)))) (by omega) hc (fun j hj'=>by
    have:=hj j hj';have:j≠k:=fun z=>h (by rw [hj',z]);omega) hF (by omega)
   refine⟨b1',b3',?_⟩;have body:xo [some (.fz (abD ab)),some (.fz (.int (c:Int))),some (.ow acc),some (.fz (.int (k:Int)))]=some (.nx,[some (.fz (abD ab)),some (.fz (.int (c:Int))),some (.ow acc),some (.fz (.int (k:Int)))]):=by
    simp! [xo,a,e]
   rw [kc,zt e0 body,show(k:Int)+1=((k+1:Nat):Int) by omega,ih]
theorem qg5{w:Nat}{ab:List (Option Nat)}(T:Tree w ab)(hw:w<=12){i:Nat}(hi:i<w): y8 [abD ab,.int (i:Int)]=some (.lst ((st w ab i).map D.int)):=by
 have hl:=T.len;obtain⟨b1,b3,h⟩:=q6d T hw w 0 i w [] none (by omega) hi (fun j _=>g03 _) (qbs T) (by simp only [g0g];omega);rw [show((0:Nat):Int)=0 from rfl,g08] at h;have r:iR1 (qa (qf ko (qa (eV 0) qe)) qe) [some (.fz (abD ab)),some (.fz (.int (i:Int))),some (.ow []),none]=some (z5 0 w):=by
  rw [q42 _ _ (w:Int) (by simp! [hl]) (by omega) (by omega),g0n]
 have e:D.lst ((st w ab i).map D.int)=.lst ((ch ab w (ab[i]?).join).map fun j:Nat=>.int (j:Int)):=by unfold st;simp
 have t0:([]:List D).length<=lim:=by decide
 rw [e]
 (refine z8 ?_;simp! [q0y,t0,xm,r,h])
def ov(w:Nat)(ab:List (Option Nat))(s:List Int): List Int:=s.flatMap fun i=>st w ab i.toNat
theorem qkc(w:Nat)(ab:List (Option Nat))(i:Nat): (st w ab i).length<=w:=by
 unfold st;rw [mv];exact qk7 _ _ _
theorem qna(x:Int)(b:List Int): oIn true (.int x) (.lst (b.map D.int))=some (.bl (!decide (x∈b))):=by
 show(if(flat (.int x)&&(b.map D.int).all flat)=true then some (D.bl (if true=true then !inF (.int x) (b.map D.int) else inF (.int x) (b.map D.int))) else none)=_;rw [q6a,q6t];rfl
end My
open PySem PyProof.Rows L2 DL
namespace My
open PySem PyProof.Rows L2 DL
def bs(a b c d e f:Bool)(x:Int): Bool:=if x=0 then a else if x=1 then b else if x=2 then c else if x=3 then d else if x=4 then e else if x=5 then f else false
theorem qq4:∀a b c d e f:Bool,(a.toNat+2*b.toNat+4*c.toNat+8*d.toNat+16*e.toNat+32*f.toNat<64)/\j3 (bs a b c d e f)=qi 12 (a.toNat+2*b.toNat+4*c.toNat+8*d.toNat+16*e.toNat+32*f.toNat):=by decide +kernel
theorem qb3(P:Int->Bool)(h:∀x:Int,6<=x->P x=false): ∃t:Nat,t<64/\j3 P=qi 12 t:=by
 have e:j3 P=j3 (bs (P 0) (P 1) (P 2) (P 3) (P 4) (P 5)):=by
  apply q53;intro x h0 h1;unfold bs
  by_cases c:6<=x
  ·rw [h x c,mj (by omega),mj (by omega),mj (by omega),mj (by omega),mj (by omega),mj (by omega)]
  ·have:x=0\/x=1\/x=2\/x=3\/x=4\/x=5:=by omega
   rcases this with rfl|rfl|rfl|rfl|rfl|rfl <;> rfl
 obtain⟨a,b⟩:=qq4 (P 0) (P 1) (P 2) (P 3) (P 4) (P 5);exact⟨_,a,e.trans b⟩
def qa6(w:Nat)(ab:List (Option Nat))(b:List Int): List Int:=b++ov w ab b
theorem qb4{w:Nat}{ab:List (Option Nat)}(T:Tree w ab)(hw:w<=12)(x1:Option B): ∀(s:List Int) (acc:List Int) (b3:Option B),In w s->acc.length+s.length*12<=10000->∃b3',
  runFor (bN 3) yc (s.map D.int) [some (.fz (abD ab)),x1,some (.fz (.lst (acc.map D.int))),b3]=some (.nx,[some (.fz (abD ab)),x1,some (.fz (.lst ((acc++ov w ab s).map D.int))),b3'])
 | [],acc,b3,_,_=>⟨b3,by simp [runFor,ov]⟩
 | i :: s,acc,b3,hs,hl=>by
  obtain⟨i0,i1⟩:=hs i gq;have oe:=qg5 T hw (i:=i.toNat) (by omega);rw [show((i.toNat:Nat):Int)=i by omega] at oe;have sl:=qkc w ab i.toNat;rw [p5] at hl;obtain⟨b3',ih⟩:=qb4 T hw x1 s (acc++st w ab i.toNat) (some (.fz (.int i))) (fun x hx=>hs x (gr _ hx)) (by rw [nj];omega);refine⟨b3',?_⟩;have p:=qjo (acc.map D.int) ((st w ab i.toNat).map D.int) (by rw [mv,mv];omega);have body:yc [some (.fz (abD ab)),x1,some (.fz (.lst (acc.map D.int))),some (.fz (.int i))]=some (.nx,[some (.fz (abD ab)),x1,some (.fz (.lst ((acc++st w ab i.toNat).map D.int))),some (.fz (.int i))]):=by
   rw [g02];simp! [yc,oe,p]
  have e0:bN 3 (.int i) [some (.fz (abD ab)),x1,some (.fz (.lst (acc.map D.int))),b3]=some [some (.fz (abD ab)),x1,some (.fz (.lst (acc.map D.int))),some (.fz (.int i))]:=rfl;rw [gu,zt e0 body,ih];simp [ov]
theorem qbj{w:Nat}{ab:List (Option Nat)}(T:Tree w ab)(hw:w<=12)(b:List Int)(hb:In w b)(hl:b.length<=100): vi [abD ab,TI b]=some (.lst ((qa6 w ab b).map D.int)):=by
 obtain⟨b3,h⟩:=qb4 T hw (some (.fz (TI b))) b b none hb (by omega)
 (refine z8 ?_;simp! [wc,xm,h])
 rfl
abbrev ku(r:Run): D:=.tup [.int r.1,.lst (r.2.map D.int)]
def cnt(rs:List Run)(s:List Int): Int:=((rs.filter fun r=>s.all fun x=>decide (x∈r.2)).map (·.1)).sum
theorem q6e(rs:List Run)(s:List Int)(hr:rs.length<=1000)(hs:s.length<=1000): xw [.lst (rs.map ku),TI s]=some (.int (cnt rs s)):=by
 have hsl:s.length<=lim:=by show _<=1000000;omega
 have t0:([]:List D).length<=lim:=by decide
 have c:=q3s (b:=yh 2 (zh (bN 0) (zh (bN 1) yg))) (c:=zy oEq (eL (z6 (jo (eV 2)) [none,some 1] (bN 0) (zy (oIn true) (eV 0) (eV 1)) (eV 0))) (eL (yu qe))) (e:=eV 0) (ρ :=[none,none,some (.fz (TI s))]) ku (fun r=>s.all fun x=>decide (x∈r.2)) (fun r=>.int r.1) rs fun r _=>by
  have ci:=qbr (c:=zy (oIn true) (eV 0) (eV 1)) (ρ :=[some (.fz (.lst (r.2.map D.int)))]) (fun x=> !decide (x∈r.2)) s fun x _=>by
   have o:=qna x r.2;simp! [o]
  have e1:=eq_nil (s.filter fun x=> !decide (x∈r.2));rw [qn9] at e1;refine⟨[some (.fz (.int r.1)),some (.fz (.lst (r.2.map D.int))),some (.fz (TI s))],rfl,?_,fun _=>rfl⟩;simp! [z6,hsl,ci,t0,e1]
 have a:=q5t ((rs.filter fun r=>s.all fun x=>decide (x∈r.2)).map (·.1));rw [t8] at a;have hl:rs.length<=lim:=by show _<=1000000;omega
 have c':qv (yh 2 (zh (bN 0) (zh (bN 1) yg))) (zy oEq (eL (z6 (jo (eV 2)) [none,some 1] (bN 0) (zy (oIn true) (eV 0) (eV 1)) (eV 0))) (eL (yu qe))) (eV 0) [none,none,some (.fz (TI s))] (rs.map ku)=some ((rs.filter fun r=>s.all fun x=>decide (x∈r.2)).map (D.int ∘ fun x:Run=>x.1)):=c
 (refine z8 ?_;simp! [q07,z6,hl,c',a])
 rfl
def q15(w:Nat)(ab:List (Option Nat))(s:List Int): Bool:=s.all fun i=>(st w ab i.toNat).all fun x=> !decide (x∈s)
theorem qu2(x:Int)(b:List Int): oIn false (.int x) (TI b)=some (.bl (decide (x∈b))):=by
 show(if(flat (.int x)&&(b.map D.int).all flat)=true then some (D.bl (if false=true then !inF (.int x) (b.map D.int) else inF (.int x) (b.map D.int))) else none)=_;rw [q6a,q6t];rfl
theorem q9c{w:Nat}{ab:List (Option Nat)}(T:Tree w ab)(hw:w<=12)(s:List Int)(hl:s.length<=100): ∀(q:List Int) (b2:Option B),In w q->∃b2',
  runFor (bN 2) j8 (q.map D.int) [some (.fz (abD ab)),some (.fz (TI s)),b2]=some (if(q.all fun i=>(st w ab i.toNat).all fun x=> !decide (x∈s))=true then .nx else .rt (.bl false),[some (.fz (abD ab)),some (.fz (TI s)),b2'])
 | [],b2,_=>⟨b2,rfl⟩
 | i :: q,b2,hs=>by
  obtain⟨i0,i1⟩:=hs i gq;have oe:=qg5 T hw (i:=i.toNat) (by omega);rw [show((i.toNat:Nat):Int)=i by omega] at oe;have ci:=qbr (c:=zy (oIn false) (eV 0) (eV 1)) (ρ :=[some (.fz (TI s))]) (fun x=>decide (x∈s)) (st w ab i.toNat) fun x _=>by
   have o:=qu2 x s;simp! [o]
  have n:=ne_nil ((st w ab i.toNat).filter fun x=>decide (x∈s));have sl:(st w ab i.toNat).length<=lim:=by have:=qkc w ab i.toNat;show _<=1000000;omega
  have t0:([]:List D).length<=lim:=by decide
  have e0:bN 2 (.int i) [some (.fz (abD ab)),some (.fz (TI s)),b2]=some [some (.fz (abD ab)),some (.fz (TI s)),some (.fz (.int i))]:=rfl;have ee:((st w ab i.toNat).filter fun x=>decide (x∈s)).isEmpty=(st w ab i.toNat).all fun x=> !decide (x∈s):=by
   rw [pj,g51,g34,my]
   constructor <;> intro h x hx <;> have:=h x hx <;> simpa using this
  rw [ee] at n;cases hc:(st w ab i.toNat).all fun x=> !decide (x∈s) with
  | true=>
   rw [hc] at n;obtain⟨b2',ih⟩:=q9c T hw s hl q (some (.fz (.int i))) (fun x hx=>hs x (gr _ hx));refine⟨b2',?_⟩;have body:j8 [some (.fz (abD ab)),some (.fz (TI s)),some (.fz (.int i))]=some (.nx,[some (.fz (abD ab)),some (.fz (TI s)),some (.fz (.int i))]):=by
    simp! [j8,oe,z6,sl,ci,t0,n]
   rw [gu,zt e0 body,ih,g1m,hc,g4b]
  | false=>
   rw [hc] at n;refine⟨some (.fz (.int i)),?_⟩;have body:j8 [some (.fz (abD ab)),some (.fz (TI s)),some (.fz (.int i))]=some (.rt (.bl false),[some (.fz (abD ab)),some (.fz (TI s)),some (.fz (.int i))]):=by
    simp! [j8,oe,z6,sl,ci,t0,n]
   rw [gu,g1m,hc,g2q,mj (by decide)];exact qjp e0 body
theorem qa7{w:Nat}{ab:List (Option Nat)}(T:Tree w ab)(hw:w<=12)(s:List Int)(hl:s.length<=100)(hs:In w s): k7 [abD ab,TI s]=some (.bl (q15 w ab s)):=by
 obtain⟨b2,h⟩:=q9c T hw s hl s none hs;cases hc:q15 w ab s with
 | true=>
  unfold q15 at hc;rw [mq hc] at h
  (refine z8 ?_;simp! [vq,xm,h])
 | false=>
  unfold q15 at hc;rw [mj (by rw [hc];decide)] at h
  (refine z8 ?_;simp! [vq,xm,h])
end My
open PySem PyProof.Rows L2 DL
namespace My
open PySem PyProof.Rows L2 DL
theorem qa8:∀w:Nat,w<6->∀k:Nat,k<2 ^ w->∀x∈qi 12 k,0<=x/\x<(w:Int):=by decide +kernel
theorem q9d:∀w:Nat,w<6->yn [.int (w:Int)]=some (.lst ((jm w).map qr))
 | 0,_=>by kernel_rfl
 | 1,_=>by kernel_rfl
 | 2,_=>by kernel_rfl
 | 3,_=>by kernel_rfl
 | 4,_=>by kernel_rfl
 | 5,_=>by kernel_rfl
 | n+6,h=>by omega
abbrev q6f(rs:List Run)(k:Nat): D:=.tup [qr k,.int (cnt rs (qi 12 k))]
def q37(w:Nat)(ab:List (Option Nat))(rs:List Run)(L:Int)(k:Nat): Bool:=q15 w ab (qi 12 k)&&decide (L<=cnt rs (qi 12 k))
theorem q55{w:Nat}{ab:List (Option Nat)}(T:Tree w ab)(hw:w<6)(rs:List Run)(hr:rs.length<=1000)(L:Int): ∀(ks:List Nat) (acc:List D) (b4 b5:Option B),(∀k∈ks,k<2 ^ w)->acc.length+ks.length<=1000->∃b4' b5',
  runFor (bN 4) jh (ks.map qr) [some (.fz (.lst (rs.map ku))),some (.fz (abD ab)),some (.fz (.int L)),some (.ow acc),b4,b5]=some (.nx,[some (.fz (.lst (rs.map ku))),some (.fz (abD ab)),some (.fz (.int L)),some (.ow (acc++(ks.filter (q37 w ab rs L)).map (q6f rs))),b4',b5'])
 | [],acc,b4,b5,_,_=>⟨b4,b5,by simp [runFor]⟩
 | k :: ks,acc,b4,b5,hk,hl=>by
  rw [p5] at hl;have hkk:=hk k gq;have le:=qa7 T (by omega) (qi 12 k) (by have:=q0l 12 k;omega) (qa8 w hw k hkk);have ce:=q6e rs (qi 12 k) hr (by have:=q0l 12 k;omega);have la:acc.length<lim:=by show _<1000000;omega
  have l2:∀a b:D,([a,b]:List D).length<=lim:=fun _ _=>by show 2<=1000000;decide
  have hk':∀x∈ks,x<2 ^ w:=fun x hx=>hk x (gr _ hx);have e0:bN 4 (qr k) [some (.fz (.lst (rs.map ku))),some (.fz (abD ab)),some (.fz (.int L)),some (.ow acc),b4,b5]=some [some (.fz (.lst (rs.map ku))),some (.fz (abD ab)),some (.fz (.int L)),some (.ow acc),some (.fz (qr k)),b5]:=rfl;cases h1:q15 w ab (qi 12 k) with
  | false=>
   rw [h1] at le;obtain⟨b4',b5',ih⟩:=q55 T hw rs hr L ks acc (some (.fz (qr k))) b5 hk' (by omega);refine⟨b4',b5',?_⟩;have body:jh [some (.fz (.lst (rs.map ku))),some (.fz (abD ab)),some (.fz (.int L)),some (.ow acc),some (.fz (qr k)),b5]=some (.nx,[some (.fz (.lst (rs.map ku))),some (.fz (abD ab)),some (.fz (.int L)),some (.ow acc),some (.fz (qr k)),b5]):=by
    simp! [jh,le]
   rw [gu,zt e0 body,ih,nt,mj (by unfold q37;rw [h1];simp)]
  | true=>
   rw [h1] at le
   by_cases h2:L<=cnt rs (qi 12 k)
   ·obtain⟨b4',b5',ih⟩:=q55 T hw rs hr L ks (acc++[q6f rs k]) (some (.fz (qr k))) (some (.fz (.int (cnt rs (qi 12 k))))) hk' (by rw [nj];simp only [p5,g0g];omega)
    refine⟨b4',b5',?_⟩;have body:jh [some (.fz (.lst (rs.map ku))),some (.fz (abD ab)),some (.fz (.int L)),some (.ow acc),some (.fz (qr k)),b5]=some (.nx,[some (.fz (.lst (rs.map ku))),some (.fz (abD ab)),some (.fz (.int L)),some (.ow (acc++[q6f rs k])),some (.fz (qr k)),some (.fz (.int (cnt rs (qi 12 k))))]):=by
     simp! [jh,le,ce,h2,wz,q2c,q2d,la,l2]
    rw [gu,zt e0 body,ih,nt,mq (by unfold q37;rw [h1];simpa using h2)];simp
   ·obtain⟨b4',b5',ih⟩:=q55 T hw rs hr L ks acc (some (.fz (qr k))) (some (.fz (.int (cnt rs (qi 12 k))))) hk' (by omega)
    refine⟨b4',b5',?_⟩;have body:jh [some (.fz (.lst (rs.map ku))),some (.fz (abD ab)),some (.fz (.int L)),some (.ow acc),some (.fz (qr k)),b5]=some (.nx,[some (.fz (.lst (rs.map ku))),some (.fz (abD ab)),some (.fz (.int L)),some (.ow acc),some (.fz (qr k)),some (.fz (.int (cnt rs (qi 12 k))))]):=by
     simp! [jh,le,ce,h2]
    rw [gu,zt e0 body,ih,nt,mj (by unfold q37;rw [h1];simpa using h2)]
theorem q9e{w:Nat}{ab:List (Option Nat)}(T:Tree w ab)(hw:w<6)(rs:List Run)(hr:rs.length<=1000)(L:Int): wb [.lst (rs.map ku),abD ab,.int L]=some (.tup (((jm w).filter (q37 w ab rs L)).map (q6f rs))):=by
 have mf:=q1h w (by omega);have p64:=qhk (w:=w) (by omega);obtain⟨b4,b5,h⟩:=q55 T hw rs hr L (jm w) [] none none mf.2 (by rw [mf.1];simp only [g0g];omega);rw [g08] at h;have se:=q9d w hw;have t0:([]:List D).length<=lim:=by decide
 have tl:=T.len
 (refine z8 ?_;simp! [q1u,t0,xm,tl,se,h])
abbrev raw(w:Nat)(ab:List (Option Nat))(r:Run): Run:=(r.1,qa6 w ab r.2)
theorem qnb{w:Nat}{ab:List (Option Nat)}(T:Tree w ab){i:Nat}{x:Int}(h:x∈st w ab i): 0<=x/\x<(w:Int):=by
 obtain⟨y,rfl,ha⟩:=(qk9 T _ _).mp h;have:=qk8 T ha;omega
theorem qkd{w:Nat}{ab:List (Option Nat)}(T:Tree w ab)(hw:w<6){b:List Int}(hb:In w b): ∀x:Int,6<=x->lp w ab b x=false:=fun x hx=>by
 cases h:lp w ab b x with
 | false=>rfl
 | true=>
  unfold lp kp at h;rw [g0r,g0j,g38] at h;rcases h with h|⟨i,_,h⟩
  ·have:=hb x h;omega
  ·have:=qnb T (uk h);omega
theorem qg6{w:Nat}{ab:List (Option Nat)}(T:Tree w ab)(hw:w<6){b:List Int}(hb:In w b)(x:Int): x∈qa6 w ab b↔x∈lb w ab b:=by
 unfold qa6 ov lb;rw [nset_mem,nu,List.mem_flatMap];unfold lp kp;rw [g0r,g0j,g38]
 constructor
 ·rintro(h|⟨i,h1,h2⟩)
  ·exact⟨by have:=hb x h;omega,.inl h⟩
  ·exact⟨by have:=qnb T h2;omega,.inr ⟨i,h1,nk h2⟩⟩
 ·rintro⟨_,h|⟨i,h1,h2⟩⟩
  ·exact .inl h
  ·exact .inr ⟨i,h1,uk h2⟩
theorem qq5{w:Nat}{ab:List (Option Nat)}(T:Tree w ab)(hw:w<6)(rs:List Run)(hl:rs.length<=1000)(hr:∀r∈rs,0<=r.1/\In w r.2): ye (rs.map (lr w ab)):=by
 refine⟨by rw [mv];exact hl,fun q hq=>?_⟩;obtain⟨r,h,rfl⟩:=nv.mp hq;obtain⟨h0,h1⟩:=hr r h;obtain⟨t,t1,t2⟩:=qb3 _ (qkd T hw h1);have t2:lb w ab r.2=qi 12 t:=t2;refine⟨fun x hx=>?_,?_,h0,t,t1,t2⟩
 ·have:=(nset_mem.mp (show x∈j3 (lp w ab r.2) from hx)).1
  omega
 ·show(lb w ab r.2).length<=1000
  rw [t2];have:=q0l 12 t;omega
theorem qq6:∀t:Nat,t<64->∀k:Nat,k<64->(decide (t &&& k=k))=(qi 12 k).all fun x=>decide (x∈qi 12 t):=by decide +kernel
theorem qeb{w:Nat}{ab:List (Option Nat)}(T:Tree w ab)(hw:w<6)(k:Nat)(hk:k<64): ∀(rs:List Run),(∀r∈rs,0<=r.1/\In w r.2)->cnt (rs.map (raw w ab)) (qi 12 k)=cM (rs.map (lr w ab)) k
 | [],_=>rfl
 | r :: rs,hr=>by
  have ih:=qeb T hw k hk rs fun q hq=>hr q (gr _ hq);obtain⟨h0,h1⟩:=hr r gq;obtain⟨t,t1,t2⟩:=qb3 _ (qkd T hw h1);have t2:lb w ab r.2=qi 12 t:=t2;have e:decide (Builtin.bitAnd (mk (lb w ab r.2)) (k:Int)=(k:Int))=(qi 12 k).all fun x=>decide (x∈qa6 w ab r.2):=by
   rw [t2,(q14 t t1).2,qg2];have:decide (((t &&& k:Nat):Int)=(k:Int))=decide (t &&& k=k):=g4z.mpr (by omega);rw [this,qq6 t t1 k hk, <- t2];rw [pj,my,my]
   constructor <;> intro h x hx <;> have:=h x hx <;> simp only [u0] at this ⊢
   ·exact(qg6 T hw h1 x).mpr this
   ·exact(qg6 T hw h1 x).mp this
  unfold cnt cM at ih ⊢;simp only [gu,nt,e];cases(qi 12 k).all fun x=>decide (x∈qa6 w ab r.2)
  ·simpa using ih
  ·simp only [ny,gu,g4d,ih]
theorem qke:∀ns ms:List Int,xa (ns.map D.int) (ms.map D.int)=true
 | [],ms=>by cases ms <;> rfl
 | n :: ns,[]=>rfl
 | n :: ns,m :: ms=>by simp only [gu,xa,qke ns ms,Bool.and_true];rfl
theorem qnt:∀ns ms:List Int,eqL (ns.map D.int) (ms.map D.int)=decide (ns=ms)
 | [],[]=>rfl
 | [],m :: ms=>rfl
 | n :: ns,[]=>rfl
 | n :: ns,m :: ms=>by
  simp only [gu,eqL,qnt ns ms];show((n==m)&&decide (ns=ms))=_;rw [pj];simp
theorem qso(a b:List Int): oEq (TI a) (TI b)=some (.bl (decide (a=b))):=by
 show(none:Option D).or (if(xa (a.map D.int) (b.map D.int)&&decide (xb (a.map D.int)<=60))=true then some (D.bl (eqL (a.map D.int) (b.map D.int))) else none)=_;rw [qke,q3f,qnt];rfl
theorem qq7{w:Nat}{ab:List (Option Nat)}(T:Tree w ab)(hw:w<6)(s:List Int)(hs:In w s): decide ((s.filter fun x=> !decide (x∈j3 (kp w ab s)))=s)=q15 w ab s:=by
 rw [pj,g0j,List.filter_eq_self];unfold q15;rw [my]
 constructor
 ·intro h i hi
  rw [my];intro x hx;cases hd:decide (x∈s) with
  | false=>rfl
  | true=>
   have:=h x (uk hd);have hn:x∈j3 (kp w ab s):=nset_mem.mpr ⟨by have:=qnb T hx;omega,by unfold kp;rw [g38];exact⟨i,hi,nk hx⟩⟩;rw [nk hn] at this;cases this
 ·intro h x hx
  cases hd:decide (x∈j3 (kp w ab s)) with
  | false=>rfl
  | true=>
   have hk:=(nset_mem.mp (uk hd)).2;unfold kp at hk;rw [g38] at hk;obtain⟨i,hi,h2⟩:=hk;have:=my.mp (h i hi) x (uk h2);rw [nk hx] at this;cases this
theorem q4c{w:Nat}{ab:List (Option Nat)}(T:Tree w ab)(hw:w<6)(rs:List Run)(hl:rs.length<=1000)(hr:∀r∈rs,0<=r.1/\In w r.2)(L:Int): jn [yz w rs,abD ab,.int L]=some (.tup (((jm w).filter (q37 w ab (rs.map (raw w ab)) L)).map (q6f (rs.map (raw w ab))))):=by
 have ok:=qq5 T hw rs hl hr;have lf:=qkb T (by omega) rs hl fun r h=>(hr r h).2;have oe:=qn8 w (by omega) (rs.map (lr w ab)) L ok;have mf:=q1h w (by omega);have p64:=qhk (w:=w) (by omega);have hlo:(oft w (rs.map (lr w ab)) L).length<=lim:=by
  have:(oft w (rs.map (lr w ab)) L).length<=(jm w).length:=uy _ _;rw [mf.1] at this;show _<=1000000;omega
 have c:=q3s (b:=bN 0) (c:=zy oEq (qf (qo 2 [] q49) (qa (eV 1) (qa (eOp oIx (eV 0) (eC (.int 0))) qe))) (eOp oIx (eV 0) (eC (.int 0)))) (e:=eV 0) (ρ :=[none,some (.fz (abD ab))]) (pairD (rs.map (lr w ab))) (fun k=>q15 w ab (qi 12 k)) (pairD (rs.map (lr w ab))) (oft w (rs.map (lr w ab)) L) fun k hk=>by
  have hk2:=mf.2 k (g00.mp hk).1;have le:=qq3 T (by omega) (qi 12 k) (by have:=q0l 12 k;omega) (qa8 w hw k hk2);have ee:=qso ((qi 12 k).filter fun x=> !decide (x∈j3 (kp w ab (qi 12 k)))) (qi 12 k);rw [qq7 T hw _ (qa8 w hw k hk2)] at ee;refine⟨[some (.fz (pairD (rs.map (lr w ab)) k)),some (.fz (abD ab))],rfl,?_,fun _=>rfl⟩;simp! [le,ee]
 have e:(((jm w).filter (q37 w ab (rs.map (raw w ab)) L)).map (q6f (rs.map (raw w ab))))=((oft w (rs.map (lr w ab)) L).filter fun k=>q15 w ab (qi 12 k)).map (pairD (rs.map (lr w ab))):=by
  have h1:(oft w (rs.map (lr w ab)) L).filter (fun k=>q15 w ab (qi 12 k))=(jm w).filter (q37 w ab (rs.map (raw w ab)) L):=by
   unfold oft;rw [g45];apply g1e;intro k hk;unfold q37;rw [qeb T hw k (by have:=mf.2 k hk;omega) rs hr]
  rw [h1];apply g3r;intro k hk;have hk:=(g00.mp hk).1;show D.tup [qr k,.int (cnt (rs.map (raw w ab)) (qi 12 k))]=.tup [qr k,.int (cM (rs.map (lr w ab)) k)];rw [qeb T hw k (by have:=mf.2 k hk;omega) rs hr]
 rw [e]
 (refine z8 ?_;simp! [kb,qd6,qns,lf,oe,z6,hlo,c])
end My
open PySem PyProof.Rows L2 DL
namespace My
open PySem PyProof.Rows L2 DL
theorem q85:∀(n:Nat) (m k x:Int),x∈zv n m k->k<=x/\x<k+n
 | 0,_,_,_,h=>by cases h
 | n+1,m,k,x,h=>by
  unfold zv at h
  split at h
  ·rcases m6.mp h with rfl|h
   ·omega
   ·have:=q85 n _ _ _ h;omega
  ·have:=q85 n _ _ _ h;omega
theorem q56:∀(n:Nat) (m k:Int),(zv n m k).length<=n
 | 0,_,_=>gv _
 | n+1,m,k=>by
  unfold zv
  split
  ·exact Nat.succ_le_succ (q56 n _ _)
  ·exact Nat.le_succ_of_le (q56 n _ _)
def Good(w:Nat)(r:Run): Prop:=(0<=r.1/\In w r.2)/\r.2.length<=12
theorem qb5(ns:List Int)(w:Nat)(hw:w<6)(x2:Option B)(t:Rho): ∀(n k:Nat) (ra:List Run) (b4 b5 b6:Option B),k+n<=100->ra.length+n<=100->(∀r∈ra,Good w r)->∃(rs:List Run) (b4' b5' b6':Option B),rs.length<=100/\(∀r∈rs,Good w r) /\
  runFor (bN 4) q34 (z5 (k:Int) n) (some (.fz (.lst (ns.map .int))) :: some (.fz (.int (w:Int))) :: x2 :: some (.ow (ra.map q03)) :: b4 :: b5 :: b6 :: t)=some (.nx,some (.fz (.lst (ns.map .int))) :: some (.fz (.int (w:Int))) :: x2 :: some (.ow (rs.map q03)) :: b4' :: b5' :: b6' :: t)
 | 0,k,ra,b4,b5,b6,_,h1,h3=>⟨ra,b4,b5,b6,h1,h3,rfl⟩
 | n+1,k,ra,b4,b5,b6,hk,h1,h3=>by
  obtain⟨m,hm,m0⟩:=q5a ns (2+(k:Int)) (by omega) (by omega);have hg:∃g:Int,0<g/\atI [D.int 9,D.int 1000000000000] (m / 256%2)=some (.int g):=by
   have h1:=uo (m / 256) (show(2:Int)≠0 by decide);have h2:=g09 (m / 256) (show(0:Int)<2 by decide);have:m / 256%2=0\/m / 256%2=1:=by omega
   rcases this with e|e <;> rw [e]
   ·exact⟨9,by decide,rfl⟩
   ·exact⟨1000000000000,by decide,rfl⟩
  obtain⟨g,g0,hga⟩:=hg;have s1:=q98 (m%64) w (by omega);have la:ra.length<lim:=by show _<1000000;omega
  have l2:∀a b:D,([a,b]:List D).length<=lim:=fun _ _=>by show 2<=1000000;decide
  have gd:Good w (1+m / 65536%g,zv w (m%64) 0):=⟨⟨by have:=uo (m / 65536) (show g≠0 by omega);show 0<=1+m / 65536%g;omega,fun x hx=>by have:=q85 w (m%64) 0 x hx;omega⟩,by have:=q56 w (m%64) 0;show(zv w (m%64) 0).length<=12;omega⟩
  obtain⟨rs,b4',b5',b6',q1,q3,ih⟩:=qb5 ns w hw x2 t n (k+1) (ra++[(1+m / 65536%g,zv w (m%64) 0)]) (some (.fz (.int (k:Int)))) (some (.fz (.int m))) (some (.fz (.int (1+m / 65536%g)))) (by omega) (by simp only [nj,p5,g0g];omega)
   (fun r hr=>by
    rcases nu.mp hr with h|h
    ·exact h3 r h
    ·rw [n8.mp h];exact gd)
  refine⟨rs,b4',b5',b6',q1,q3,?_⟩;have body:q34 (some (.fz (.lst (ns.map .int))) :: some (.fz (.int (w:Int))) :: x2 :: some (.ow (ra.map q03)) :: some (.fz (.int (k:Int))) :: b5 :: b6 :: t)=some (.nx,some (.fz (.lst (ns.map .int))) :: some (.fz (.int (w:Int))) :: x2 :: some (.ow ((ra++[(1+m / 65536%g,zv w (m%64) 0)]).map q03)) :: some (.fz (.int (k:Int))) :: some (.fz (.int m)) :: some (.fz (.int (1+m / 65536%g))) :: t):=by
   rw [g02];simp! [q34,hm,hga,g0,s1,wz,q2c,q2d,la,l2]
  have e0:bN 4 (.int (k:Int)) (some (.fz (.lst (ns.map .int))) :: some (.fz (.int (w:Int))) :: x2 :: some (.ow (ra.map q03)) :: b4 :: b5 :: b6 :: t)=some (some (.fz (.lst (ns.map .int))) :: some (.fz (.int (w:Int))) :: x2 :: some (.ow (ra.map q03)) :: some (.fz (.int (k:Int))) :: b5 :: b6 :: t):=rfl;rw [kc,zt e0 body,show(k:Int)+1=((k+1:Nat):Int) by omega,ih]
theorem qec{w:Nat}{ab:List (Option Nat)}(T:Tree w ab)(hw:w<6)(rs:List Run)(hr:∀r∈rs,Good w r): qv (yh 2 (zh (bN 0) (zh (bN 1) yg))) zc (j7 (qa (eV 0) (qa (qf (qo 2 [] vi) (qa (eV 2) (qa (eV 1) qe))) qe))) [none,none,some (.fz (abD ab))] (rs.map q03)=some ((rs.map (raw w ab)).map ku):=by
 rw [t8];exact q54 q03 (ku ∘ raw w ab) rs fun r hrr=>by
  obtain⟨⟨h0,h1⟩,h2⟩:=hr r hrr;have e:=qbj T (by omega) r.2 h1 (by omega);have l2:∀a b:D,([a,b]:List D).length<=lim:=fun _ _=>by show 2<=1000000;decide
  refine⟨[some (.fz (.int r.1)),some (.fz (TI r.2)),some (.fz (abD ab))],rfl,?_⟩;simp! [e,l2]
  rfl
theorem qed(rs:List Run)(l:List Nat): yx [.tup (l.map (q6f rs)),.tup (l.map (q6f rs))]=some (.bl true):=q83 15 _ fun d hd=>by
 obtain⟨k,_,rfl⟩:=nv.mp hd;exact q83 14 _ fun e he=>by
  rcases m6.mp he with rfl|he
  ·exact qq2 12 _
  ·rw [n8.mp he];exact same_int 13 _
theorem qb6{w:Nat}{ab:List (Option Nat)}(T:Tree w ab)(hw:w<6)(rs:List Run)(hl:rs.length<=100)(hr:∀r∈rs,Good w r)(L:Int)(x0 x1 x2 x4 x5 x6 x8 x10 x11 x12:Option B):
  q52 [x0,x1,x2,some (.fz (.lst (rs.map q03))),x4,x5,x6,some (.fz (yz w rs)),x8,some (.fz (.int L)),x10,x11,x12,some (.fz (abD ab))]=some (.nx,[x0,x1,x2,some (.fz (.lst (rs.map q03))),x4,x5,x6,some (.fz (yz w rs)),some (.fz (.lst ((rs.map (raw w ab)).map ku))),some (.fz (.int L)),x10,x11,x12,some (.fz (abD ab))]):=by
 have c:=qec T hw rs hr;have hrl:rs.length<=lim:=by show _<=1000000;omega
 have ok:=q4c T hw rs (by omega) (fun r h=>(hr r h).1) L;have du:=q9e T hw (rs.map (raw w ab)) (by rw [mv];omega) L;have sm:=qed (rs.map (raw w ab)) ((jm w).filter (q37 w ab (rs.map (raw w ab)) L));generalize hR:rs.map (raw w ab)=R at c ok du sm ⊢;simp! [q52,z6,hrl,c,ok,du,sm]
theorem qkf(w:Nat): Tree w (List.replicate w none):=⟨g39,fun i j h=>by
 rw [ui] at h
 split at h
 ·cases h
 ·cases h⟩
def qhs(w:Nat): List (Option Nat):=List.replicate (w-1) (some (w-1))++List.replicate (min 1 w) none
theorem qnc(w:Nat): Tree w (qhs w):=by
 refine⟨by simp [qhs];omega,fun i j h=>?_⟩;unfold qhs at h
 by_cases hi:i<w-1
 ·rw [p9 (by simpa using hi),ui,mq hi] at h
  cases h;omega
 ·rw [p6 (by simpa using hi),ui] at h
  split at h <;> cases h
theorem qq8:∀w:Nat,w<6->zq (.tup [.non]) (.int (w:Int))=some (abD (List.replicate w none))
 | 0,_=>rfl
 | 1,_=>rfl
 | 2,_=>rfl
 | 3,_=>rfl
 | 4,_=>rfl
 | 5,_=>rfl
 | n+6,h=>by omega
theorem qsp:∀w:Nat,w<6->oMax [.int 0,.int ((w:Int)-1)]=some (.int ((w-1:Nat):Int))/\oMin [.int 1,.int (w:Int)]=some (.int ((min 1 w:Nat):Int))/\zq (.tup [.int ((w:Int)-1)]) (.int ((w-1:Nat):Int))=some (abD (List.replicate (w-1) (some (w-1))))/\zq (.tup [.non]) (.int ((min 1 w:Nat):Int))=some (abD (List.replicate (min 1 w) none))/\zd (abD (List.replicate (w-1) (some (w-1)))) (abD (List.replicate (min 1 w) none))=some (abD (qhs w))
 | 0,_=>⟨rfl,rfl,rfl,rfl,rfl⟩
 | 1,_=>⟨rfl,rfl,rfl,rfl,rfl⟩
 | 2,_=>⟨rfl,rfl,rfl,rfl,rfl⟩
 | 3,_=>⟨rfl,rfl,rfl,rfl,rfl⟩
 | 4,_=>⟨rfl,rfl,rfl,rfl,rfl⟩
 | 5,_=>⟨rfl,rfl,rfl,rfl,rfl⟩
 | n+6,h=>by omega
theorem qee(c k:Int)(h1 : -1000000<k)(h2:k<1000000): ∃m,zj [.int c,.int k]=some (.int m)/\0<=m/\m<2147483579:=by
 have t1:zq (.int k) (.int k)=some (.int (k*k)):=vz _ _ ⟨by omega,by omega⟩;have t2:∀x:Int,zq (.int (x%2147483647)) (.int (x%2147483647))=some (.int ((x%2147483647)*(x%2147483647))):=fun x=>
  vz _ _ ⟨by have:=uo x (show(2147483647:Int)≠0 by decide);omega,by have:=g09 x (show(0:Int)<2147483647 by decide);omega⟩
 have t3:∀x y:Int,zq (.int x) (.int (y%2147483629))=some (.int (x*(y%2147483629))):=fun x y=>
  vz _ _ ⟨by have:=uo y (show(2147483629:Int)≠0 by decide);omega,by have:=g09 y (show(0:Int)<2147483629 by decide);omega⟩
 simp! [zj,kh,t1,t2,t3];exact⟨_,rfl,uo _ (by decide),g09 _ (by decide)⟩
theorem qnd(ns:List Int)(hl:ns.length<=63): qhh [.lst (ns.map .int)]=some (.bl true):=by
 obtain⟨c0,hc0⟩:=q0a ns 0 (by decide);have h1:=uo (c0 / 2) (show(6:Int)≠0 by decide);have h2:=g09 (c0 / 2) (show(0:Int)<6 by decide);obtain⟨w,hw,w6⟩:∃w:Nat,c0 / 2%6=(w:Int)/\w<6:=⟨(c0 / 2%6).toNat,by omega,by omega⟩
 obtain⟨m1,hm1,_⟩:=q5a ns 1 (by decide) (by decide);obtain⟨ab,T,hab⟩:=qe6 m1 w (by omega);obtain⟨n,hn,n70⟩:=q84 ns;obtain⟨rs,b4,b5,b6,q1,q3,lp1⟩:=qb5 ns w w6 (some (.fz (abD ab))) [none,none,none,none,none,none,none] n 0 [] none none none (by omega) (by simp only [g0g];omega) (fun _ h=>by cases h);rw [show((0:Nat):Int)=0 from rfl,g0i] at lp1;have r1:iR1 (qa (qf (qo 1 [] xi) (qa (eV 0) qe)) qe) [some (.fz (.lst (ns.map .int))),some (.fz (.int (w:Int))),some (.fz (abD ab)),some (.ow []),none,none,none,none,none,none,none,none,none,none]=some (z5 0 n):=q42 _ _ (n:Int) (by simp! [hn]) (by omega) (by omega);have t0:([]:List D).length<=lim:=by decide
 have t1:∀a:D,([a]:List D).length<=lim:=fun _=>by show 1<=1000000;decide
 have l2:∀a b:D,([a,b]:List D).length<=lim:=fun _ _=>by show 2<=1000000;decide
 have hrl:rs.length<=lim:=by show _<=1000000;omega
 have c:=qec T w6 rs q3;obtain⟨m5,hm5,m50,m51⟩:=qee c0 7 (by decide) (by decide);have s5:=q98 (m5%64) w (by omega);have ce:=q6e (rs.map (raw w ab)) (zv w (m5%64) 0) (by rw [mv];omega) (by have:=q56 w (m5%64) 0;omega);have hmx:∀x:Int,oMax [.int 1,.int x]=some (.int (if x>1 then x else 1)):=fun _=>rfl;have hp12:∀x:Int,(0:Int)<10000000000000:=fun _=>by decide
 obtain⟨o1,o2,o3,o4,o5⟩:=qsp w w6;have fe:=qq8 w w6;have F:∀L:Int,∃Q,wb [.lst ((rs.map (raw w ab)).map ku),abD ab,.int L]=some (.tup Q)/\jn [yz w rs,abD ab,.int L]=some (.tup Q)/\yx [.tup Q,.tup Q]=some (.bl true):=fun L=>
  ⟨_,q9e T w6 (rs.map (raw w ab)) (by rw [mv];omega) L,q4c T w6 rs (by omega) (fun r h=>(q3 r h).1) L,qed (rs.map (raw w ab)) ((jm w).filter (q37 w ab (rs.map (raw w ab)) L))⟩
 have tm:zq (.int m5) (.int m5)=some (.int (m5*m5)):=vz _ _ ⟨by omega,by omega⟩;have bf:=qb6 (qkf w) w6 rs q1 q3;have bo:=qb6 (qnc w) w6 rs q1 q3
 by_cases cc:m5 / 128%8=0
 ·obtain⟨Q,du,ok,sm⟩:=F (1+m5*m5%10000000000000)
  (refine z8 ?_;simp! [q6s,hc0,hw,hm1,hab,t0,xm,r1,lp1,l2,z6,hrl,c,hm5,s5,ce,hmx,cc,tm,du,ok,sm,t1,fe,o1,o2,o3,o4,o5,runFor,bf,bo,qn5])
 ·obtain⟨Q,du,ok,sm⟩:=F (if cnt (rs.map (raw w ab)) (zv w (m5%64) 0)+m5 / 64%2>1 then cnt (rs.map (raw w ab)) (zv w (m5%64) 0)+m5 / 64%2 else 1)
  (refine z8 ?_;simp! [q6s,hc0,hw,hm1,hab,t0,xm,r1,lp1,l2,z6,hrl,c,hm5,s5,ce,hmx,cc,tm,du,ok,sm,t1,fe,o1,o2,o3,o4,o5,runFor,bf,bo,qn5])
end My
namespace My
open PySem PySem.Spec PyProof.Rows L2 DL
open PySem.W (nsIn fnOf keepIn codeIn mg_of subIn mg_none_of findIn plainGet)
theorem ln1{s:Shared}{fd:FuncData}{ps:List Str}(h:∀a0,BindsTo s fd ⟨[a0],[]⟩ (ps.zip ([a0]++[]))): ∀us:List Value,(us++[]).length=1->BindsTo s fd ⟨us,[]⟩ (ps.zip (us++[]))
 | [a0],_=>h a0
theorem ln2{s:Shared}{fd:FuncData}{ps:List Str}(h:∀a0 a1,BindsTo s fd ⟨[a0,a1],[]⟩ (ps.zip ([a0,a1]++[]))): ∀us:List Value,(us++[]).length=2->BindsTo s fd ⟨us,[]⟩ (ps.zip (us++[]))
 | [a0,a1],_=>h a0 a1
theorem ln3{s:Shared}{fd:FuncData}{ps:List Str}(h:∀a0 a1 a2,BindsTo s fd ⟨[a0,a1,a2],[]⟩ (ps.zip ([a0,a1,a2]++[]))): ∀us:List Value,(us++[]).length=3->BindsTo s fd ⟨us,[]⟩ (ps.zip (us++[]))
 | [a0,a1,a2],_=>h a0 a1 a2
theorem all_mk{q:Program}{l:PySem.W.OpenLaw}{w:World}{K:Frag}{h:Heap}{mg:Str->Option Value}{fa:Addr}(X:K.In h)(G:h.Ns mainGlobals mg)(hfa:mg "law" = some (.ref fa))(hm:∀ns:List Int,ns.length<=63->qhh [.lst (ns.map .int)]=some (.bl true))
  {C_Growing:Addr}
  (x_Growing:nsIn K mainGlobals "Growing" = some (some (.ref C_Growing)))
  (mk_Growing:PySem.W.makesIn K C_Growing=true)
  (in_Growing:findIn K (.ref C_Growing) "__init__" = some (some (.builtin "object.__init__")))
  (kp_Growing:keepIn K (.ref C_Growing)=true)
  (pg_Growing:plainGet K C_Growing Str.empty=true)
  (hd_Growing:PySem.W.hasDictIn K C_Growing=true)
  (po_Growing:PySem.W.plainOver K C_Growing=true)
  (sa_Growing:findIn K (.ref C_Growing) "__setattr__" = some (some (.builtin "object.__setattr__")))
  (cg_Growing:plainGet K C_Growing "__class__" = true)
  (cc_Growing:findIn K (.ref C_Growing) "__class__" = some (some (.builtin "object.__class__")))
  (cs_Growing:PySem.W.specialIn K (.builtin "object.__class__") "__get__" = some (some (.builtin "getset_descriptor.__get__")))
  (ct_Growing:PySem.W.takesIn K (.builtin "object.__class__")=some true)
  (cm_Growing:PySem.W.mroIn K C_Growing (.type "object")=some true)
  (ciint_Growing:subIn K (.ref C_Growing) (.type "int")=some false)
  (cibool_Growing:subIn K (.ref C_Growing) (.type "bool")=some false)
  (cituple_Growing:subIn K (.ref C_Growing) (.type "tuple")=some false)
  (cilist_Growing:subIn K (.ref C_Growing) (.type "list")=some false)
  (cistr_Growing:subIn K (.ref C_Growing) (.type "str")=some false)
  (cidict_Growing:subIn K (.ref C_Growing) (.type "dict")=some false)
  {fa_10:Addr} {fd_law_above:FuncData} (x_law_above:nsIn K mainGlobals "_law_above" = some (some (.ref fa_10))) (F_law_above:Fun2 K "_law_above" "_law_above" kf .none fa_10 fd_law_above)
  {fa_18:Addr} {fd_law_mixed:FuncData} (x_law_mixed:nsIn K mainGlobals "_law_mixed" = some (some (.ref fa_18))) (F_law_mixed:Fun2 K "_law_mixed" "_law_mixed" kg .none fa_18 fd_law_mixed)
  {fa_22:Addr} {fd_law_set:FuncData} (x_law_set:nsIn K mainGlobals "_law_set" = some (some (.ref fa_22))) (F_law_set:Fun2 K "_law_set" "_law_set" q0q .none fa_22 fd_law_set)
  {fa_11:Addr} {od_11 an_11:Option Addr} {sl_11:Array (Option Value)} {oc_11 kV_11 dc_11 pm_11 ct_11:Value}
  {cL_law_all_sets TL_law_all_sets:Addr}
  (x_law_all_sets:nsIn K mainGlobals "_law_all_sets" = some (some (.ref fa_11)))
  (l_11:K.lookup fa_11=some ⟨oc_11,od_11,.func (fnOf "_law_all_sets" "_law_all_sets" (vj zr) (qp zr) (qc zr) .none kV_11 dc_11 pm_11 an_11 (.ref cL_law_all_sets) ct_11),sl_11⟩)
  (q_11:codeIn K (.ref cL_law_all_sets) "_law_all_sets" = true) (k_11:keepIn K (.ref fa_11)=true)
  {oL_law_all_sets:Obj} (o_11:K.lookup cL_law_all_sets=some oL_law_all_sets) (p_11:tabOf oL_law_all_sets=some TL_law_all_sets) (hh_11:PySem.W.codeHdIn [(cL_law_all_sets,oL_law_all_sets)] cL_law_all_sets TL_law_all_sets=true) (nl_11:K.lookup TL_law_all_sets=none) (r_11:((recsOf q).find? (fun e=>e.name==("_law_all_sets" : Str))).isSome=true)
  {fa_20:Addr} {fd_law_over:FuncData} (x_law_over:nsIn K mainGlobals "_law_over" = some (some (.ref fa_20))) (F_law_over:Fun2 K "_law_over" "_law_over" wj .none fa_20 fd_law_over)
  {fa_15:Addr} {fd_law_is_lean:FuncData} (x_law_is_lean:nsIn K mainGlobals "_law_is_lean" = some (some (.ref fa_15))) (F_law_is_lean:Fun2 K "_law_is_lean" "_law_is_lean" vp .none fa_15 fd_law_is_lean)
  {fa_13:Addr} {fd_law_count:FuncData} (x_law_count:nsIn K mainGlobals "_law_count" = some (some (.ref fa_13))) (F_law_count:Fun2 K "_law_count" "_law_count" ki .none fa_13 fd_law_count)
  {fa_14:Addr} {fd_law_due:FuncData} (x_law_due:nsIn K mainGlobals "_law_due" = some (some (.ref fa_14))) (F_law_due:Fun2 K "_law_due" "_law_due" q0r .none fa_14 fd_law_due)
  {fa_21:Addr} {fd_law_same:FuncData} (x_law_same:nsIn K mainGlobals "_law_same" = some (some (.ref fa_21))) (F_law_same:Fun2 K "_law_same" "_law_same" wk .none fa_21 fd_law_same)
  {fa_12:Addr} {fd_law_cell:FuncData} (x_law_cell:nsIn K mainGlobals "_law_cell" = some (some (.ref fa_12))) (F_law_cell:Fun2 K "_law_cell" "_law_cell" wm .none fa_12 fd_law_cell)
  {fa_19:Addr} {fd_law_number:FuncData} (x_law_number:nsIn K mainGlobals "_law_number" = some (some (.ref fa_19))) (F_law_number:Fun2 K "_law_number" "_law_number" yo .none fa_19 fd_law_number)
  {fa_17:Addr} {fd_law_many_runs:FuncData} (x_law_many_runs:nsIn K mainGlobals "_law_many_runs" = some (some (.ref fa_17))) (F_law_many_runs:Fun2 K "_law_many_runs" "_law_many_runs" xg .none fa_17 fd_law_many_runs)
  {fa_2:Addr} {fd_at_least:FuncData} (x_at_least:nsIn K mainGlobals "at_least" = some (some (.ref fa_2))) (F_at_least:Fun2 K "at_least" "at_least" wq .none fa_2 fd_at_least)
  {fa_25:Addr} {fd_mark_of:FuncData} (x_mark_of:nsIn K mainGlobals "mark_of" = some (some (.ref fa_25))) (F_mark_of:Fun2 K "mark_of" "mark_of" q0s .none fa_25 fd_mark_of)
  {fa_26:Addr} {fd_marked:FuncData} (x_marked:nsIn K mainGlobals "marked" = some (some (.ref fa_26))) (F_marked:Fun2 K "marked" "marked" q1a .none fa_26 fd_marked)
  {fa_29:Addr} {fd_one_ware_more:FuncData} (x_one_ware_more:nsIn K mainGlobals "one_ware_more" = some (some (.ref fa_29))) (F_one_ware_more:Fun2 K "one_ware_more" "one_ware_more" xj .none fa_29 fd_one_ware_more)
  {fa_28:Addr} {fd_one_ware_fewer:FuncData} (x_one_ware_fewer:nsIn K mainGlobals "one_ware_fewer" = some (some (.ref fa_28))) (F_one_ware_fewer:Fun2 K "one_ware_fewer" "one_ware_fewer" jv .none fa_28 fd_one_ware_fewer)
  {fa_4:Addr} {fd_grown:FuncData} (x_grown:nsIn K mainGlobals "grown" = some (some (.ref fa_4))) (F_grown:Fun2 K "grown" "grown" q2i .none fa_4 fd_grown)
  {fa_3:Addr} {fd_count_marked:FuncData} (x_count_marked:nsIn K mainGlobals "count_marked" = some (some (.ref fa_3))) (F_count_marked:Fun2 K "count_marked" "count_marked" v8 .none fa_3 fd_count_marked)
  {fa_0:Addr} {od_0 an_0:Option Addr} {sl_0:Array (Option Value)} {oc_0 kV_0 dc_0 pm_0 cd_0 ct_0:Value}
  (x_Growing_counted:findIn K (.ref C_Growing) "counted" = some (some (.ref fa_0))) (i_0:PySem.W.isFn K (.ref fa_0)=true)
  (l_0:K.lookup fa_0=some ⟨oc_0,od_0,.func (fnOf "counted" "Growing.counted" (vj zk) (qp zk) (qc zk) .none kV_0 dc_0 pm_0 an_0 cd_0 ct_0),sl_0⟩)
  (q_0:codeIn K cd_0 "Growing.counted" = true) (k_0:keepIn K (.ref fa_0)=true)
  {fa_1:Addr} {od_1 an_1:Option Addr} {sl_1:Array (Option Value)} {oc_1 kV_1 dc_1 pm_1 cd_1 ct_1:Value}
  (x_Growing_often:findIn K (.ref C_Growing) "often" = some (some (.ref fa_1))) (i_1:PySem.W.isFn K (.ref fa_1)=true)
  (l_1:K.lookup fa_1=some ⟨oc_1,od_1,.func (fnOf "often" "Growing.often" (vj zw) (qp zw) (qc zw) .none kV_1 dc_1 pm_1 an_1 cd_1 ct_1),sl_1⟩)
  (q_1:codeIn K cd_1 "Growing.often" = true) (k_1:keepIn K (.ref fa_1)=true)
  {fa_5:Addr} {fd_is_number:FuncData} (x_is_number:nsIn K mainGlobals "is_number" = some (some (.ref fa_5))) (F_is_number:Fun2 K "is_number" "is_number" kj .none fa_5 fd_is_number)
  {fa_7:Addr} {fd_is_within:FuncData} (x_is_within:nsIn K mainGlobals "is_within" = some (some (.ref fa_7))) (F_is_within:Fun2 K "is_within" "is_within" kl .none fa_7 fd_is_within)
  {fa_6:Addr} {fd_is_tree:FuncData} (x_is_tree:nsIn K mainGlobals "is_tree" = some (some (.ref fa_6))) (F_is_tree:Fun2 K "is_tree" "is_tree" q0t .none fa_6 fd_is_tree)
  {fa_8:Addr} {fd_joined:FuncData} (x_joined:nsIn K mainGlobals "joined" = some (some (.ref fa_8))) (F_joined:Fun2 K "joined" "joined" q1c .none fa_8 fd_joined)
  {fa_30:Addr} {fd_standing_above:FuncData} (x_standing_above:nsIn K mainGlobals "standing_above" = some (some (.ref fa_30))) (F_standing_above:Fun2 K "standing_above" "standing_above" jx .none fa_30 fd_standing_above)
  {fa_9:Addr} {fd_kinds_of:FuncData} (x_kinds_of:nsIn K mainGlobals "kinds_of" = some (some (.ref fa_9))) (F_kinds_of:Fun2 K "kinds_of" "kinds_of" wu .none fa_9 fd_kinds_of)
  {fa_24:Addr} {fd_lifted:FuncData} (x_lifted:nsIn K mainGlobals "lifted" = some (some (.ref fa_24))) (F_lifted:Fun2 K "lifted" "lifted" q1d .none fa_24 fd_lifted)
  {fa_23:Addr} {fd_lean:FuncData} (x_lean:nsIn K mainGlobals "lean" = some (some (.ref fa_23))) (F_lean:Fun2 K "lean" "lean" q48 .none fa_23 fd_lean)
  {fa_27:Addr} {fd_often_kinds:FuncData} (x_often_kinds:nsIn K mainGlobals "often_kinds" = some (some (.ref fa_27))) (F_often_kinds:Fun2 K "often_kinds" "often_kinds" vt .none fa_27 fd_often_kinds)
  {fa_16:Addr} {fd_law_lifted:FuncData} (x_law_lifted:nsIn K mainGlobals "_law_lifted" = some (some (.ref fa_16))) (F_law_lifted:Fun2 K "_law_lifted" "_law_lifted" yr .none fa_16 fd_law_lifted)
  {fa_law:Addr} {fd_law:FuncData} (x_law:nsIn K mainGlobals "law" = some (some (.ref fa_law))) (F_law:Fun2 K "law" "law" q6r .none fa_law fd_law)
  (z_range:nsIn K mainGlobals "range" = some none)
  (z_tuple:nsIn K mainGlobals "tuple" = some none)
  (z_int:nsIn K mainGlobals "int" = some none)
  (z_sorted:nsIn K mainGlobals "sorted" = some none)
  (z_len:nsIn K mainGlobals "len" = some none)
  (z_sum:nsIn K mainGlobals "sum" = some none)
  (z_isinstance:nsIn K mainGlobals "isinstance" = some none)
  (z_zip:nsIn K mainGlobals "zip" = some none)
  (z_bool:nsIn K mainGlobals "bool" = some none)
  (z_max:nsIn K mainGlobals "max" = some none)
  (z_min:nsIn K mainGlobals "min" = some none)
  (z_dict:nsIn K mainGlobals "dict" = some none)
  (z_all:nsIn K mainGlobals "all" = some none)
  (z_enumerate:nsIn K mainGlobals "enumerate" = some none)
  (z_set:nsIn K mainGlobals "set" = some none)
  (z_list:nsIn K mainGlobals "list" = some none)
  : ∃(L:Lam) (tabs:List (Addr×Addr)) (fd:FuncData),(∀p∈L.tab,p.1∈tabs.map (·.2))/\(∀p∈tabs,K.lookup p.2=none/\∃y:Str,((recsOf q).find? (fun e=>e.name==y)).isSome=true/\PySem.W.tabIn K y=some p)/\(∀(s:Shared) (v:Value),BindsTo s fd ⟨[v],[]⟩ [("_law_script",v)])/\∀base:Heap,K.In base->base.Ns mainGlobals mg->q2b mg base->FnOk l.prog w K mg base CX0 18 fa fd ["_law_script"] (qbm K):=by
 letI L:Lam:=⟨[(TL_law_all_sets,"_law_all_sets.<locals>.<lambda>")]⟩
 have O_Growing:ClsOk K "Growing" C_Growing:=⟨x_Growing,mk_Growing,in_Growing,kp_Growing,⟨pg_Growing,hd_Growing,po_Growing,sa_Growing⟩,cg_Growing,hd_Growing,cc_Growing,cs_Growing,ct_Growing,cm_Growing,qp8 ciint_Growing cibool_Growing cituple_Growing cilist_Growing cistr_Growing cidict_Growing⟩
 have m_Growing:=mg_of X G x_Growing;have k_10:=F_law_above.kp;have k_18:=F_law_mixed.kp;have k_22:=F_law_set.kp;have h_law_all_sets:=qei o_11 hh_11;have t_law_all_sets:=qlz x_law_all_sets l_11 rfl o_11 p_11;have F_law_all_sets:=qp9 (st:=zr) l_11 q_11 h_law_all_sets k_11;have k_20:=F_law_over.kp;have k_15:=F_law_is_lean.kp;have k_13:=F_law_count.kp;have k_14:=F_law_due.kp;have k_21:=F_law_same.kp;have k_12:=F_law_cell.kp;have k_19:=F_law_number.kp;have k_17:=F_law_many_runs.kp;have k_2:=F_at_least.kp;have k_25:=F_mark_of.kp;have k_26:=F_marked.kp;have k_29:=F_one_ware_more.kp;have k_28:=F_one_ware_fewer.kp;have k_4:=F_grown.kp;have k_3:=F_count_marked.kp;have F_Growing_counted:=q9n (st:=zk) l_0 q_0 k_0;have F_Growing_often:=q9n (st:=zw) l_1 q_1 k_1;have k_5:=F_is_number.kp;have k_7:=F_is_within.kp;have k_6:=F_is_tree.kp;have k_8:=F_joined.kp;have k_30:=F_standing_above.kp;have k_9:=F_kinds_of.kp;have k_24:=F_lifted.kp;have k_23:=F_lean.kp;have k_27:=F_often_kinds.kp;have k_16:=F_law_lifted.kp;have k_law:=F_law.kp;have n_range:=mg_none_of X G z_range;have n_tuple:=mg_none_of X G z_tuple;have n_int:=mg_none_of X G z_int;have n_sorted:=mg_none_of X G z_sorted;have n_len:=mg_none_of X G z_len;have n_sum:=mg_none_of X G z_sum;have n_isinstance:=mg_none_of X G z_isinstance;have n_zip:=mg_none_of X G z_zip;have n_bool:=mg_none_of X G z_bool;have n_max:=mg_none_of X G z_max;have n_min:=mg_none_of X G z_min;have n_dict:=mg_none_of X G z_dict;have n_all:=mg_none_of X G z_all;have n_enumerate:=mg_none_of X G z_enumerate;have n_set:=mg_none_of X G z_set;have n_list:=mg_none_of X G z_list;have hP_L:(TL_law_all_sets,("_law_all_sets.<locals>.<lambda>" : Str))∈Lam.tab:=n8.mpr rfl;have hU_L:∀p∈Lam.tab,p.1=TL_law_all_sets->p.2="_law_all_sets.<locals>.<lambda>" :=fun p hp _=>by rw [n8.mp hp]
 have e:=hfa.symm.trans (mg_of X G x_law);cases e;have b_10:Binds K _ ["_law_number_here","_law_wares"] []:=F_law_above.bindsTo (P:=fun fd=>Binds K fd ["_law_number_here","_law_wares"] []) fun _ _ _ _ _ _ s us hk hl=>ln2 (fun _ _=>.of_eq rfl) us hl;have b_18:Binds K _ ["_law_cell_here","_law_k"] []:=F_law_mixed.bindsTo (P:=fun fd=>Binds K fd ["_law_cell_here","_law_k"] []) fun _ _ _ _ _ _ s us hk hl=>ln2 (fun _ _=>.of_eq rfl) us hl;have b_22:Binds K _ ["_law_mark","_law_wares"] []:=F_law_set.bindsTo (P:=fun fd=>Binds K fd ["_law_mark","_law_wares"] []) fun _ _ _ _ _ _ s us hk hl=>ln2 (fun _ _=>.of_eq rfl) us hl;have b_11:Binds K _ ["_law_wares"] []:=F_law_all_sets.bindsTo (P:=fun fd=>Binds K fd ["_law_wares"] []) fun _ _ _ _ _ _ s us hk hl=>ln1 (fun _=>.of_eq rfl) us hl;have b_20:Binds K _ ["_law_above_here","_law_ware"] []:=F_law_over.bindsTo (P:=fun fd=>Binds K fd ["_law_above_here","_law_ware"] []) fun _ _ _ _ _ _ s us hk hl=>ln2 (fun _ _=>.of_eq rfl) us hl;have b_15:Binds K _ ["_law_above_here","_law_some"] []:=F_law_is_lean.bindsTo (P:=fun fd=>Binds K fd ["_law_above_here","_law_some"] []) fun _ _ _ _ _ _ s us hk hl=>ln2 (fun _ _=>.of_eq rfl) us hl;have b_13:Binds K _ ["_law_runs","_law_some"] []:=F_law_count.bindsTo (P:=fun fd=>Binds K fd ["_law_runs","_law_some"] []) fun _ _ _ _ _ _ s us hk hl=>ln2 (fun _ _=>.of_eq rfl) us hl;have b_14:Binds K _ ["_law_runs","_law_above_here","_law_least"] []:=F_law_due.bindsTo (P:=fun fd=>Binds K fd ["_law_runs","_law_above_here","_law_least"] []) fun _ _ _ _ _ _ s us hk hl=>ln3 (fun _ _ _=>.of_eq rfl) us hl;have b_21:Binds K _ ["_law_found","_law_due_here"] []:=F_law_same.bindsTo (P:=fun fd=>Binds K fd ["_law_found","_law_due_here"] []) fun _ _ _ _ _ _ s us hk hl=>ln2 (fun _ _=>.of_eq rfl) us hl;have b_12:Binds K _ ["_law_script","_law_k"] []:=F_law_cell.bindsTo (P:=fun fd=>Binds K fd ["_law_script","_law_k"] []) fun _ _ _ _ _ _ s us hk hl=>ln2 (fun _ _=>.of_eq rfl) us hl;have b_19:Binds K _ ["_law_script","_law_k"] []:=F_law_number.bindsTo (P:=fun fd=>Binds K fd ["_law_script","_law_k"] []) fun _ _ _ _ _ _ s us hk hl=>ln2 (fun _ _=>.of_eq rfl) us hl;have b_17:Binds K _ ["_law_script"] []:=F_law_many_runs.bindsTo (P:=fun fd=>Binds K fd ["_law_script"] []) fun _ _ _ _ _ _ s us hk hl=>ln1 (fun _=>.of_eq rfl) us hl;have b_2:Binds K _ ["pairs","least"] []:=F_at_least.bindsTo (P:=fun fd=>Binds K fd ["pairs","least"] []) fun _ _ _ _ _ _ s us hk hl=>ln2 (fun _ _=>.of_eq rfl) us hl;have b_25:Binds K _ ["some"] []:=F_mark_of.bindsTo (P:=fun fd=>Binds K fd ["some"] []) fun _ _ _ _ _ _ s us hk hl=>ln1 (fun _=>.of_eq rfl) us hl;have b_26:Binds K _ ["pile"] []:=F_marked.bindsTo (P:=fun fd=>Binds K fd ["pile"] []) fun _ _ _ _ _ _ s us hk hl=>ln1 (fun _=>.of_eq rfl) us hl;have b_29:Binds K _ ["some","wares"] []:=F_one_ware_more.bindsTo (P:=fun fd=>Binds K fd ["some","wares"] []) fun _ _ _ _ _ _ s us hk hl=>ln2 (fun _ _=>.of_eq rfl) us hl;have b_28:Binds K _ ["some"] []:=F_one_ware_fewer.bindsTo (P:=fun fd=>Binds K fd ["some"] []) fun _ _ _ _ _ _ s us hk hl=>ln1 (fun _=>.of_eq rfl) us hl;have b_4:Binds K _ ["layer","wares"] []:=F_grown.bindsTo (P:=fun fd=>Binds K fd ["layer","wares"] []) fun _ _ _ _ _ _ s us hk hl=>ln2 (fun _ _=>.of_eq rfl) us hl;have b_3:Binds K _ ["marked_runs","some"] []:=F_count_marked.bindsTo (P:=fun fd=>Binds K fd ["marked_runs","some"] []) fun _ _ _ _ _ _ s us hk hl=>ln2 (fun _ _=>.of_eq rfl) us hl;have b_0:Binds K _ ["self","pile","least"] []:=F_Growing_counted.bindsTo (P:=fun fd=>Binds K fd ["self","pile","least"] []) fun _ _ _ _ _ _ s us hk hl=>ln3 (fun _ _ _=>.of_eq rfl) us hl;have b_1:Binds K _ ["self","pile","least"] []:=F_Growing_often.bindsTo (P:=fun fd=>Binds K fd ["self","pile","least"] []) fun _ _ _ _ _ _ s us hk hl=>ln3 (fun _ _ _=>.of_eq rfl) us hl;have b_5:Binds K _ ["thing"] []:=F_is_number.bindsTo (P:=fun fd=>Binds K fd ["thing"] []) fun _ _ _ _ _ _ s us hk hl=>ln1 (fun _=>.of_eq rfl) us hl;have b_7:Binds K _ ["thing","lowest","highest"] []:=F_is_within.bindsTo (P:=fun fd=>Binds K fd ["thing","lowest","highest"] []) fun _ _ _ _ _ _ s us hk hl=>ln3 (fun _ _ _=>.of_eq rfl) us hl;have b_6:Binds K _ ["thing","wares"] []:=F_is_tree.bindsTo (P:=fun fd=>Binds K fd ["thing","wares"] []) fun _ _ _ _ _ _ s us hk hl=>ln2 (fun _ _=>.of_eq rfl) us hl;have b_8:Binds K _ ["one","other"] []:=F_joined.bindsTo (P:=fun fd=>Binds K fd ["one","other"] []) fun _ _ _ _ _ _ s us hk hl=>ln2 (fun _ _=>.of_eq rfl) us hl;have b_30:Binds K _ ["above","ware"] []:=F_standing_above.bindsTo (P:=fun fd=>Binds K fd ["above","ware"] []) fun _ _ _ _ _ _ s us hk hl=>ln2 (fun _ _=>.of_eq rfl) us hl;have b_9:Binds K _ ["above","some"] []:=F_kinds_of.bindsTo (P:=fun fd=>Binds K fd ["above","some"] []) fun _ _ _ _ _ _ s us hk hl=>ln2 (fun _ _=>.of_eq rfl) us hl;have b_24:Binds K _ ["pile","above"] []:=F_lifted.bindsTo (P:=fun fd=>Binds K fd ["pile","above"] []) fun _ _ _ _ _ _ s us hk hl=>ln2 (fun _ _=>.of_eq rfl) us hl;have b_23:Binds K _ ["above","some"] []:=F_lean.bindsTo (P:=fun fd=>Binds K fd ["above","some"] []) fun _ _ _ _ _ _ s us hk hl=>ln2 (fun _ _=>.of_eq rfl) us hl;have b_27:Binds K _ ["pile","above","least"] []:=F_often_kinds.bindsTo (P:=fun fd=>Binds K fd ["pile","above","least"] []) fun _ _ _ _ _ _ s us hk hl=>ln3 (fun _ _ _=>.of_eq rfl) us hl;have b_16:Binds K _ ["_law_above_here","_law_basket"] []:=F_law_lifted.bindsTo (P:=fun fd=>Binds K fd ["_law_above_here","_law_basket"] []) fun _ _ _ _ _ _ s us hk hl=>ln2 (fun _ _=>.of_eq rfl) us hl;refine⟨L,[(cL_law_all_sets,TL_law_all_sets)],_,fun p hp=>(by rw [n8.mp hp];exact n8.mpr rfl),fun p hp=>(by rw [n8.mp hp];exact⟨nl_11,_,r_11,t_law_all_sets⟩),F_law.bindsTo (P:=fun fd=>∀(s:Shared) (v:Value),BindsTo s fd ⟨[v],[]⟩ [("_law_script",v)]) (fun _ _ _ _ _ _ s v=>.of_eq rfl),fun base _ _ B_L=>?_⟩;have o_10:=qdk (P:=l.prog) (w:=w) (mg:=mg) (base:=base) F_law_above n_range n_tuple n_int;have c_10:=Cal.mk o_10 (mg_of X G x_law_above) k_10;have o_18:=qdm (P:=l.prog) (w:=w) (mg:=mg) (base:=base) F_law_mixed;have c_18:=Cal.mk o_18 (mg_of X G x_law_mixed) k_18;have o_22:=qh5 (P:=l.prog) (w:=w) (mg:=mg) (base:=base) F_law_set n_range n_tuple;have c_22:=Cal.mk o_22 (mg_of X G x_law_set) k_22;have o_11:=q90 (P:=l.prog) (w:=w) (mg:=mg) (base:=base) c_22 b_22 n_sorted n_range n_len F_law_all_sets hP_L hU_L B_L;have c_11:=Cal.mk o_11 (mg_of X G x_law_all_sets) k_11;have o_20:=qen (P:=l.prog) (w:=w) (mg:=mg) (base:=base) F_law_over n_range n_len;have c_20:=Cal.mk o_20 (mg_of X G x_law_over) k_20;have o_15:=qa1 (P:=l.prog) (w:=w) (mg:=mg) (base:=base) F_law_is_lean c_20 b_20;have c_15:=Cal.mk o_15 (mg_of X G x_law_is_lean) k_15;have o_13:=qdp (P:=l.prog) (w:=w) (mg:=mg) (base:=base) F_law_count n_sum;have c_13:=Cal.mk o_13 (mg_of X G x_law_count) k_13;have o_14:=qh7 (P:=l.prog) (w:=w) (mg:=mg) (base:=base) F_law_due c_11 b_11 c_15 b_15 c_13 b_13 n_tuple n_len;have c_14:=Cal.mk o_14 (mg_of X G x_law_due) k_14;have o_21:=qeq (P:=l.prog) (w:=w) (mg:=mg) (base:=base) F_law_same (mg_of X G x_law_same) k_21 b_21 n_isinstance n_tuple n_zip n_int n_bool n_len 16;have c_21:=Cal.mk o_21 (mg_of X G x_law_same) k_21;have o_12:=qet (P:=l.prog) (w:=w) (mg:=mg) (base:=base) F_law_cell n_len;have c_12:=Cal.mk o_12 (mg_of X G x_law_cell) k_12;have o_19:=qbe (P:=l.prog) (w:=w) (mg:=mg) (base:=base) F_law_number c_18 b_18 c_12 b_12 n_max n_len;have c_19:=Cal.mk o_19 (mg_of X G x_law_number) k_19;have o_17:=q7t (P:=l.prog) (w:=w) (mg:=mg) (base:=base) F_law_many_runs c_12 b_12 c_18 b_18 n_max n_min n_len;have c_17:=Cal.mk o_17 (mg_of X G x_law_many_runs) k_17;have o_2:=qew (P:=l.prog) (w:=w) (mg:=mg) (base:=base) F_at_least n_tuple;have c_2:=Cal.mk o_2 (mg_of X G x_at_least) k_2;have o_25:=qha (P:=l.prog) (w:=w) (mg:=mg) (base:=base) F_mark_of n_sum;have c_25:=Cal.mk o_25 (mg_of X G x_mark_of) k_25;have o_26:=qjs (P:=l.prog) (w:=w) (mg:=mg) (base:=base) F_marked c_25 b_25;have c_26:=Cal.mk o_26 (mg_of X G x_marked) k_26;have o_29:=q7w (P:=l.prog) (w:=w) (mg:=mg) (base:=base) F_one_ware_more n_range;have c_29:=Cal.mk o_29 (mg_of X G x_one_ware_more) k_29;have o_28:=q6x (P:=l.prog) (w:=w) (mg:=mg) (base:=base) F_one_ware_fewer n_range n_len;have c_28:=Cal.mk o_28 (mg_of X G x_one_ware_fewer) k_28;have o_4:=qmt (P:=l.prog) (w:=w) (mg:=mg) (base:=base) F_grown c_29 b_29 c_28 b_28 n_dict n_all;have c_4:=Cal.mk o_4 (mg_of X G x_grown) k_4;have o_3:=q94 (P:=l.prog) (w:=w) (mg:=mg) (base:=base) F_count_marked c_25 b_25 n_sum;have c_3:=Cal.mk o_3 (mg_of X G x_count_marked) k_3;have o_0:=q63 (P:=l.prog) (w:=w) (mg:=mg) (base:=base) F_Growing_counted c_26 b_26 c_4 b_4 c_3 b_3 c_2 b_2 n_tuple;have c_0:CalM l.prog w K mg base "Growing" "counted" C_Growing _ _ _ _ _ _:=⟨o_0,⟨x_Growing_counted,i_0,k_0⟩⟩
 have o_1:=q7z (P:=l.prog) (w:=w) (mg:=mg) (base:=base) F_Growing_often O_Growing c_2 b_2 c_0 b_0;have c_1:CalM l.prog w K mg base "Growing" "often" C_Growing _ _ _ _ _ _:=⟨o_1,⟨x_Growing_often,i_1,k_1⟩⟩
 have o_5:=qdu (P:=l.prog) (w:=w) (mg:=mg) (base:=base) F_is_number n_isinstance n_int n_bool;have c_5:=Cal.mk o_5 (mg_of X G x_is_number) k_5;have o_7:=qdx (P:=l.prog) (w:=w) (mg:=mg) (base:=base) F_is_within c_5 b_5;have c_7:=Cal.mk o_7 (mg_of X G x_is_within) k_7;have o_6:=qhf (P:=l.prog) (w:=w) (mg:=mg) (base:=base) F_is_tree c_7 b_7 n_all n_isinstance n_tuple n_len n_enumerate;have c_6:=Cal.mk o_6 (mg_of X G x_is_tree) k_6;have o_8:=qjv (P:=l.prog) (w:=w) (mg:=mg) (base:=base) F_joined n_tuple n_sorted n_set;have c_8:=Cal.mk o_8 (mg_of X G x_joined) k_8;have o_30:=q6z (P:=l.prog) (w:=w) (mg:=mg) (base:=base) F_standing_above n_tuple;have c_30:=Cal.mk o_30 (mg_of X G x_standing_above) k_30;have o_9:=qey (P:=l.prog) (w:=w) (mg:=mg) (base:=base) F_kinds_of c_8 b_8 c_30 b_30;have c_9:=Cal.mk o_9 (mg_of X G x_kinds_of) k_9;have o_24:=qjy (P:=l.prog) (w:=w) (mg:=mg) (base:=base) F_lifted c_6 b_6 c_8 b_8 c_9 b_9 n_tuple;have c_24:=Cal.mk o_24 (mg_of X G x_lifted) k_24;have o_23:=qpu (P:=l.prog) (w:=w) (mg:=mg) (base:=base) F_lean c_9 b_9 n_tuple;have c_23:=Cal.mk o_23 (mg_of X G x_lean) k_23;have o_27:=qa5 (P:=l.prog) (w:=w) (mg:=mg) (base:=base) F_often_kinds O_Growing m_Growing c_1 b_1 c_24 b_24 c_23 b_23 n_tuple;have c_27:=Cal.mk o_27 (mg_of X G x_often_kinds) k_27;have o_16:=qbh (P:=l.prog) (w:=w) (mg:=mg) (base:=base) F_law_lifted c_20 b_20 n_list;have c_16:=Cal.mk o_16 (mg_of X G x_law_lifted) k_16;exact qrp (qsm (P:=l.prog) (w:=w) (mg:=mg) (base:=base) F_law c_10 b_10 c_18 b_18 c_14 b_14 c_21 b_21 c_19 b_19 c_17 b_17 c_12 b_12 c_27 b_27 c_16 b_16 c_13 b_13 c_22 b_22 n_range n_max n_tuple n_min) hm
end My
namespace PySem.W.Fast
theorem tw1295161327152003329 : True := trivial
theorem tw4309735558624784835 : True := trivial
theorem tw6481053779785451838 : True := trivial
theorem tw3644894973731202468 : True := trivial
theorem tw7059310906584673591 : True := trivial
theorem tw1479534279332276086 : True := trivial
theorem tw1809173898360809556 : True := trivial
theorem tw7235950492135669035 : True := trivial
theorem tw5542144541248409124 : True := trivial
theorem tw814130118126463742 : True := trivial
theorem tw15037144437411560920 : True := trivial
theorem tw9292701300824941571 : True := trivial
theorem tw13116083142499604260 : True := trivial
theorem tw9355203379121037530 : True := trivial
theorem tw13331869150243182849 : True := trivial
theorem tw10993617332619326293 : True := trivial
theorem tw8803334696119724507 : True := trivial
theorem tw5564279795743021113 : True := trivial
theorem tw13495284677566690125 : True := trivial
end PySem.W.Fast
open PySem PySem.W PyProof.Rows
local macro_rules | `(tactic| walk_at "F")=> `(tactic| (letI:DL.Lam:=⟨[]⟩;exact DL.q9n (by k_is) (by k_is) (by k_is)))
set_option maxHeartbeats 0 in
theorem PySem.Challenge.cw_oftentogether_k53_whole_kinds_holds : PySem.Challenge.rw_oftentogether_k53_whole_kinds.Holds := by
 w_on;o_law;k_head;(case hw=>w_witness2)
 k_fill
 refine DL.qpa (l:=PySem.Challenge.rw_oftentogether_k53_whole_kinds) (k:=18) (x:="_law_script") rfl rfl ⟨rfl,by decide,by decide⟩ (fun w h Y=>by first|exact PySem.W.kIn_of Y|exact PySem.W.km_in_of Y) ?F
 case F=>
  intro w mg fa h KX G hmg;refine' My.all_mk KX G hmg My.qnd ?x_Growing ?mk_Growing ?in_Growing ?kp_Growing ?pg_Growing ?hd_Growing ?po_Growing ?sa_Growing ?cg_Growing ?cc_Growing ?cs_Growing ?ct_Growing ?cm_Growing ?ciint_Growing ?cibool_Growing ?cituple_Growing ?cilist_Growing ?cistr_Growing ?cidict_Growing ?x_law_above ?F_law_above ?x_law_mixed ?F_law_mixed ?x_law_set ?F_law_set ?x_law_all_sets ?l_11 ?q_11 ?k_11 ?o_11 ?p_11 ?hh_11 ?nl_11 ?r_11 ?x_law_over ?F_law_over ?x_law_is_lean ?F_law_is_lean ?x_law_count ?F_law_count ?x_law_due ?F_law_due ?x_law_same ?F_law_same ?x_law_cell ?F_law_cell ?x_law_number ?F_law_number ?x_law_many_runs ?F_law_many_runs ?x_at_least ?F_at_least ?x_mark_of ?F_mark_of ?x_marked ?F_marked ?x_one_ware_more ?F_one_ware_more ?x_one_ware_fewer ?F_one_ware_fewer ?x_grown ?F_grown ?x_count_marked ?F_count_marked ?x_Growing_counted ?i_0 ?l_0 ?q_0 ?k_0 ?x_Growing_often ?i_1 ?l_1 ?q_1 ?k_1 ?x_is_number ?F_is_number ?x_is_within ?F_is_within ?x_is_tree ?F_is_tree ?x_joined ?F_joined ?x_standing_above ?F_standing_above ?x_kinds_of ?F_kinds_of ?x_lifted ?F_lifted ?x_lean ?F_lean ?x_often_kinds ?F_often_kinds ?x_law_lifted ?F_law_lifted ?x_law ?F_law ?z_range ?z_tuple ?z_int ?z_sorted ?z_len ?z_sum ?z_isinstance ?z_zip ?z_bool ?z_max ?z_min ?z_dict ?z_all ?z_enumerate ?z_set ?z_list
  (case x_Growing=>k_is)
  (case mk_Growing=>k_is)
  (case in_Growing=>k_is)
  (case kp_Growing=>k_is)
  (case pg_Growing=>k_is)
  (case hd_Growing=>k_is)
  (case po_Growing=>k_is)
  (case sa_Growing=>k_is)
  (case cg_Growing=>k_is)
  (case cc_Growing=>k_is)
  (case cs_Growing=>k_is)
  (case ct_Growing=>k_is)
  (case cm_Growing=>k_is)
  (case ciint_Growing=>k_is)
  (case cibool_Growing=>k_is)
  (case cituple_Growing=>k_is)
  (case cilist_Growing=>k_is)
  (case cistr_Growing=>k_is)
  (case cidict_Growing=>k_is)
  (case x_law_above=>k_is)
  (case F_law_above=>walk_at "F")
  (case x_law_mixed=>k_is)
  (case F_law_mixed=>walk_at "F")
  (case x_law_set=>k_is)
  (case F_law_set=>walk_at "F")
  (case x_law_all_sets=>k_is)
  (case l_11=>k_is)
  (case q_11=>k_is)
  (case k_11=>k_is)
  (case o_11=>k_is)
  (case p_11=>first|rfl|decide +kernel)
  (case hh_11=>first|rfl|decide +kernel)
  (case nl_11=>first|kernel_rfl|rfl)
  (case r_11=>first|rfl|decide +kernel)
  (case x_law_over=>k_is)
  (case F_law_over=>walk_at "F")
  (case x_law_is_lean=>k_is)
  (case F_law_is_lean=>walk_at "F")
  (case x_law_count=>k_is)
  (case F_law_count=>walk_at "F")
  (case x_law_due=>k_is)
  (case F_law_due=>walk_at "F")
  (case x_law_same=>k_is)
  (case F_law_same=>walk_at "F")
  (case x_law_cell=>k_is)
  (case F_law_cell=>walk_at "F")
  (case x_law_number=>k_is)
  (case F_law_number=>walk_at "F")
  (case x_law_many_runs=>k_is)
  (case F_law_many_runs=>walk_at "F")
  (case x_at_least=>k_is)
  (case F_at_least=>walk_at "F")
  (case x_mark_of=>k_is)
  (case F_mark_of=>walk_at "F")
  (case x_marked=>k_is)
  (case F_marked=>walk_at "F")
  (case x_one_ware_more=>k_is)
  (case F_one_ware_more=>walk_at "F")
  (case x_one_ware_fewer=>k_is)
  (case F_one_ware_fewer=>walk_at "F")
  (case x_grown=>k_is)
  (case F_grown=>walk_at "F")
  (case x_count_marked=>k_is)
  (case F_count_marked=>walk_at "F")
  (case x_Growing_counted=>k_is)
  (case i_0=>k_is)
  (case l_0=>k_is)
  (case q_0=>k_is)
  (case k_0=>k_is)
  (case x_Growing_often=>k_is)
  (case i_1=>k_is)
  (case l_1=>k_is)
  (case q_1=>k_is)
  (case k_1=>k_is)
  (case x_is_number=>k_is)
  (case F_is_number=>walk_at "F")
  (case x_is_within=>k_is)
  (case F_is_within=>walk_at "F")
  (case x_is_tree=>k_is)
  (case F_is_tree=>walk_at "F")
  (case x_joined=>k_is)
  (case F_joined=>walk_at "F")
  (case x_standing_above=>k_is)
  (case F_standing_above=>walk_at "F")
  (case x_kinds_of=>k_is)
  (case F_kinds_of=>walk_at "F")
  (case x_lifted=>k_is)
  (case F_lifted=>walk_at "F")
  (case x_lean=>k_is)
  (case F_lean=>walk_at "F")
  (case x_often_kinds=>k_is)
  (case F_often_kinds=>walk_at "F")
  (case x_law_lifted=>k_is)
  (case F_law_lifted=>walk_at "F")
  (case x_law=>k_is)
  (case F_law=>walk_at "F")
  (case z_range=>k_is)
  (case z_tuple=>k_is)
  (case z_int=>k_is)
  (case z_sorted=>k_is)
  (case z_len=>k_is)
  (case z_sum=>k_is)
  (case z_isinstance=>k_is)
  (case z_zip=>k_is)
  (case z_bool=>k_is)
  (case z_max=>k_is)
  (case z_min=>k_is)
  (case z_dict=>k_is)
  (case z_all=>k_is)
  (case z_enumerate=>k_is)
  (case z_set=>k_is)
  (case z_list=>k_is)
