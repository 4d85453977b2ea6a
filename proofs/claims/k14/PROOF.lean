import PyProof.Rows.All
import Wide.All
import OpenK.AllK
import Wide.FinOn
import Lean
import PyProof.EqAt
import PyProof.EqKinds
import PyProof.TupleCall
import PyProof.NeKinds
import PyProof.Rows.SortRuns
import PyProof.Rows.SortShell
import KE.KSortTup
import KE.KLam
import KE.KNestM
import PyProof.AutoSeq1
import KE.KDictLaws
import PySem.SetOps
import PyProof.SetKind
import PyProof.DictKinds
import PyProof.DictStraight
import PyProof.FactsAll.set_1
import PyProof.FactsAll.set_2
import PyProof.FactsAll.set_0
import PyProof.FactsAll.set_3
import PyProof.Slots
import PyProof.Rows.SetFrom
import PyProof.TupleIter
import PyProof.Walks
import PyProof.CollectWalk
import KE.KDictList
import PyProof.IsiH_list
import PyProof.AttrMiss
import KE.KDictOf
import PyProof.DictRoadsH
import PySem.Challenge.RW_oftentogether_k14_by_branches
set_option maxRecDepth 100000
set_option maxHeartbeats 4000000
set_option Elab.async false
set_option linter.all false
abbrev g0:=@PySem.wpAny_bind
abbrev g6:=@Option.bind_eq_some_iff
abbrev g9:=@PySem.Heap.get?_push_of_some
abbrev gc:=@List.getElem?_set_ne
abbrev gd:=@List.map_cons
abbrev gf:=@List.size_toArray
abbrev gh:=@PySem.wpAny_pure
abbrev gj:=@PyProof.Rows.wpS_bind
abbrev gm:=@Option.bind_some
abbrev gq:=@List.mem_cons_of_mem
abbrev gr:=@List.length_map
abbrev gu:=@Nat.le_refl
abbrev gv:=@Bool.and_eq_true
abbrev gw:=@List.mem_cons_self
abbrev gz:=@Bool.false_ne_true
abbrev m4:=@if_pos
abbrev m5:=@PyProof.Rows.wpS_pure
abbrev m6:=@Option.some.inj
abbrev m7:=@Bool.false_eq_true
abbrev m8:=@PySem.Heap.lt_size
abbrev m9:=@if_neg
abbrev ma:=@PySem.Heap.get?_push_size
abbrev md:=@Option.map_eq_some_iff
abbrev mf:=@Nat.lt_of_lt_of_le
abbrev mh:=@List.getElem?_map
abbrev mi:=@Ne.symm
abbrev mj:=@List.append_assoc
abbrev ml:=@Nat.le_trans
abbrev mn:=@Nat.ne_of_lt
abbrev mq:=@List.getElem?_eq_some_iff
abbrev mv:=@List.all_eq_true
abbrev mw:=@List.mem_cons
abbrev mx:=@List.mem_filter
abbrev my:=@List.mem_singleton
abbrev n8:=@decide_eq_true
abbrev n9:=@List.length_append
abbrev ng:=@Array.length_toList
abbrev nh:=@List.getElem?_append_left
abbrev ni:=@Nat.not_lt_zero
abbrev nj:=@List.mem_append_right
abbrev nq:=@List.getElem?_append_right
abbrev nt:=@if_false
abbrev nu:=@List.mem_map
abbrev nv:=@List.map_map
abbrev ny:=@if_true
abbrev p5:=@Array.toList_append
abbrev p6:=@List.mem_of_getElem?
abbrev p7:=@List.take_succ_eq_append_getElem
abbrev p8:=@PySem.Heap.size_update
abbrev p9:=@decide_eq_false
abbrev pb:=@List.mem_append
abbrev pd:=@List.drop_eq_getElem_cons
abbrev pf:=@Option.map_some
abbrev ph:=@List.length_cons
abbrev pj:=@List.map_append
abbrev pk:=@PySem.Heap.get?_push_ne
abbrev pq:=@List.perm_append_comm
abbrev pz:=@List.take_append_drop
abbrev t5:=@List.length_set
abbrev t6:=@List.lookup_cons
abbrev t7:=@PySem.wpAny_mono
abbrev t8:=@List.pairwise_append
abbrev t9:=@List.mem_iff_getElem
abbrev td:=@PyProof.Rows.wpS_mono
abbrev tf:=@List.length_take
abbrev tj:=@List.getElem?_eq_getElem
abbrev tm:=@PyProof.Rows.wpS_forRange
abbrev tq:=@List.filter_cons
abbrev tu:=@PySem.Heap.get?_update_ne
abbrev tw:=@ite_congr
abbrev tx:=@List.length_filter_le
abbrev u0:=@PyProof.Rows.slot_tuple_getitem
abbrev u6:=@decide_eq_false_iff_not
abbrev u9:=@PyProof.Rows.size_push'
abbrev uc:=@Nat.lt_succ_self
abbrev ud:=@Int.toNat_natCast
abbrev ue:=@of_decide_eq_true
abbrev uf:=@List.pairwise_map
abbrev ug:=@PySem.AutoSeq1.wpAny_loadPart'
abbrev uh:=@List.Perm.append_left
abbrev ui:=@PySem.wpAny_field
abbrev uj:=@List.getElem?_replicate
abbrev uk:=@List.getElem?_cons_succ
abbrev um:=@List.filter_cons_of_neg
abbrev uo:=@List.length_drop
abbrev uq:=@List.all_map
abbrev ur:=@List.mem_range
abbrev uv:=@Array.toList_extract
abbrev uw:=@Nat.pow_le_pow_right
abbrev ux:=@PySem.wpAny_callSpecial?_slot
abbrev uy:=@congrArg
abbrev uz:=@PySem.wpAny_newObj_type
abbrev g00:=@List.getElem?_set
abbrev g01:=@PySem.PassesOwn.never
abbrev g02:=@List.filter_eq_self
abbrev g03:=@Nat.ne_of_gt
abbrev g04:=@List.map_nil
abbrev g05:=@PySem.wpAny_holding
abbrev g06:=@PySem.wpAny_rule
abbrev g07:=@Array.perm_iff_toList_perm
abbrev g08:=@List.sum_cons
abbrev g09:=@PySem.wpAny_call_entry
abbrev g0a:=@List.not_mem_nil
abbrev g0b:=@Nat.zero_le
abbrev g0c:=@List.length_zip
abbrev g0d:=@Nat.lt_irrefl
abbrev g0e:=@List.replicate_succ
abbrev g0f:=@List.map_congr_left
abbrev g0g:=@PySem.Heap.size_push
abbrev g0h:=@PySem.wpAny_seqItems
abbrev g0i:=@PyProof.Rows.callWith_type1
abbrev g0j:=@PySem.wpAny_setField_rec
abbrev g0k:=@Bool.eq_iff_iff
abbrev g0l:=@List.length_singleton
abbrev g0m:=@Bool.or_eq_true
abbrev g0n:=@Array.getElem?_toList
abbrev g0o:=@PyProof.Rows.get?_update_seq
abbrev g0p:=@List.nil_append
abbrev g0q:=@PySem.F.slot_tuple_iterator_next
abbrev g0r:=@Bool.and_true
abbrev g0s:=@List.flatMap_cons
abbrev g0t:=@List.Pairwise.filter
abbrev g0u:=@Option.isSome_iff_exists
abbrev g0v:=@PySem.AutoSeq1.sub_tuple_tuple
abbrev g0w:=@List.cons_append
abbrev g0x:=@PySem.mem_of_lookup
abbrev g0y:=@List.pairwise_singleton
abbrev g0z:=@List.filter_cons_of_pos
abbrev g10:=@Bool.not_true
abbrev g11:=@PyProof.Rows.listUpdate_at
abbrev g12:=@List.append_nil
abbrev g13:=@PySem.wpAny_Call_Name_kw
abbrev g14:=@List.nodup_cons
abbrev g15:=@List.of_mem_zip
abbrev g16:=@List.pairwise_cons
abbrev g17:=@decide_eq_true_iff
abbrev g18:=@Int.emod_nonneg
abbrev g19:=@List.flatten_cons
abbrev g1a:=@List.cons.sizeOf_spec
abbrev g1b:=@PySem.F.slot_tuple_mul
abbrev g1c:=@List.mem_of_mem_take
abbrev g1d:=@PySem.wpAny_attempt
abbrev g1e:=@Nat.le_succ
abbrev g1f:=@Int.toNat_of_nonneg
abbrev g1g:=@PySem.wpAny_passesOwn
abbrev g1h:=@PySem.wpAny_loadPart'
abbrev g1i:=@List.forIn_cons
abbrev g1j:=@List.length_nil
abbrev g1k:=@List.mem_filterMap
abbrev g1l:=@PySem.F.args_tuple_add_2
abbrev g1m:=@Bool.not_eq_false'
abbrev g1n:=@getElem?_pos
abbrev g1o:=@List.Pairwise.drop
abbrev g1p:=@List.Pairwise.take
abbrev g1q:=@Int.emod_lt_of_pos
abbrev g1r:=@PyProof.Rows.wpS_get
abbrev g1s:=@PySem.F.entry_tuple_add
abbrev g1t:=@PySem.F.plainAttrs_list
abbrev g1u:=@PySem.wpAny_truthy_bool
abbrev g1v:=@decide_eq_true_eq
abbrev g1w:=@Bool.not_eq_true'
abbrev g1x:=@List.length_range
abbrev g1y:=@PySem.W.cellsFrom_some
abbrev g1z:=@PySem.F.slot_tuple_add
abbrev g20:=@PySem.Heap.get?_update_other
abbrev g21:=@List.take_of_length_le
abbrev g22:=@List.range_succ_eq_map
abbrev g23:=@List.getElem_cons_succ
abbrev g24:=@List.filter_eq_nil_iff
abbrev g25:=@PySem.wpAny_newList
abbrev g26:=@Option.join_some
abbrev g27:=@or_false
abbrev g28:=@Nat.le_add_right
abbrev g29:=@List.any_eq_true
abbrev g2a:=@List.nodup_range
abbrev g2b:=@Nat.le_of_lt
abbrev g2c:=@List.mem_append_left
abbrev g2d:=@beq_iff_eq
abbrev g2e:=@PySem.codeAny_mono
abbrev g2f:=@PySem.call_meets
abbrev g2g:=@PySem.codeAny_call_builtin
abbrev g2h:=@Nat.min_self
abbrev g2i:=@PySem.wpAny_updateSeq_pair
abbrev g2j:=@PySem.F.slot_zip_next
abbrev g2k:=@PySem.wpAny_ite_false
abbrev g2l:=@PyProof.Rows.wpS_modify
abbrev g2m:=@List.mem_of_mem_drop
abbrev g2n:=@Array.getElem_toList
abbrev g2o:=@Array.toList_reverse
abbrev g2p:=@Nat.pow_succ
abbrev g2q:=@List.getLast?_append
abbrev g2r:=@List.eq_nil_of_length_eq_zero
abbrev g2s:=@beq_eq_false_iff_ne
abbrev g2t:=@List.filterMap_cons
abbrev g2u:=@List.mem_map_of_mem
abbrev g2v:=@List.drop_zero
abbrev g2w:=@PySem.F.args_tuple_iterator_next_1
abbrev g2x:=@Bool.not_false
abbrev g2y:=@List.drop_drop
abbrev g2z:=@PySem.F.slot_dict_setdefault
abbrev g30:=@PyProof.Rows.seqEpoch_at
abbrev g31:=@Int.natCast_nonneg
abbrev g32:=@PySem.F.attrBase_ValueError
abbrev g33:=@PySem.F.entry_tuple_iterator_next
abbrev g34:=@PySem.F.args_tuple_mul_2
abbrev g35:=@List.zip_cons_cons
abbrev g36:=@List.idxOf_lt_length_of_mem
abbrev g37:=@List.filter_append
abbrev g38:=@PySem.Paired.length
abbrev g39:=@Int.fdiv_eq_ediv_of_nonneg
abbrev g3a:=@PySem.wpAny_onRaise
abbrev g3b:=@Array.toList_setIfInBounds
abbrev g3c:=@List.perm_ext_iff_of_nodup
abbrev g3d:=@Option.some.injEq
abbrev g3e:=@PySem.F.entry_tuple_mul
abbrev g3f:=@Nat.lt_succ_of_lt
abbrev g3g:=@bne_self_eq_false
abbrev g3h:=@PySem.wpAny_call
abbrev g3i:=@List.pairwise_iff_getElem
abbrev g3j:=@List.getElem?_zip_eq_some
abbrev g3k:=@PySem.concat_meets
abbrev g3l:=@PySem.noFill_tuple_add
abbrev g3m:=@PySem.F.slot_list_append
abbrev g3n:=@PySem.F.type_list_append
abbrev g3o:=@List.zipIdx_cons
abbrev g3p:=@PySem.AutoSeq1.idx_int
abbrev g3q:=@List.map_snd_zip
abbrev g3r:=@List.Pairwise.imp_of_mem
abbrev g3s:=@Int.le_trans
abbrev g3t:=@List.mem_flatMap
abbrev g3u:=@List.length_eq_zero_iff
abbrev g3v:=@List.eraseIdx_cons_succ
abbrev g3w:=@PySem.F.plainAttrs_dict
abbrev g3x:=@PySem.wpAny_execs_nil
abbrev g3y:=@PySem.SeqAt.EqAt.same
abbrev g3z:=@PySem.codeAny_builtin
abbrev g40:=@PySem.W.kia_one
abbrev g41:=@List.getElem?_set_self
abbrev g42:=@PySem.sizeLine_eq
abbrev g43:=@PySem.wpAny_letGo
abbrev g44:=@List.sum_replicate_nat
abbrev g45:=@List.drop_of_length_le
abbrev g46:=@List.getElem_cons_zero
abbrev g47:=@List.pairwise_lt_range
abbrev g48:=@List.drop_eq_nil_of_le
abbrev g49:=@List.length_replicate
abbrev g4a:=@List.mem_iff_getElem?
abbrev g4b:=@List.forIn_nil
abbrev g4c:=@Bool.and_eq_false_iff
abbrev g4d:=@PySem.F.slot_dict_get
abbrev g4e:=@Option.some_or
abbrev g4f:=@List.getElem?_eq_none
abbrev g4g:=@Bool.false_or
abbrev g4h:=@List.zip_map'
abbrev g4i:=@Nat.le_of_eq
abbrev g4j:=@Nat.lt_or_ge
abbrev g4k:=@decide_false
abbrev g4l:=@Int.zero_add
namespace L2
open PySem PySem.Spec PyProof.Rows
abbrev Key:=Sum Int Str
def q5u:Key->Value->Bool
 | .inl k,v=>Value.isInt k v
 | .inr x,v=>Value.isStrOf x v
def qor(w:World): Key->Int
 | .inl k=>hashInt k
 | .inr x=>hashStr w x
theorem jh:∀ {k:Key} {v:Value},q5u k v=true->(∃i t,k=Sum.inl i/\v=Value.int i t)\/(∃x t,k=Sum.inr x/\v=Value.str x t)
 | .inl i,v,h=>by
  obtain⟨t,e⟩:=Value.isInt_shape (k:=i) (v:=v) h;exact .inl ⟨i,t,rfl,e⟩
 | .inr x,v,h=>by
  obtain⟨t,e⟩:=Value.isStrOf_shape (x:=x) (v:=v) h;exact .inr ⟨x,t,rfl,e⟩
theorem qei(i:Int)(t:Tok): q5u (.inl i) (.int i t)=true:=by simp [q5u,Value.isInt]
theorem qlb(a b:Int): decide ((Sum.inl a:Key)=Sum.inl b)=(a==b):=by
 by_cases e:a=b
 ·subst e;simp
 ·have h:¬(Sum.inl a:Key)=Sum.inl b:=fun q=>e (Sum.inl.inj q)
  rw [p9 h];exact(g2s.mpr e).symm
theorem qlc(a b:Str): decide ((Sum.inr a:Key)=Sum.inr b)=decide (a=b):=by
 by_cases e:a=b
 ·subst e;simp
 ·have h:¬(Sum.inr a:Key)=Sum.inr b:=fun q=>e (Sum.inr.inj q)
  rw [p9 h,p9 e]
theorem qld(a:Int)(b:Str): decide ((Sum.inl a:Key)=Sum.inr b)=false:=p9 (fun q=>nomatch q)
theorem qle(a:Str)(b:Int): decide ((Sum.inr a:Key)=Sum.inl b)=false:=p9 (fun q=>nomatch q)
def mixKind(prog:Program)(w:World): PySem.KeyKind prog w Key where
 is:=q5u
 hash:=qor w
 inj:=fun v a b ha hb=>by
  rcases jh ha with⟨i,t,rfl,rfl⟩|⟨x,t,rfl,rfl⟩
  ·rcases jh hb with⟨j,u,rfl,e⟩|⟨y,u,rfl,e⟩
   ·injection e with e1 _;rw [e1]
   ·exact nomatch e
  ·rcases jh hb with⟨j,u,rfl,e⟩|⟨y,u,rfl,e⟩
   ·exact nomatch e
   ·injection e with e1 _;rw [e1]
 byValue:=fun k v h=>by
  rcases jh h with⟨i,t,rfl,rfl⟩|⟨x,t,rfl,rfl⟩ <;> rfl
 pyHash:=fun hv h=>by
  rcases jh hv with⟨i,t,rfl,rfl⟩|⟨x,t,rfl,rfl⟩
  ·exact wpAny_pyHash_int h
  ·exact wpAny_pyHash_str h
 eqBool:=fun hu hv h=>by
  rcases jh hu with⟨i,t,rfl,rfl⟩|⟨x,t,rfl,rfl⟩
  ·rcases jh hv with⟨j,u,rfl,rfl⟩|⟨y,u,rfl,rfl⟩
   ·rw [qlb] at h;exact wpAny_eqBool_int h
   ·rw [qld] at h;exact SeqAt.EqAt.int_str i t y u _ _ _ _ h
  ·rcases jh hv with⟨j,u,rfl,rfl⟩|⟨y,u,rfl,rfl⟩
   ·rw [qle] at h;exact SeqAt.EqAt.str_int x t j u _ _ _ _ h
   ·rw [qlc] at h;exact wpAny_eqBool_str h
 «strs» :=fun k x t v h=>by
  rcases jh h with⟨i,u,rfl,e⟩|⟨y,u,rfl,e⟩
  ·exact nomatch e
  ·injection e with e1 _
   subst e1;cases v <;> rfl
theorem qd2(prog:Program)(w:World)(k:Key)(v:Value): (mixKind prog w).is k v=q5u k v:=rfl
theorem q1u(prog:Program)(w:World)(i:Int)(t:Tok): (mixKind prog w).is (.inl i) (.int i t)=true:=qei i t
inductive V where
 | non|bl (b:Bool)|int (i:Int)|str (x:Str)|byt (b:Array UInt8)|flt (b:UInt64)|ref (a:Addr)|ty (n:String)
 deriving DecidableEq
def RelV:V->Value->Prop
 | .non,u=>u=Value.none
 | .bl b,u=>u=Value.bool b
 | .int i,u=>∃t,u=Value.int i t
 | .str x,u=>∃t,u=Value.str x t
 | .byt b,u=>∃t,u=Value.bytes b t
 | .flt b,u=>∃t,u=Value.float b t
 | .ref a,u=>u=Value.ref a
 | .ty n,u=>u=Value.type n
abbrev Vals:List V->List Value->Prop:=Paired RelV
theorem Vals.length{xs:List V}{us:List Value}(r:Vals xs us): xs.length=us.length:=g38 r
theorem Vals.get:∀ {xs:List V} {us:List Value} {i:Nat} {x:V},Vals xs us->xs[i]? = some x->∃u,us[i]? = some u/\RelV x u
 | _,_,_,_,.nil,e=>by simp at e
 | _,_,0,_,.cons r _,e=>by simp at e;subst e;exact⟨_,rfl,r⟩
 | _,_,i+1,x,.cons _ t,e=>by
  obtain⟨u,h1,h2⟩:=Vals.get (i:=i) (x:=x) t (by simpa using e);exact⟨u,by simpa using h1,h2⟩
theorem Vals.append:∀ {xs ys:List V} {us ws:List Value},Vals xs us->Vals ys ws->Vals (xs++ys) (us++ws)
 | _,_,_,_,.nil,s=>s
 | _,_,_,_,.cons r t,s=>.cons r (Vals.append t s)
theorem Vals.take:∀ {xs:List V} {us:List Value} (n:Nat),Vals xs us->Vals (xs.take n) (us.take n)
 | _,_,0,_=>.nil
 | _,_,_+1,.nil=>.nil
 | _,_,n+1,.cons r t=>.cons r (Vals.take n t)
theorem Vals.drop:∀ {xs:List V} {us:List Value} (n:Nat),Vals xs us->Vals (xs.drop n) (us.drop n)
 | _,_,0,r=>r
 | _,_,_+1,.nil=>.nil
 | _,_,n+1,.cons _ t=>Vals.drop n t
def RelO:Option V->Option Value->Prop
 | some v,some u=>RelV v u
 | none,none=>True
 | _,_=>False
def KV{κ : Type}: List (κ × V)->List (κ × Value)->Prop:=Paired fun(p : κ × V) (q : κ × Value)=>p.1=q.1/\RelV p.2 q.2
def kV:Key->V
 | .inl i=>.int i
 | .inr x=>.str x
inductive HO where
 /-- a list -/
 | lst (xs:List V)
 /-- a tuple (never changes) -/
 | tup (xs:List V)
 /-- a dict whose keys are ints and texts; one whose keys are tuples of ints and texts (the empty one is both) -/
 | dK (kvs:List (Key×V))|dT (kvs:List (List Key×V))
 /-- a set of ints: its members, its size -/
 | set (S:Int->Bool) (n:Nat)
 /-- an instance of the class at C, its dict at dx, its attributes -/
 | ins (C dx:Addr) (fs:List (Str×V))
 /-- the dict of the instance at x -/
 | own (x:Addr)
 /-- the dict of an exception -/
 | xd (fs:List (Str×V))
 /-- a bound method, f of x -/
 | met (f x:Addr)
 /-- a range object lo, lo + 1, .. below hi -/
 | rng (lo hi:Int)
 /-- a thing that is known to the object (the script; a dict while a loop walks it): read, never written while it is so -/
 | frz (o:Obj) (u:HO)
 /-- a code object's table -/
 | tbl (ps:Array Value)
 /-- any other thing, by what is true of its one object (a def of one's own: SetO a S n := HO.ext fun h => ..) -/
 | ext (φ : Heap->Prop)
abbrev Hp:=Addr->Option HO
def upd(H:Hp)(a:Addr)(o:HO): Hp:=fun b=>if b=a then some o else H b
theorem qq{H:Hp}{a:Addr}{o:HO}: upd H a o a=some o:=by unfold upd;rw [m4 rfl]
theorem qh{H:Hp}{a b:Addr}{o:HO}(h:b≠a): upd H a o b=H b:=by unfold upd;rw [m9 h]
theorem ji{H:Hp}{a b:Addr}{o:HO}(h:H a=some o)(h':H b=none): a≠b:=by
 intro e;subst e;rw [h] at h';cases h'
def TupX(h:Heap)(a:Addr)(items:Array Value): Prop:=∃o,h.get? a=some o/\o.cls=.type "tuple" /\ o.dict=none/\∃n,o.data=.seq items n
theorem TupX.up{h:Heap}{a:Addr}{items:Array Value}(p:TupX h a items): IsTup h a items:=let⟨o,x,y,_,z⟩:=p; ⟨o,x,y,z⟩
theorem TupX.new(h:Heap)(items:Array Value): TupX (h.push {cls:=.type "tuple",data:=.seq items}) h.objs.size items:=⟨_,ma _ rfl,rfl,rfl,_,rfl⟩
section
variable(P:Program)(w:World)
def ObjOk(H:Hp)(h:Heap)(a:Addr): HO->Prop
 | .lst xs=>xs.length<=sizeLine/\∃(its:List Value) (n:Nat),Vals xs its/\h.get? a=some {cls:=.type "list",data:=.seq its.toArray n}
 | .tup xs=>xs.length<=sizeLine/\∃its:List Value,Vals xs its/\TupX h a its.toArray
 | .dK kvs=>kvs.length<=sizeLine/\(a==sysModules)=false/\∃vs,KV kvs vs/\h.DictOf (mixKind P w) a vs
 | .dT kvs=>kvs.length<=sizeLine/\(a==sysModules)=false/\∃xs:List (List Key×Addr×Value),
   Paired (fun(p:List Key×V) (q:List Key×Addr×Value)=>p.1=q.1/\H q.2.1=some (.tup (p.1.map kV))/\RelV p.2 q.2.2) kvs xs /\
   ∃o es ep,h.get? a=some o/\o.ExactDict/\o.data=.dict es ep/\es.toList=xs.map (entryOfKey (tupleKind (mixKind P w)))/\(xs.map (·.1)).Nodup
 | .set S n=>h.SetOf (intKind P w) a S n
 | .ins C dx fs=>H dx=some (.own a)/\fs.length<=1000/\dx≠a/\h.get? a=some (PySem.W.instObj C dx) /\
   ∃mA,h.Ns1 dx mA/\(∀f,RelO (fs.lookup f) (mA f))/\PySem.Within mA (fs.map (·.1))
 | .own _=>∃o,h.get? a=some o
 | .xd fs=>∃mA,h.Ns1 a mA/\∀f,RelO (fs.lookup f) (mA f)
 | .rng lo hi=>∃t u v,h.get? a=some {cls:=.type "range",data:=.fields #[.int lo t,.int hi u,.int 1 v]}
 | .frz o u=>h.get? a=some o/\ObjOk H h a u
 | .tbl ps=>h.get? a=some {cls:=.none,data:=.fields ps}
 | .met f x=>h.get? a=some (PySem.W.methodObj (.ref f) (.ref x))
 | .ext φ => φ h/\(∃o,h.get? a=some o)/\∀h1 h2:Heap, φ h1->(∀o,h1.get? a=some o->h2.get? a=some o) -> φ h2
def HOk(H:Hp)(h:Heap): Prop:=∀a o,H a=some o->ObjOk P w H h a o
end
section
variable{P:Program}{w:World}{H H':Hp}{h h':Heap}{a:Addr}{o:HO}
theorem ObjOk.lt(x:ObjOk P w H h a o): a<h.objs.size:=by
 cases o with
 | lst xs=>obtain⟨_,_,_,_,e⟩:=x;exact m8 e
 | tup xs=>obtain⟨_,_,_,p⟩:=x;exact p.up.lt
 | dK kvs=>obtain⟨_,_,_,_,o,_,_,e,_⟩:=x;exact m8 e
 | dT kvs=>obtain⟨_,_,_,_,o,_,_,e,_⟩:=x;exact m8 e
 | set S n=>obtain⟨o,_,_,_,e,_⟩:=x;exact m8 e
 | ins C dx fs=>obtain⟨_,_,_,e,_⟩:=x;exact m8 e
 | own y=>obtain⟨_,e⟩:=x;exact m8 e
 | xd fs=>obtain⟨_,⟨_,_,_,e,_⟩,_⟩:=x;exact m8 e
 | rng lo hi=>obtain⟨_,_,_,e⟩:=x;exact m8 e
 | frz ob u=>obtain⟨e,_⟩:=x;exact m8 e
 | tbl ps=>exact m8 (show h.get? a=some _ from x)
 | met f y=>exact m8 (show h.get? a=some _ from x)
 | ext φ =>obtain⟨_,⟨_,e⟩,_⟩:=x;exact m8 e
theorem Paired.mapP{α β : Type}{F G : α -> β -> Prop}: ∀ {l₁:List α} {l₂:List β},Paired F l₁ l₂->(∀a b,F a b->G a b)->Paired G l₁ l₂
 | _,_,.nil,_=>.nil
 | _,_,.cons r t,f=>.cons (f _ _ r) (Paired.mapP t f)
theorem ObjOk.stay(x:ObjOk P w H h a o)(k:∀b u,(b=a\/H b=some (.own a))->h.get? b=some u->h'.get? b=some u)
  (ho:∀b,H b=some (.own a)->H' b=some (.own a)) (ht:∀b xs,H b=some (.tup xs)->H' b=some (.tup xs)):ObjOk P w H' h' a o:=by
 induction o with
 | lst xs=>obtain⟨z,its,n,r,e⟩:=x;exact⟨z,its,n,r,k _ _ (.inl rfl) e⟩
 | tup xs=>obtain⟨z,its,r,ob,e,c⟩:=x;exact⟨z,its,r,ob,k _ _ (.inl rfl) e,c⟩
 | dK kvs=>obtain⟨z,y,vs,r,ob,es,ep,e,c⟩:=x;exact⟨z,y,vs,r,ob,es,ep,k _ _ (.inl rfl) e,c⟩
 | dT kvs=>
  obtain⟨z,y,xs,r,ob,es,ep,e,c⟩:=x;exact⟨z,y,xs,Paired.mapP r fun p q z=>⟨z.1,ht _ _ z.2.1,z.2.2⟩,ob,es,ep,k _ _ (.inl rfl) e,c⟩
 | set S n=>obtain⟨ob,es,ep,t,e,c⟩:=x;exact⟨ob,es,ep,t,k _ _ (.inl rfl) e,c⟩
 | ins C dx fs=>
  obtain⟨d,z,ne,e,mA,⟨od,es,ep,e2,c⟩,r⟩:=x;exact⟨ho _ d,z,ne,k _ _ (.inl rfl) e,mA,⟨od,es,ep,k _ _ (.inr d) e2,c⟩,r⟩
 | own y=>obtain⟨ob,e⟩:=x;exact⟨ob,k _ _ (.inl rfl) e⟩
 | xd fs=>obtain⟨mA,⟨od,es,ep,e,c⟩,r⟩:=x;exact⟨mA,⟨od,es,ep,k _ _ (.inl rfl) e,c⟩,r⟩
 | rng lo hi=>obtain⟨t,u,v,e⟩:=x;exact⟨t,u,v,k _ _ (.inl rfl) e⟩
 | frz ob u ih=>obtain⟨e,q⟩:=x;exact⟨k _ _ (.inl rfl) e,ih q⟩
 | tbl ps=>
  have e:h.get? a=some {cls:=.none,data:=.fields ps}:=x;show h'.get? a=some {cls:=.none,data:=.fields ps};exact k a _ (.inl rfl) e
 | met f y=>
  have e:h.get? a=some (PySem.W.methodObj (.ref f) (.ref y)):=x;show h'.get? a=some (PySem.W.methodObj (.ref f) (.ref y));exact k a _ (.inl rfl) e
 | ext φ =>obtain⟨p,⟨o,e⟩,st⟩:=x;exact⟨st _ _ p fun o q=>k _ _ (.inl rfl) q,⟨o,k _ _ (.inl rfl) e⟩,st⟩
theorem HOk.lt(x:HOk P w H h)(e:H a=some o): a<h.objs.size:=(x a o e).lt
theorem HOk.fresh(x:HOk P w H h)(e:h.objs.size<=a): H a=none:=by
 cases q:H a with
 | none=>rfl
 | some u=>exact absurd (mf (x.lt q) e) (g0d _)
theorem HOk.kept(x:HOk P w H h)(k:∀b u,h.get? b=some u->h'.get? b=some u): HOk P w H h':=fun a o e=>
 (x a o e).stay (fun b u _ q=>k b u q) (fun _ q=>q) fun _ _ q=>q
theorem HOk.laid(x:HOk P w H h)(k:∀b u,h.get? b=some u->h'.get? b=some u)(hp:h.objs.size<=a)(new:ObjOk P w (upd H a o) h' a o): HOk P w (upd H a o) h':=fun b u e=>by
 have hn:=x.fresh hp
 by_cases hb:b=a
 ·subst hb;rw [qq] at e;cases e;exact new
 ·rw [qh hb] at e
  exact(x b u e).stay (fun c v _ q=>k c v q) (fun c q=>by rw [qh (ji q hn)];exact q) fun c xs q=>by rw [qh (ji q hn)];exact q
end
def Rd(H:Hp)(a:Addr)(u:HO): Prop:=H a=some u\/∃o,H a=some (.frz o u)
theorem Rd.ok{P:Program}{w:World}{H:Hp}{h:Heap}{a:Addr}{u:HO}(r:Rd H a u)(x:HOk P w H h): ObjOk P w H h a u:=by
 rcases r with r|⟨o,r⟩
 ·exact x a u r
 ·obtain⟨_,q⟩:=x a _ r
  exact q
def Mut:Option HO->Prop
 | some (.lst _)=>True
 | some (.dK _)=>True
 | some (.dT _)=>True
 | some (.set _ _)=>True
 | some (.ins _ _ _)=>True
 | some (.ext _)=>True
 | _=>False
section
variable{P:Program}{w:World}{H:Hp}{h h':Heap}{x e:Addr}{o':HO}
theorem HOk.write(ok:HOk P w H h)(mu:Mut (H x))(he:e=x\/H e=some (.own x))(k:∀b u,b≠e->h.get? b=some u->h'.get? b=some u)(heo:∃u,h'.get? e=some u)
  (new:ObjOk P w (upd H x o') h' x o'):HOk P w (upd H x o') h':=fun b u q=>by
 have nown:∀c y,H c=some (.own y)->c≠x:=fun c y r z=>by subst z;rw [r] at mu;exact mu
 have ntup:∀c xs,H c=some (.tup xs)->c≠x:=fun c xs r z=>by subst z;rw [r] at mu;exact mu
 by_cases hb:b=x
 ·subst hb;rw [qq] at q;cases q;exact new
 ·rw [qh hb] at q
  by_cases hbe:b=e
  ·have q':H b=some (.own x):=by
    rcases he with z|z
    ·exact absurd (hbe.trans z) hb
    ·rw [hbe];exact z
   rw [q] at q';cases q';obtain⟨v,hv⟩:=heo;exact⟨v,by rw [hbe];exact hv⟩
  ·refine(ok b u q).stay (fun c v hc r=>k c v ?_ r) (fun c r=>by rw [qh (nown c b r)];exact r) fun c xs r=>by rw [qh (ntup c xs r)];exact r
   rcases hc with rfl|hc
   ·exact hbe
   ·rintro rfl
    rcases he with z|z
    ·exact nown c b hc z
    ·rw [hc] at z;cases z;exact hb rfl
end
structure Un(fs ex:List Addr)(H H':Hp)(h h':Heap): Prop where
 keep:∀b o,h.get? b=some o->H b=none->b∉fs->b∉ex->h'.get? b=some o
 slot:∀b o,h.get? b=some o->H b=none->b∈fs->b∉ex->∃sl,h'.get? b=some {o with slots:=sl}
 free:∀b o,h.get? b=some o->H b=none->b∉ex->H' b=none
 there:∀b o,h.get? b=some o->b∉ex->∃o',h'.get? b=some o'
 tups:∀b xs,H b=some (.tup xs)->H' b=some (.tup xs)
 frzs:∀b o u,H b=some (.frz o u)->H' b=some (.frz o u)
 tbls:∀b ps,H b=some (.tbl ps)->∃more,H' b=some (.tbl (ps++more))
section
variable{fs fs' ex ex':List Addr}{H H1 H2:Hp}{h h1 h2 h':Heap}{a x e:Addr}{o:HO}
theorem Un.any(u:Un fs ex H H1 h h1){b:Addr}{ob:Obj}(q:h.get? b=some ob)(n:H b=none)(hx:b∉ex): ∃sl,h1.get? b=some {ob with slots:=sl}:=by
 by_cases hb:b∈fs
 ·exact u.slot b ob q n hb hx
 ·exact⟨ob.slots,u.keep b ob q n hb hx⟩
theorem Un.trans(a:Un fs ex H H1 h h1)(b:Un fs ex H1 H2 h1 h2): Un fs ex H H2 h h2 where
 keep:=fun c ob q n hc hx=>b.keep c ob (a.keep c ob q n hc hx) (a.free c ob q n hx) hc hx
 slot:=fun c ob q n hc hx=>by
  obtain⟨sl,e1⟩:=a.slot c ob q n hc hx;obtain⟨sl',e2⟩:=b.slot c _ e1 (a.free c ob q n hx) hc hx;exact⟨sl',e2⟩
 free:=fun c ob q n hx=>by
  obtain⟨o',e1⟩:=a.there c ob q hx;exact b.free c o' e1 (a.free c ob q n hx) hx
 there:=fun c ob q hx=>by
  obtain⟨o',e1⟩:=a.there c ob q hx;exact b.there c o' e1 hx
 tups:=fun c xs q=>b.tups c xs (a.tups c xs q)
 frzs:=fun c ob xs q=>b.frzs c ob xs (a.frzs c ob xs q)
 tbls:=fun c ps q=>by
  obtain⟨m1,e1⟩:=a.tbls c ps q;obtain⟨m2,e2⟩:=b.tbls c _ e1;exact⟨m1++m2,by rw [e2,Array.append_assoc]⟩
theorem Un.kept(k:∀b u,h.get? b=some u->h'.get? b=some u): Un fs ex H H h h':=
 ⟨fun b ob q _ _ _=>k b ob q,fun b ob q _ _ _=>⟨ob.slots,k b ob q⟩,fun _ _ _ n _=>n,fun b ob q _=>⟨ob,k b ob q⟩,fun _ _ q=>q,fun _ _ _ q=>q,fun _ ps q=>⟨#[],by rw [q];simp⟩⟩
theorem Un.refl:Un fs ex H H h h:=Un.kept fun _ _ q=>q
theorem Un.laid(k:∀b u,h.get? b=some u->h'.get? b=some u)(hp:h.objs.size<=a)(hn:H a=none): Un fs ex H (upd H a o) h h' where
 keep:=fun b u q _ _ _=>k b u q
 slot:=fun b u q _ _ _=>⟨u.slots,k b u q⟩
 free:=fun b u q n _=>by rw [qh (mn (mf (m8 q) hp))];exact n
 there:=fun b u q _=>⟨u,k b u q⟩
 tups:=fun b xs q=>by rw [qh (ji q hn)];exact q
 frzs:=fun b u xs q=>by rw [qh (ji q hn)];exact q
 tbls:=fun b ps q=>⟨#[],by rw [qh (ji q hn),q];simp⟩
theorem Un.write(mu:Mut (H x))(he:e=x\/H e=some (.own x))(k:∀b u,b≠e->h.get? b=some u->h'.get? b=some u)(heo:∃u,h'.get? e=some u): Un fs ex H (upd H x o) h h':=by
 have hx:∀b,H b=none->b≠x:=fun b n z=>by subst z;rw [n] at mu;exact mu
 have hb:∀b,H b=none->b≠e:=fun b n z=>by
  subst z;rcases he with r|r
  ·exact hx b n r
  ·rw [n] at r;cases r
 have hm:∀b u,H b=some u->¬Mut (some u)->b≠x:=fun b u q nm z=>by subst z;rw [q] at mu;exact nm mu
 refine⟨fun b u q n _ _=>k b u (hb b n) q,fun b u q n _ _=>⟨u.slots,k b u (hb b n) q⟩,fun b u q n _=>by rw [qh (hx b n)];exact n,fun b u q _=>?_,
  fun b xs q=>by rw [qh (hm b _ q fun z=>z)];exact q,fun b u xs q=>by rw [qh (hm b _ q fun z=>z)];exact q,fun b ps q=>⟨#[],by rw [qh (hm b _ q fun z=>z),q];simp⟩⟩
 by_cases hbe:b=e
 ·subst hbe;exact heo
 ·exact⟨u,k b u hbe q⟩
end
def trk(h:Heap)(H:Hp): List Addr:=(List.range h.objs.size).filter fun a=>(H a).isSome
def q1v(h:Heap)(H:Hp): Heap:=PySem.W.hideAll h (trk h H)
theorem qej(h:Heap)(H:Hp): (q1v h H).objs.size=h.objs.size:=PySem.W.hideAll_size _ _
theorem qgd{h:Heap}{H:Hp}{b:Addr}{o:Obj}(e:h.get? b=some o)(n:H b=none): (q1v h H).get? b=some o:=
 PySem.W.hideAll_get _ e fun hm=>by
  have q:(H b).isSome=true:=(mx.mp hm).2;rw [n] at q;simp at q
theorem qiz{h:Heap}{H:Hp}{b:Addr}{o:Obj}(e:(q1v h H).get? b=some o): h.get? b=some o/\H b=none:=by
 have e':h.get? b=some o:=PySem.W.of_hideAll (trk h H) e;refine⟨e',?_⟩;cases q:H b with
 | none=>rfl
 | some x=>
  have hm:b∈trk h H:=mx.mpr ⟨ur.mpr (m8 e'),by simp [q]⟩;have z:(q1v h H).get? b=none:=PySem.W.hideAll_none (trk h H) hm;rw [z] at e;cases e
def qj0(g h:Heap)(L:Addr): List (Addr×Obj):=(List.range h.objs.size).filterMap fun a=>if a=L\/(g.get? a).isSome=true then none else(h.get? a).map fun o=>(a,o)
def rest(g h:Heap)(L d:Addr): List (Addr×Obj):=(qj0 g h L).filter fun p=>decide (p.1≠d)
structure Mod(K:PySem.W.Frag)(mg:Str->Option Value)(base:Heap): Prop where
 kin:K.In base
 glob:base.Ns mainGlobals mg
 blt:∃mb,base.Ns builtinsNs mb/\∀x:Str,x≠"__name__" -> mb x=bootBuiltins x
 nolimit:base.NoLimit
structure Cx where
 prog:Program
 w:World
 K:PySem.W.Frag
 mg:Str->Option Value
 base:Heap
 A:Around
 N:List Str
 s₀:Shared
 H₀:Hp
 env:Env
 outer:List Env
 stack:List Env
 ex:List Addr
 fn:Str->Bool
 calm:Bool
 pn:List (Addr×Obj)
 xe:Value->Shared->Prop
def frs(l:List Env): List Addr:=l.filterMap (·.frame)
abbrev Cx.fs(X:Cx): List Addr:=frs X.outer
def Vis(sc:Scope)(x:Str): Prop:=sc.names.lookup x=some .local\/sc.names.lookup x=some .cell\/sc.names.lookup x=some .free
def Loc(sc:Scope)(x:Str): Prop:=sc.names.lookup x=some .local\/sc.names.lookup x=some .cell
def Look(env:Env)(h:Heap)(m:Str->Option Value)(x:Str)(u:Value): Prop:=
 (env.kindOf x=some .local/\m x=some u)\/((env.kindOf x=some .cell\/env.kindOf x=some .free)/\∃c,env.cells.lookup x=some c/\h.IsCell c (some u))
structure Cx.Ok(X:Cx): Prop where
 mod:Mod X.K X.mg X.base
 kind:X.env.scope.kind=.function
 glob:X.env.globals=mainGlobals
 blt:X.env.builtins=builtinsNs
 above:X.s₀.heap.objs.size<=X.env.locals
 inj:∀x y c,X.env.cells.lookup x=some c->X.env.cells.lookup y=some c->x=y
 has:∀x,(X.env.kindOf x=some .cell\/X.env.kindOf x=some .free)->∃c,X.env.cells.lookup x=some c
 cab:∀x c,X.fn x=true->X.env.cells.lookup x=some c->X.s₀.heap.objs.size<=c
 hd:X.calm=true->X.A.handled=none
 frames:X.A.frames=some X.stack
 stk:X.stack=X.outer\/(X.stack=X.env :: X.outer/\X.env.frame=some X.env.locals)
 exf:∀b∈X.ex,b≠X.env.locals/\∀x c,X.env.cells.lookup x=some c->c≠b
 bs:∀b o,X.base.get? b=some o->X.s₀.heap.get? b=some o/\X.H₀ b=none
 bsz:X.base.objs.size<=X.s₀.heap.objs.size
 noex:∀b o,X.base.get? b=some o->b∉X.ex
 exfs:∀b∈X.ex,b∉X.fs
 funs:X.s₀.heap.FunFrames X.base X.outer
 frf:∀b∈X.fs,X.H₀ b=none
structure Inv(X:Cx)(pins:List (Addr×Obj))(σ : List (Option V))(H:Hp)(s:Shared): Prop where
 ok:X.Ok
 os:s.os=X.s₀.os
 bare:AllBare s.gens
 base:Un X.fs X.ex X.H₀ H X.s₀.heap s.heap
 loc:∃m,s.heap.Ns X.env.locals m/\∀(i:Nat) (x:Str) (v:V),X.N[i]? = some x -> σ[i]? = some (some v)->Vis X.env.scope x->∃u,RelV v u/\Look X.env s.heap m x u
 cell:∀x c,X.env.cells.lookup x=some c->∃v,s.heap.IsCell c v
 free:H X.env.locals=none
 freeC:∀x c,X.env.cells.lookup x=some c->H c=none
 pin:∀p∈X.pn++pins,s.heap.get? p.1=some p.2/\H p.1=none/\p.1≠X.env.locals/\p.1∉X.fs/\∀v,p.2.data ≠ .cell v
 hok:HOk X.prog X.w H s.heap
 len : σ.length=X.N.length
section
variable{X:Cx}{pins:List (Addr×Obj)}{σ : List (Option V)}{H H':Hp}{s:Shared}{h':Heap}
theorem Cx.Ok.nofr(ok:X.Ok){b:Addr}{o:Obj}(e:X.base.get? b=some o): b∉X.fs:=fun hb=>by
 have:=(ok.funs.mem hb).1;rw [e] at this;cases this
theorem Inv.bs(I:Inv X pins σ H s): ∀b o,X.base.get? b=some o->s.heap.get? b=some o/\H b=none:=fun b o e=>
 ⟨I.base.keep b o (I.ok.bs b o e).1 (I.ok.bs b o e).2 (I.ok.nofr e) (I.ok.noex b o e),I.base.free b o (I.ok.bs b o e).1 (I.ok.bs b o e).2 (I.ok.noex b o e)⟩
theorem Inv.bk(I:Inv X pins σ H s): ∀b o,X.base.get? b=some o->s.heap.get? b=some o:=fun b o e=>(I.bs b o e).1
theorem Inv.mod(I:Inv X pins σ H s): Mod X.K X.mg X.base:=I.ok.mod
theorem Inv.kIn(I:Inv X pins σ H s): X.K.In s.heap:=I.ok.mod.kin.keeps I.bk
theorem Inv.lt(I:Inv X pins σ H s): X.env.locals<s.heap.objs.size:=let⟨_,hn,_⟩:=I.loc;hn.lt
theorem Inv.sz(I:Inv X pins σ H s): X.s₀.heap.objs.size<=s.heap.objs.size:=ml I.ok.above (g2b I.lt)
theorem Inv.nofs(I:Inv X pins σ H s){a:Addr}(h:s.heap.objs.size<=a): a∉X.fs:=fun hb=>by
 obtain⟨_,o,ho,_⟩:=I.ok.funs.mem hb;exact absurd (mf (m8 ho) (ml I.sz h)) (g0d _)
theorem Inv.cne(I:Inv X pins σ H s): ∀x c,X.env.cells.lookup x=some c->c≠X.env.locals:=fun x c e z=>by
 obtain⟨v,o,ho,hd⟩:=I.cell x c e;obtain⟨m,⟨o',es,ep,ho',hd',_⟩,_⟩:=I.loc;rw [z,ho'] at ho;cases ho;rw [hd'] at hd;cases hd
theorem Inv.funs(I:Inv X pins σ H s): s.heap.FunFrames X.base X.outer:=by
 have all:∀(l:List Env),(∀b∈frs l,b∈X.fs)->X.s₀.heap.FunFrames X.base l->s.heap.FunFrames X.base l:=by
  intro l
  induction l with
  | nil=>intro _ _;trivial
  | cons env r ih=>
   intro hs hl;obtain⟨hk,⟨L,o,hf,hn,ho,hd⟩,hr⟩:=hl;have hL:L∈X.fs:=hs L (by unfold frs;rw [g2t,hf];exact gw);obtain⟨sl,e⟩:=I.base.slot L o ho (I.ok.frf L hL) hL fun z=>I.ok.exfs L z hL;exact⟨hk,⟨L,_,hf,hn,e,hd⟩,ih (fun b hb=>hs b (by unfold frs;rw [g2t,hf];exact gq _ hb)) hr⟩
 exact all X.outer (fun _ hb=>hb) I.ok.funs
theorem Inv.stack(I:Inv X pins σ H s): s.heap.FunFrames X.base X.stack:=by
 rcases I.ok.stk with e|⟨e,hf⟩
 ·rw [e];exact I.funs
 ·rw [e]
  obtain⟨m,hn,_⟩:=I.loc;refine .cons (by rw [I.ok.kind];decide) hf hn ?_ I.funs;exact Heap.get?_none_of_le (ml I.ok.bsz I.ok.above)
theorem Inv.stkSub(I:Inv X pins σ H s): ∀b∈frs X.stack,b∈X.env.locals :: X.fs:=fun b hb=>by
 rcases I.ok.stk with e|⟨e,hf⟩
 ·rw [e] at hb;exact gq _ hb
 ·rw [e] at hb
  unfold frs at hb;rw [g2t,hf] at hb;exact hb
theorem Inv.stkFree(I:Inv X pins σ H s): ∀b∈frs X.stack,H b=none:=fun b hb=>by
 rcases mw.mp (I.stkSub b hb) with e|hb
 ·rw [e];exact I.free
 ·obtain⟨_,o,ho,_⟩:=I.ok.funs.mem hb
  exact I.base.free b o ho (I.ok.frf b hb) fun z=>I.ok.exfs b z hb
theorem Inv.step{g':Array GenState}{t':Nat}{d':Drawn}{ch:List Addr}(I:Inv X pins σ H s)
  (hch:∀b∈ch,(b∈X.ex\/X.s₀.heap.objs.size<=b)/\b≠X.env.locals/\(∀x c,X.env.cells.lookup x=some c->c≠b)/\∀p∈X.pn++pins,p.1≠b)
  (keep:∀b o,b≠X.env.locals->b∉X.fs->b∉ch->s.heap.get? b=some o->H b=none->h'.get? b=some o)
  (slot:∀b o,b≠X.env.locals->b∈X.fs->b∉ch->s.heap.get? b=some o->H b=none->∃sl,h'.get? b=some {o with slots:=sl}) (free:∀b o,b∉ch->s.heap.get? b=some o->H b=none->H' b=none)
  (there:∀b o,b∉ch->s.heap.get? b=some o->∃o',h'.get? b=some o')
  (tups:∀b xs,H b=some (.tup xs)->H' b=some (.tup xs)) (frzs:∀b o u,H b=some (.frz o u)->H' b=some (.frz o u)) (tbls:∀b ps,H b=some (.tbl ps)->∃more,H' b=some (.tbl (ps++more)))
  (ns:∀m,s.heap.Ns X.env.locals m->h'.Ns X.env.locals m) (hok:HOk X.prog X.w H' h') (hg:AllBare g') :
  Inv X pins σ H' {s with heap:=h',gens:=g',drawn:=d',toks:=t'}:=by
 have neL:∀b o,X.s₀.heap.get? b=some o->b≠X.env.locals:=fun b o e=>mn (mf (m8 e) I.ok.above);have neC:∀b o,X.s₀.heap.get? b=some o->b∉X.ex->b∉ch:=fun b o e hx hb=>by
  rcases(hch b hb).1 with z|z
  ·exact hx z
  ·exact absurd (mf (m8 e) z) (g0d _)
 have cellK:∀x c,X.env.cells.lookup x=some c->∀v,s.heap.IsCell c v->h'.IsCell c v:=fun x c e v ⟨o,ho,hd⟩=>by
  have nch:c∉ch:=fun z=>(hch c z).2.2.1 x c e rfl
  by_cases hc:c∈X.fs
  ·obtain⟨sl,q⟩:=slot c o (I.cne x c e) hc nch ho (I.freeC x c e)
   exact⟨_,q,hd⟩
  ·exact⟨o,keep c o (I.cne x c e) hc nch ho (I.freeC x c e),hd⟩
 refine⟨I.ok,I.os,hg,⟨fun b o e n hb hx=>?_,fun b o e n hb hx=>?_,fun b o e n hx=>?_,fun b o e hx=>?_,fun b xs e=>tups b xs (I.base.tups b xs e),fun b o xs e=>frzs b o xs (I.base.frzs b o xs e),fun b ps e=>?_⟩,?_,fun x c e=>?_,?_,fun x c e=>?_,fun p hp=>?_,hok,I.len⟩
 ·exact keep b o (neL b o e) hb (neC b o e hx) (I.base.keep b o e n hb hx) (I.base.free b o e n hx)
 ·obtain⟨sl,e1⟩:=I.base.slot b o e n hb hx
  obtain⟨sl',e2⟩:=slot b _ (neL b o e) hb (neC b o e hx) e1 (I.base.free b o e n hx);exact⟨sl',e2⟩
 ·obtain⟨o',e1⟩:=I.base.there b o e hx
  exact free b o' (neC b o e hx) e1 (I.base.free b o e n hx)
 ·obtain⟨o',e1⟩:=I.base.there b o e hx
  exact there b o' (neC b o e hx) e1
 ·obtain⟨m1,e1⟩:=I.base.tbls b ps e
  obtain⟨m2,e2⟩:=tbls b _ e1;exact⟨m1++m2,by rw [e2,Array.append_assoc]⟩
 ·obtain⟨m,hn,hl⟩:=I.loc
  refine⟨m,ns m hn,fun i x v e1 e2 e3=>?_⟩;obtain⟨u,r,l⟩:=hl i x v e1 e2 e3;refine⟨u,r,?_⟩;rcases l with l|⟨k,c,e,z⟩
  ·exact .inl l
  ·exact .inr ⟨k,c,e,cellK x c e _ z⟩
 ·obtain⟨v,z⟩:=I.cell x c e
  exact⟨v,cellK x c e v z⟩
 ·obtain⟨m,⟨o,_,_,ho,_⟩,_⟩:=I.loc
  exact free _ o (fun z=>(hch _ z).2.1 rfl) ho I.free
 ·obtain⟨v,o,ho,hd⟩:=I.cell x c e
  exact free c o (fun z=>(hch c z).2.2.1 x c e rfl) ho (I.freeC x c e)
 ·obtain⟨e,n,ne,nf,d⟩:=I.pin p hp
  have nch:p.1∉ch:=fun z=>(hch p.1 z).2.2.2 p hp rfl;exact⟨keep p.1 p.2 ne nf nch e n,free p.1 p.2 nch e n,ne,nf,d⟩
theorem Inv.un{t':Nat}(I:Inv X pins σ H s)(u:Un X.fs [] H H' s.heap h')(hok:HOk X.prog X.w H' h'): Inv X pins σ H' {s with heap:=h',toks:=t'}:=by
 obtain⟨m,⟨o,es,ep,ho,r⟩,_⟩:=id I.loc;obtain⟨sl,hL⟩:=u.any ho I.free (by simp);exact I.step (g':=s.gens) (d':=s.drawn) (ch:=[]) (fun _ z=>nomatch z) (fun b o _ hb _ e n=>u.keep b o e n hb (by simp)) (fun b o _ hb _ e n=>u.slot b o e n hb (by simp)) (fun b o _ e n=>u.free b o e n (by simp)) (fun b o _ e=>u.there b o e (by simp)) u.tups u.frzs u.tbls (fun m' hm=>by
  obtain⟨o',es',ep',ho',r'⟩:=hm;rw [ho] at ho';cases ho';exact⟨_,es',ep',hL,r'⟩) hok I.bare
theorem Inv.call{g':Array GenState}{t':Nat}{d':Drawn}{ch:List Addr}(I:Inv X pins σ H s)(u:Un (frs X.stack) ch H H' s.heap h')(hok:HOk X.prog X.w H' h')(hg:AllBare g')
  (hch:∀b∈ch,(b∈X.ex\/X.s₀.heap.objs.size<=b)/\b≠X.env.locals/\(∀x c,X.env.cells.lookup x=some c->c≠b)/\∀p∈X.pn++pins,p.1≠b) :
  Inv X pins σ H' {s with heap:=h',gens:=g',drawn:=d',toks:=t'}:=by
 obtain⟨m,⟨o,es,ep,ho,r⟩,_⟩:=id I.loc;obtain⟨sl,hL⟩:=u.any ho I.free fun z=>(hch _ z).2.1 rfl;exact I.step (ch:=ch) hch (fun b o hL hb hc e n=>u.keep b o e n (fun z=>(mw.mp (I.stkSub b z)).elim hL hb) hc) (fun b o _ _ hc e n=>u.any e n hc) (fun b o hc e n=>u.free b o e n hc) (fun b o hc e=>u.there b o e hc) u.tups u.frzs u.tbls (fun m' hm=>by
  obtain⟨o',es',ep',ho',r'⟩:=hm;rw [ho] at ho';cases ho';exact⟨_,es',ep',hL,r'⟩) hok hg
theorem Inv.turned{t':Nat}{it:Addr}(I:Inv X pins σ H s)(k:∀b o,b≠it->s.heap.get? b=some o->h'.get? b=some o)(hn:H it=none)(hL:it≠X.env.locals)
  (h1:it∈X.ex\/X.s₀.heap.objs.size<=it) (h2:∀x c,X.env.cells.lookup x=some c->c≠it) (h3:∀p∈X.pn++pins,p.1≠it):Inv X pins σ H {s with heap:=h',toks:=t'}:=by
 have nit:∀b u,H b=some u->b≠it:=fun b u e z=>by rw [z,hn] at e;cases e
 refine I.step (g':=s.gens) (d':=s.drawn) (ch:=[it]) (fun b hb=>?_) (fun b o _ _ hc e _=>k b o (fun z=>hc (by simp [z])) e) (fun b o _ _ hc e _=>⟨o.slots,k b o (fun z=>hc (by simp [z])) e⟩) (fun _ _ _ _ n=>n)
  (fun b o hc e=>⟨o,k b o (fun z=>hc (by simp [z])) e⟩) (fun _ _ e=>e) (fun _ _ _ e=>e) (fun b ps e=>⟨#[],by rw [e];simp⟩) (fun m hm=>?_) (fun b u e=>?_) I.bare
 ·have e:b=it:=by simpa using hb
  subst e;exact⟨h1,hL,h2,h3⟩
 ·obtain⟨o,es,ep,ho,r⟩:=hm
  exact⟨o,es,ep,k _ o (mi hL) ho,r⟩
 ·refine(I.hok b u e).stay (fun c v hc q=>k c v ?_ q) (fun _ q=>q) fun _ _ q=>q
  rcases hc with z|z
  ·rw [z];exact nit b u e
  ·exact nit c _ z
theorem Inv.tok(I:Inv X pins σ H s)(t:Nat): Inv X pins σ H {s with toks:=t}:=I.un (h':=s.heap) (t':=t) Un.refl I.hok
theorem Inv.kept{t':Nat}(I:Inv X pins σ H s)(k:∀b u,s.heap.get? b=some u->h'.get? b=some u): Inv X pins σ H {s with heap:=h',toks:=t'}:=I.un (Un.kept k) (I.hok.kept k)
theorem Inv.laid{a:Addr}{o:HO}{t':Nat}(I:Inv X pins σ H s)(k:∀b u,s.heap.get? b=some u->h'.get? b=some u)(hp:s.heap.objs.size<=a)(new:ObjOk X.prog X.w (upd H a o) h' a o):
  Inv X pins σ (upd H a o) {s with heap:=h',toks:=t'}:=I.un (Un.laid k hp (I.hok.fresh hp)) (I.hok.laid k hp new)
theorem Inv.write{x e:Addr}{o:HO}{t':Nat}(I:Inv X pins σ H s)(mu:Mut (H x))(he:e=x\/H e=some (.own x))(k:∀b u,b≠e->s.heap.get? b=some u->h'.get? b=some u)(heo:∃u,h'.get? e=some u)
  (new:ObjOk X.prog X.w (upd H x o) h' x o):Inv X pins σ (upd H x o) {s with heap:=h',toks:=t'}:=I.un (Un.write mu he k heo) (I.hok.write mu he k heo new)
theorem Inv.pins_of{pins':List (Addr×Obj)}(I:Inv X pins σ H s)(h:∀p∈pins',s.heap.get? p.1=some p.2/\H p.1=none/\p.1≠X.env.locals/\p.1∉X.fs/\∀v,p.2.data ≠ .cell v): Inv X pins' σ H s:=
 ⟨I.ok,I.os,I.bare,I.base,I.loc,I.cell,I.free,I.freeC,fun p hp=>(pb.mp hp).elim (fun z=>I.pin p (g2c _ z)) (h p),I.hok,I.len⟩
theorem q8y{N:List Str}(hN:N.Nodup){i j:Nat}{x:Str}(a:N[i]? = some x)(b:N[j]? = some x): i=j:=by
 obtain⟨h1,e1⟩:=mq.mp a;obtain⟨h2,e2⟩:=mq.mp b;exact(List.getElem_inj hN).mp (e1.trans e2.symm)
theorem qek{M:Model}{A:Around}{E:Value->Shared->Prop}{i:Nat}{x:Str}{v:V}{u:Value}{Q:Unit->Shared->Prop}(I:Inv X pins σ H s)(hN:X.N.Nodup)(hi:X.N[i]? = some x)(hx:Loc X.env.scope x)(r:RelV v u)
  (h:∀s',Inv X pins (σ.set i (some v)) H s'->(∃a,Heap.SameBut a s.heap s'.heap/\(a=X.env.locals\/X.env.cells.lookup x=some a))->Q () s') (hf:X.fn x=true\/X.env.scope.names.lookup x=some .local:=by first|exact .inl rfl|exact .inr rfl|assumption):wpAny M A (storeName X.env x u) Q E s:=by
 obtain⟨m,hn,hl⟩:=id I.loc;have hcls:(X.env.scope.kind == .class || (X.env.scope.kind == .module&&X.env.locals != X.env.globals))=false:=by rw [I.ok.kind];rfl
 have hiσ : i < σ.length:=by rw [I.len];exact(mq.mp hi).1
 have cne:=I.cne;have tracked:∀ {a:Addr} {h':Heap},(∃o,s.heap.get? a=some o/\H a=none)->Heap.SameBut a s.heap h'->HOk X.prog X.w H h':=fun {a h'} ha hs b ob e=>by
  obtain⟨_,_,hfree⟩:=ha;refine(I.hok b ob e).stay (fun c w' hc q=>(hs.2 c ?_).trans q) (fun _ q=>q) fun _ _ q=>q
  rintro rfl
  rcases hc with rfl|hc
  ·rw [hfree] at e;cases e
  ·rw [hfree] at hc;cases hc
 rcases hx with hk|hk
 ·refine wpAny_storeName_local hk hn (fun h' hn' hs=>?_) hcls
  obtain⟨oL,_,_,hoL,_⟩:=id hn;refine h _ ⟨I.ok,I.os,I.bare,⟨fun b o e n hb hx=>?_,fun b o e n hb hx=>?_,I.base.free,fun b o e hx=>?_,I.base.tups,I.base.frzs,I.base.tbls⟩,⟨_,hn',fun j y v' e1 e2 e3=>?_⟩,fun y c e=>?_,I.free,I.freeC,fun p hp=>?_,tracked ⟨oL,hoL,I.free⟩ hs,by simpa using I.len⟩ ⟨_,hs,.inl rfl⟩
  ·exact(hs.2 b (mn (mf (m8 e) I.ok.above))).trans (I.base.keep b o e n hb hx)
  ·obtain⟨sl,e1⟩:=I.base.slot b o e n hb hx
   exact⟨sl,(hs.2 b (mn (mf (m8 e) I.ok.above))).trans e1⟩
  ·obtain⟨o',e1⟩:=I.base.there b o e hx
   exact⟨o',(hs.2 b (mn (mf (m8 e) I.ok.above))).trans e1⟩
  ·by_cases hj:j=i
   ·subst hj
    rw [hi] at e1;cases e1;rw [g41 hiσ] at e2;cases e2;exact⟨u,r,.inl ⟨hk,by simp⟩⟩
   ·rw [gc (mi hj)] at e2
    obtain⟨u',r',q⟩:=hl j y v' e1 e2 e3;refine⟨u',r',?_⟩;rcases q with⟨k,e⟩|⟨k,c,e,z⟩
    ·refine .inl ⟨k,?_⟩
     have:y≠x:=fun e=>hj (q8y hN e1 (e ▸ hi));simp [this,e]
    ·exact .inr ⟨k,c,e,z.sameBut hs (cne y c e)⟩
  ·obtain⟨w',z⟩:=I.cell y c e
   exact⟨w',z.sameBut hs (cne y c e)⟩
  ·obtain⟨e,n,ne,nf,d⟩:=I.pin p hp
   exact⟨(hs.2 p.1 ne).trans e,n,ne,nf,d⟩
 ·have hfn:X.fn x=true:=by
   rcases hf with z|z
   ·exact z
   ·rw [z] at hk;cases hk
  obtain⟨c,hc⟩:=I.ok.has x (.inl hk);obtain⟨w',z⟩:=I.cell x c hc;refine wpAny_storeName_cell I.ok.kind hk hc z (fun h' hc' hs=>?_);obtain⟨oc,hoc,hocd⟩:=id z;refine h {s with heap:=h'} ⟨I.ok,I.os,I.bare,⟨fun b o e n hb hx=>?_,fun b o e n hb hx=>?_,I.base.free,fun b o e hx=>?_,I.base.tups,I.base.frzs,I.base.tbls⟩,⟨m,hn.sameBut hs (mi (cne x c hc)),fun j y v' e1 e2 e3=>?_⟩,fun y c' e=>?_,I.free,I.freeC,fun p hp=>?_,tracked ⟨oc,hoc,I.freeC x c hc⟩ hs,by simpa using I.len⟩ ⟨c,hs,.inr hc⟩
  ·exact(hs.2 b (mn (mf (m8 e) (I.ok.cab x c hfn hc)))).trans (I.base.keep b o e n hb hx)
  ·obtain⟨sl,e1⟩:=I.base.slot b o e n hb hx
   exact⟨sl,(hs.2 b (mn (mf (m8 e) (I.ok.cab x c hfn hc)))).trans e1⟩
  ·obtain⟨o',e1⟩:=I.base.there b o e hx
   exact⟨o',(hs.2 b (mn (mf (m8 e) (I.ok.cab x c hfn hc)))).trans e1⟩
  ·by_cases hj:j=i
   ·subst hj
    rw [hi] at e1;cases e1;rw [g41 hiσ] at e2;cases e2;exact⟨u,r,.inr ⟨.inl hk,c,hc,hc'⟩⟩
   ·rw [gc (mi hj)] at e2
    obtain⟨u',r',q⟩:=hl j y v' e1 e2 e3;refine⟨u',r',?_⟩;rcases q with q|⟨k,c',e,z'⟩
    ·exact .inl q
    ·refine .inr ⟨k,c',e,z'.sameBut hs ?_⟩
     rintro rfl
     exact hj (q8y hN e1 (I.ok.inj _ _ _ e hc ▸ hi))
  ·by_cases hcc:c'=c
   ·subst hcc;exact⟨_,hc'⟩
   ·obtain⟨w2,z2⟩:=I.cell y c' e
    exact⟨w2,z2.sameBut hs hcc⟩
  ·obtain⟨e,n,ne,nf,d⟩:=I.pin p hp
   refine⟨(hs.2 p.1 ?_).trans e,n,ne,nf,d⟩;intro q;rw [q,hoc] at e;have q':oc=p.2:=m6 e;exact d w' (by rw [<- q'];exact hocd)
theorem q59{M:Model}{A:Around}{E:Value->Shared->Prop}{i:Nat}{x:Str}{v:V}{u:Value}{Q:Unit->Shared->Prop}(I:Inv X pins σ H s)(hN:X.N.Nodup)(hi:X.N[i]? = some x)(hx:Loc X.env.scope x)(r:RelV v u)
  (h:∀s',Inv X pins (σ.set i (some v)) H s'->Q () s') (hf:X.fn x=true\/X.env.scope.names.lookup x=some .local:=by first|exact .inl rfl|exact .inr rfl|assumption):wpAny M A (storeName X.env x u) Q E s:=
 qek I hN hi hx r (fun s' I' _=>h s' I') hf
theorem Inv.call'{s':Shared}{ch:List Addr}(I:Inv X pins σ H s)(ho:s'.os=s.os)(u:Un (frs X.stack) ch H H' s.heap s'.heap)(hok:HOk X.prog X.w H' s'.heap)(hg:AllBare s'.gens)
  (hch:∀b∈ch,(b∈X.ex\/X.s₀.heap.objs.size<=b)/\b≠X.env.locals/\(∀x c,X.env.cells.lookup x=some c->c≠b)/\∀p∈X.pn++pins,p.1≠b):Inv X pins σ H' s':=by
 obtain⟨h',g',d',t',o'⟩:=s';have e:o'=s.os:=ho;subst e;exact I.call (g':=g') (t':=t') (d':=d') u hok hg hch
end
abbrev XK:=Value->Option Addr->Hp->Prop
abbrev St:=List (Option V)
abbrev VK:=V->Hp->Prop
abbrev TE:=St->Hp->VK->Prop
abbrev TT:=St->Hp->(Bool->Hp->Prop)->Prop
abbrev TA:=St->Hp->(List V->Hp->Prop)->Prop
structure Ends where
 nx:St->Hp->Prop
 rt:VK
 bk:St->Hp->Prop:=fun _ _=>False
 ct:St->Hp->Prop:=fun _ _=>False
abbrev TS:=Ends->St->Hp->Prop
def EP(X:Cx)(pins:List (Addr×Obj))(σ : St)(Q:VK)(u:Value)(s':Shared): Prop:=∃v H',Inv X pins σ H' s'/\RelV v u/\Q v H'
def TP(X:Cx)(pins:List (Addr×Obj))(σ : St)(Q:Bool->Hp->Prop)(b:Bool)(s':Shared): Prop:=∃H',Inv X pins σ H' s'/\Q b H'
def AP(X:Cx)(pins:List (Addr×Obj))(σ : St)(Q:List V->Hp->Prop)(us:List Value)(s':Shared): Prop:=∃vs H',Inv X pins σ H' s'/\Vals vs us/\Q vs H'
def SP(X:Cx)(pins:List (Addr×Obj))(D:Ends)(f:Flow)(s':Shared): Prop:=
 match f with
 | .next=>∃ σ' H',Inv X pins σ' H' s'/\D.nx σ' H'
 | .brk=>∃ σ' H',Inv X pins σ' H' s'/\D.bk σ' H'
 | .cont=>∃ σ' H',Inv X pins σ' H' s'/\D.ct σ' H'
 | .ret u=>∃v σ' H',Inv X pins σ' H' s'/\RelV v u/\D.rt v H'
def PE(X:Cx)(e:Expr)(t:TE): Prop:=
 ∀(pins:List (Addr×Obj)) (s:Shared) (σ : St) (H:Hp) (Q:VK),Inv X pins σ H s->t σ H Q->wpAny (model X.prog X.w) X.A (eval e X.env) (EP X pins σ Q) X.xe s
def PT(X:Cx)(e:Expr)(t:TT): Prop:=
 ∀(pins:List (Addr×Obj)) (s:Shared) (σ : St) (H:Hp) (Q:Bool->Hp->Prop),Inv X pins σ H s->t σ H Q->wpAny (model X.prog X.w) X.A (isTrue e X.env (eval e X.env)) (TP X pins σ Q) X.xe s
def PW(X:Cx)(e:Expr)(t:TT): Prop:=
 ∀(whole:Sem Value) (pins:List (Addr×Obj)) (s:Shared) (σ : St) (H:Hp) (Q:Bool->Hp->Prop),Inv X pins σ H s->t σ H Q->wpAny (model X.prog X.w) X.A (isTrue e X.env whole) (TP X pins σ Q) X.xe s
theorem PW.pt{X:Cx}{e:Expr}{t:TT}(h:PW X e t): PT X e t:=h _
def PA(X:Cx)(es:List Expr)(t:TA): Prop:=
 ∀(pos:Pos) (pins:List (Addr×Obj)) (s:Shared) (σ : St) (H:Hp) (Q:List V->Hp->Prop),Inv X pins σ H s->t σ H Q->wpAny (model X.prog X.w) X.A (spliced (backTo pos (starEach es X.env))) (AP X pins σ Q) X.xe s
def PS(X:Cx)(st:Stmt)(t:TS): Prop:=
 ∀(pins:List (Addr×Obj)) (s:Shared) (σ : St) (H:Hp) (D:Ends),Inv X pins σ H s->t D σ H->wpAny (model X.prog X.w) X.A (exec st X.env) (SP X pins D) X.xe s
def PSs(X:Cx)(st:List Stmt)(t:TS): Prop:=
 ∀(pins:List (Addr×Obj)) (s:Shared) (σ : St) (H:Hp) (D:Ends),Inv X pins σ H s->t D σ H->wpAny (model X.prog X.w) X.A (execs st X.env) (SP X pins D) X.xe s
theorem thn{α : Type}{t:Sem α}{Q Q' : α -> Shared->Prop}{M:Model}{A:Around}{E:Value->Shared->Prop}{s:Shared}(h:wpAny M A t Q E s)(hQ:∀a s,Q a s->Q' a s): wpAny M A t Q' E s:=t7 h hQ fun _ _ x=>x
section
variable{X:Cx}
theorem bin{a b:Expr}{ta tb:TE}(ha:PE X a ta)(hb:PE X b tb){pins:List (Addr×Obj)}{s:Shared}{σ : St}{H:Hp}{R:V->V->Hp->Prop}(I:Inv X pins σ H s)(h:ta σ H fun x H1=>tb σ H1 fun y H2=>R x y H2)
  {α : Type} {Q : α -> Shared->Prop} {f:Value->Value->Sem α}
  (hf:∀v u s2 x y H2,Inv X pins σ H2 s2->RelV x v->RelV y u->R x y H2->wpAny (model X.prog X.w) X.A (f v u) Q X.xe s2) :
  wpAny (model X.prog X.w) X.A (eval a X.env) (fun v s₁=>wpAny (model X.prog X.w) X.A (eval b X.env) (fun u s₂=>wpAny (model X.prog X.w) X.A (f v u) Q X.xe s₂) X.xe s₁) X.xe s:=by
 refine thn (ha pins s σ H _ I h) fun v s1 ⟨x,H1,I1,r1,q1⟩=>?_;refine thn (hb pins s1 σ H1 _ I1 q1) fun u s2 ⟨y,H2,I2,r2,q2⟩=>?_;exact hf v u s2 x y H2 I2 r1 r2 q2
def q5a(i:Nat): TE:=fun σ H Q=>∃v, σ[i]? = some (some v)/\Q v H
def tC(v:V): TE:=fun _ H Q=>Q v H
theorem qlf{i:Nat}{x:Str}{pos:Pos}(hN:X.N[i]? = some x)(hv:Vis X.env.scope x)(hd:(x==("__debug__" : Str))=false:=by decide)(hcd:(x==("__classdict__" : Str))=false:=by decide): PE X (.Name x pos) (q5a i):=by
 intro pins s σ H Q I h;obtain⟨v,e,h⟩:=h;obtain⟨m,hn,hl⟩:=I.loc;obtain⟨u,r,l⟩:=hl i x v hN e hv;have fin:EP X pins σ Q u s:=⟨v,H,I,r,h⟩
 rcases l with⟨hk,hm⟩|⟨hk,c,hc,hcell⟩
 ·exact wpAny_Name (wpAny_loadName_local I.ok.kind hk hn hm fin) hd
 ·rcases hk with hk|hk
  ·exact wpAny_Name (wpAny_loadName_cell I.ok.kind hk hc hcell fin) hd
  ·exact wpAny_Name (wpAny_loadName_free I.ok.kind hk hc hcell fin hcd) hd
theorem qlg{i j pos}: PE X (.Constant (.int i) j pos) (tC (.int i)):=fun _ _ _ H _ I h=>wpAny_Constant_int ⟨.int i,H,I.tok _,⟨_,rfl⟩,h⟩
theorem qno{b j pos}: PE X (.Constant (.bool b) j pos) (tC (.bl b)):=fun _ _ _ H _ I h=>Constant_bool ⟨.bl b,H,I,rfl,h⟩
def Gl(X:Cx)(x:Str): Prop:=X.env.kindOf x=some .globalImplicit
theorem qbq{E:Value->Shared->Prop}{pins:List (Addr×Obj)}{s:Shared}{σ : St}{H:Hp}{x:Str}{u:Value}{pos:Pos}{Q:Value->Shared->Prop}(I:Inv X pins σ H s)(hg:Gl X x)(hm:X.mg x=some u)(h:Q u s)
  (hd:(x==("__debug__" : Str))=false:=by decide):wpAny (model X.prog X.w) X.A (eval (.Name x pos) X.env) Q E s:=
 Calls.Name_function_global I.ok.kind hg (Calls.loadGlobal_global (by rw [I.ok.glob];exact I.mod.glob.keeps I.bk) hm h) hd
theorem q15{E:Value->Shared->Prop}{pins:List (Addr×Obj)}{s:Shared}{σ : St}{H:Hp}{x:Str}{u:Value}{pos:Pos}{Q:Value->Shared->Prop}(I:Inv X pins σ H s)(hg:Gl X x)(hm:X.mg x=none)(hv:bootBuiltins x=some u)(h:Q u s)
  (hn:x≠"__name__" :=by decide) (hd:(x==("__debug__" : Str))=false:=by decide):wpAny (model X.prog X.w) X.A (eval (.Name x pos) X.env) Q E s:=by
 obtain⟨mb,h1,h2⟩:=I.mod.blt;exact Calls.Name_function_global I.ok.kind hg (Calls.loadGlobal_builtin (by rw [I.ok.glob];exact I.mod.glob.keeps I.bk) hm (by rw [I.ok.blt];exact h1.keeps I.bk) ((h2 x hn).trans hv) h) hd
theorem qj1{x:Str}{v:V}{u:Value}{pos:Pos}(hg:Gl X x)(hm:X.mg x=none)(hv:bootBuiltins x=some u)(r:RelV v u)(hn:x≠"__name__" :=by decide)(hd:(x==("__debug__" : Str))=false:=by decide): PE X (.Name x pos) (tC v):=
 fun _ _ _ H _ I h=>q15 I hg hm hv ⟨v,H,I,r,h⟩ hn hd
variable{a b:Expr}{ta tb:TE}{pos:Pos}
theorem q8z(b:Expr){op:CmpOp}(h:op ≠ .In)(h2:op ≠ .NotIn): behindInMarks op b=false:=by
 have e1:(op==CmpOp.In)=false:=by cases op <;> first|rfl|exact absurd rfl h
 have e2:(op==CmpOp.NotIn)=false:=by cases op <;> first|rfl|exact absurd rfl h2
 cases b <;> simp [behindInMarks,e1,e2]
variable{tA tB':TT}{rest:List Expr}
def tOr(t u:TT): TT:=fun σ H Q=>t σ H fun c H1=>if c=true then Q true H1 else u σ H1 Q
def qos(t:TT): TT:=fun σ H Q=>t σ H fun c H1=>Q (!c) H1
theorem qlh(ha:PT X a tA): PW X (.BoolOp .Or [a] pos) tA:=by
 intro wh pins s σ H Q I h;refine isTrue_or (thn (ha pins s σ H Q I h) fun c s1 e=>?_);cases c with
 | false=>exact isTrue_or_nil e
 | true=>exact e
theorem qnp(ha:PT X a tA)(hb:PW X (.BoolOp .Or (b :: rest) pos) tB'): PW X (.BoolOp .Or (a :: b :: rest) pos) (tOr tA tB'):=by
 intro wh pins s σ H Q I h;refine isTrue_or (thn (ha pins s σ H _ I h) fun c s1 ⟨H1,I1,q1⟩=>?_);cases c with
 | true=>exact⟨H1,I1,q1⟩
 | false=>exact hb wh pins s1 σ H1 Q I1 q1
theorem qli(ha:PT X a tA): PT X (.UnaryOp .Not a pos) (qos tA):=by
 intro pins s σ H Q I h;exact isTrue_not (ha pins s σ H (fun c H1=>Q (!c) H1) I h)
def qnq(ta tb:TE): TE:=fun σ H Q=>ta σ H fun x H1=>∃c,x=.bl c/\if c=true then tb σ H1 Q else Q (.bl false) H1
def qnr(ta:TE): TE:=fun σ H Q=>ta σ H fun x H1=>∃c,x=.bl c/\Q (.bl (!c)) H1
theorem qlj{op}{t:TE}(h:PE X a t): PE X (.BoolOp op [a] pos) t:=fun pins s σ H Q I hw=>BoolOp_one (h pins s σ H Q I hw)
theorem qlk(ha:PE X a ta)(hb:PE X (.BoolOp .And (b :: rest) pos) tb): PE X (.BoolOp .And (a :: b :: rest) pos) (qnq ta tb):=by
 intro pins s σ H Q I h;refine BoolOp_and (thn (ha pins s σ H _ I h) fun v s1 ⟨x,H1,I1,r1,q1⟩=>?_);obtain⟨c,rfl,q1⟩:=q1;cases r1;refine g1u ?_;cases c with
 | true=>exact hb pins s1 σ H1 Q I1 q1
 | false=>exact⟨.bl false,H1,I1,rfl,q1⟩
theorem qll(ha:PE X a ta): PE X (.UnaryOp .Not a pos) (qnr ta):=by
 intro pins s σ H Q I h;refine UnaryOp_ (thn (ha pins s σ H _ I h) fun v s1 ⟨x,H1,I1,r1,q1⟩=>?_);obtain⟨c,rfl,q1⟩:=q1;cases r1;exact not_of (g1u ⟨.bl (!c),H1,I1,rfl,q1⟩)
def tIf(t:TT)(ta tb:TE): TE:=fun σ H Q=>t σ H fun c H1=>if c=true then ta σ H1 Q else tb σ H1 Q
theorem qge{c:Expr}(hc:PT X c tA)(ha:PE X a ta)(hb:PE X b tb): PE X (.IfExp c a b pos) (tIf tA ta tb):=by
 intro pins s σ H Q I h;refine wpAny_IfExp (thn (hc pins s σ H _ I h) fun d s1 ⟨H1,I1,q1⟩=>?_);cases d with
 | true=>exact ha pins s1 σ H1 Q I1 q1
 | false=>exact hb pins s1 σ H1 Q I1 q1
end
def SqL(K:PySem.W.Frag)(H:Hp)(a:Addr)(xs:List V): Prop:=
 Rd H a (.lst xs) \/
  ∃(o:Obj) (its:Array Value) (n:Nat),K.lookup a=some o/\o.cls=.type "list" /\ o.dict=none/\o.data=.seq its n/\its.size<=sizeLine/\Vals xs its.toList
def SqT(K:PySem.W.Frag)(H:Hp)(a:Addr)(xs:List V): Prop:=
 Rd H a (.tup xs) \/
  ∃(o:Obj) (its:Array Value) (n:Nat),K.lookup a=some o/\o.cls=.type "tuple" /\ o.dict=none/\o.data=.seq its n/\its.size<=sizeLine/\Vals xs its.toList
def qot:Value->Option V
 | .none=>some .non
 | .bool b=>some (.bl b)
 | .int i _=>some (.int i)
 | .str x _=>some (.str x)
 | .bytes b _=>some (.byt b)
 | .float b _=>some (.flt b)
 | .ref a=>some (.ref a)
 | .type n=>some (.ty n)
 | _=>none
theorem RelV.abs{x:V}{u:Value}(r:RelV x u): qot u=some x:=by
 cases x with
 | non=>cases r;rfl
 | bl _=>cases r;rfl
 | int _=>obtain⟨t,rfl⟩:=r;rfl
 | str _=>obtain⟨t,rfl⟩:=r;rfl
 | byt _=>obtain⟨t,rfl⟩:=r;rfl
 | flt _=>obtain⟨t,rfl⟩:=r;rfl
 | ref _=>cases r;rfl
 | ty _=>cases r;rfl
theorem RelV.inj{x y:V}{u:Value}(r:RelV x u)(q:RelV y u): x=y:=m6 (r.abs.symm.trans q.abs)
theorem Vals.inj:∀ {xs ys:List V} {us:List Value},Vals xs us->Vals ys us->xs=ys
 | _,_,_,.nil,.nil=>rfl
 | _,_,_,.cons r t,.cons r' t'=>by rw [r.inj r',Vals.inj t t']
section
variable{X:Cx}{pins:List (Addr×Obj)}{σ : St}{H:Hp}{s:Shared}{a:Addr}{xs ys:List V}
theorem SqL.of{K:PySem.W.Frag}(h:H a=some (.lst xs)): SqL K H a xs:=.inl (.inl h)
theorem SqT.of{K:PySem.W.Frag}(h:H a=some (.tup xs)): SqT K H a xs:=.inl (.inl h)
theorem Inv.list(I:Inv X pins σ H s)(h:SqL X.K H a xs): ∃its:List Value,Vals xs its/\PlainL s.heap a its.toArray/\xs.length<=sizeLine:=by
 rcases h with h|⟨o,its,n,hk,hc,hd,hs,hz,r⟩
 ·obtain⟨z,its,n,r,e⟩:=h.ok I.hok
  exact⟨its,r,⟨_,n,e,rfl,rfl,rfl⟩,z⟩
 ·refine⟨its.toList,r,⟨o,n,I.kIn a o hk,hc,hd,by simpa using hs⟩,?_⟩
  have e:=r.length;simp only [ng] at e;omega
theorem Inv.tupleX(I:Inv X pins σ H s)(h:SqT X.K H a xs): ∃its:List Value,Vals xs its/\TupX s.heap a its.toArray/\xs.length<=sizeLine:=by
 rcases h with h|⟨o,its,n,hk,hc,hd,hs,hz,r⟩
 ·obtain⟨z,its,r,p⟩:=h.ok I.hok
  exact⟨its,r,p,z⟩
 ·refine⟨its.toList,r,⟨o,I.kIn a o hk,hc,hd,n,by simpa using hs⟩,?_⟩
  have e:=r.length;simp only [ng] at e;omega
theorem Inv.tuple(I:Inv X pins σ H s)(h:SqT X.K H a xs): ∃its:List Value,Vals xs its/\IsTup s.heap a its.toArray/\xs.length<=sizeLine:=let⟨its,r,p,z⟩:=I.tupleX h; ⟨its,r,p.up,z⟩
theorem Inv.list_inj(I:Inv X pins σ H s)(h:SqL X.K H a xs)(h':SqL X.K H a ys): xs=ys:=by
 obtain⟨its,r,⟨o,n,e,_,_,d⟩,_⟩:=I.list h;obtain⟨its',r',⟨o',n',e',_,_,d'⟩,_⟩:=I.list h';rw [e] at e';cases e';rw [d] at d';injection d' with d1 _
 have:its=its':=by simpa using uy Array.toList d1
 subst this;exact r.inj r'
theorem Inv.tuple_inj(I:Inv X pins σ H s)(h:SqT X.K H a xs)(h':SqT X.K H a ys): xs=ys:=by
 obtain⟨its,r,⟨o,e,_,n,d⟩,_⟩:=I.tuple h;obtain⟨its',r',⟨o',e',_,n',d'⟩,_⟩:=I.tuple h';rw [e] at e';cases e';rw [d] at d';injection d' with d1 _
 have:its=its':=by simpa using uy Array.toList d1
 subst this;exact r.inj r'
end
abbrev Cx.wish(X:Cx)(E:Value->Shared->Prop): Cx:={X with xe:=E}
abbrev Cx.nox(X:Cx): Cx:=X.wish fun _ _=>False
theorem Cx.Ok.wish{X:Cx}(ok:X.Ok)(E:Value->Shared->Prop): (X.wish E).Ok:=
 ⟨ok.mod,ok.kind,ok.glob,ok.blt,ok.above,ok.inj,ok.has,ok.cab,ok.hd,ok.frames,ok.stk,ok.exf,ok.bs,ok.bsz,ok.noex,ok.exfs,ok.funs,ok.frf⟩
theorem Cx.Ok.unwish{X:Cx}{E:Value->Shared->Prop}(ok:(X.wish E).Ok): X.Ok:=
 ⟨ok.mod,ok.kind,ok.glob,ok.blt,ok.above,ok.inj,ok.has,ok.cab,ok.hd,ok.frames,ok.stk,ok.exf,ok.bs,ok.bsz,ok.noex,ok.exfs,ok.funs,ok.frf⟩
section
variable{X:Cx}{pins:List (Addr×Obj)}{σ : St}{H:Hp}{s:Shared}{E:Value->Shared->Prop}
theorem Inv.wish(I:Inv X pins σ H s)(E:Value->Shared->Prop): Inv (X.wish E) pins σ H s:=⟨I.ok.wish E,I.os,I.bare,I.base,I.loc,I.cell,I.free,I.freeC,I.pin,I.hok,I.len⟩
theorem Inv.unwish(I:Inv (X.wish E) pins σ H s): Inv X pins σ H s:=⟨I.ok.unwish,I.os,I.bare,I.base,I.loc,I.cell,I.free,I.freeC,I.pin,I.hok,I.len⟩
theorem SP.unwish{D:Ends}{f:Flow}{s':Shared}(h:SP (X.wish E) pins D f s'): SP X pins D f s':=by
 cases f with
 | next=>obtain⟨σ',H',I,q⟩:=h;exact⟨σ',H',I.unwish,q⟩
 | brk=>obtain⟨σ',H',I,q⟩:=h;exact⟨σ',H',I.unwish,q⟩
 | cont=>obtain⟨σ',H',I,q⟩:=h;exact⟨σ',H',I.unwish,q⟩
 | ret u=>obtain⟨v, σ',H',I,r,q⟩:=h;exact⟨v, σ',H',I.unwish,r,q⟩
theorem PE.nox{e:Expr}{t:TE}(h:PE X.nox e t): PE X e t:=fun pins s σ H Q I hw=>
 t7 (h pins s σ H Q (I.wish _) hw) (fun _ _ ⟨v,H',I',r,q⟩=>⟨v,H',I'.unwish,r,q⟩) fun _ _ z=>False.elim z
theorem PSs.nox{st:List Stmt}{t:TS}(h:PSs X.nox st t): PSs X st t:=fun pins s σ H D I hw=>
 t7 (h pins s σ H D (I.wish _) hw) (fun _ _ q=>q.unwish) fun _ _ z=>False.elim z
end
section
variable{X:Cx}{st:Stmt}{rest:List Stmt}{t u:TS}{e:Expr}{te:TE}{pos:Pos}
def tNext:TS:=fun D σ H=>D.nx σ H
def qou(t u:TS): TS:=fun D σ H=>t {D with nx:=u D} σ H
theorem qj2:PSs X [] tNext:=fun _ _ σ H _ I h=>g3x ⟨σ,H,I,h⟩
theorem qgf(h1:PS X st t)(h2:PSs X rest u): PSs X (st :: rest) (qou t u):=by
 intro pins s σ H D I h;refine wpAny_execs_cons (thn (h1 pins s σ H {D with nx:=u D} I h) fun f s1 q=>?_);cases f with
 | next=>
  obtain⟨σ',H',I',q⟩:=q;exact h2 pins s1 σ' H' D I' q
 | ret v=>exact q
 | brk=>exact q
 | cont=>exact q
theorem qj3(h1:PS X st t): PSs X [st] t:=by
 intro pins s σ H D I h;refine wpAny_execs_cons (thn (h1 pins s σ H D I h) fun f s1 q=>?_);cases f with
 | next=>exact g3x q
 | ret v=>exact q
 | brk=>exact q
 | cont=>exact q
theorem Inv.quiet{pins:List (Addr×Obj)}{σ : St}{H:Hp}{s:Shared}(I:Inv X pins σ H s): interactive X.env=false:=by simp [interactive,I.ok.kind]
def qns(te:TE): TS:=fun D σ H=>te σ H fun _ H1=>D.nx σ H1
theorem q4g(he:PE X e te)(hs:swapsWith e none pos.line X.env=pure false:=by rfl): PS X (.Expr e pos) (qns te):=by
 intro pins s σ H D I h;exact wpAny_Expr_any (thn (he pins s σ H _ I h) fun v s1 ⟨x,H1,I1,r1,q1⟩=>⟨σ,H1,I1,q1⟩) I.quiet hs
def qov(te:TE): TS:=fun D σ H=>te σ H D.rt
theorem qlm(he:PE X e te): PS X (.Return (some e) pos) (qov te):=by
 intro pins s σ H D I h;exact wpAny_Return_some (thn (he pins s σ H _ I h) fun v s1 ⟨x,H1,I1,r1,q1⟩=>⟨x, σ,H1,I1,r1,q1⟩)
def qow(c:TT)(t u:TS): TS:=fun D σ H=>c σ H fun b H1=>if b=true then t D σ H1 else u D σ H1
theorem qnt{c:Expr}{a b:List Stmt}{tc:TT}(hc:PT X c tc)(ha:PSs X a t)(hb:PSs X b u): PS X (.If c a b pos) (qow tc t u):=by
 intro pins s σ H D I h;refine wpAny_If (thn (hc pins s σ H _ I h) fun d s1 ⟨H1,I1,q1⟩=>?_);cases d with
 | true=>exact ha pins s1 σ H1 D I1 q1
 | false=>exact hb pins s1 σ H1 D I1 q1
end
abbrev TG:=V->St->Hp->(St->Hp->Prop)->Prop
abbrev TGs:=List V->St->Hp->(St->Hp->Prop)->Prop
def PG(X:Cx)(target:Expr)(t:TG): Prop:=
 ∀(pins:List (Addr×Obj)) (s:Shared) (σ : St) (H:Hp) (v:V) (u:Value) (Q:St->Hp->Prop),Inv X pins σ H s->RelV v u->t v σ H Q ->
  wpAny (model X.prog X.w) X.A (assign target X.env u) (fun _ s'=>∃ σ' H',Inv X pins σ' H' s'/\Q σ' H') X.xe s
def PGs(X:Cx)(ts:List Expr)(t:TGs): Prop:=
 ∀(pins:List (Addr×Obj)) (s:Shared) (σ : St) (H:Hp) (vs:List V) (us:List Value) (Q:St->Hp->Prop),Inv X pins σ H s->Vals vs us->t vs σ H Q ->
  wpAny (model X.prog X.w) X.A (assignInOrder ((assignEach ts X.env).map (·.2)) us) (fun _ s'=>∃ σ' H',Inv X pins σ' H' s'/\Q σ' H') X.xe s
section
variable{X:Cx}{pos:Pos}
def q4h(i:Nat): TG:=fun v σ H Q=>Q (σ.set i (some v)) H
theorem qj4{i:Nat}{x:Str}(hN:X.N.Nodup)(hi:X.N[i]? = some x)(hx:Loc X.env.scope x)(hf:X.fn x=true\/X.env.scope.names.lookup x=some .local:=by first|exact .inl rfl|exact .inr rfl|assumption): PG X (.Name x pos) (q4h i):=by
 intro pins s σ H v u Q I r h;exact wpAny_assign_Name (q59 I hN hi hx r (fun s' I'=>⟨_,H,I',h⟩) hf)
def gNil:TGs:=fun vs σ H Q=>vs=[]/\Q σ H
def qnu(t:TG)(u:TGs): TGs:=fun vs σ H Q=>∃v r,vs=v :: r/\t v σ H fun σ' H'=>u r σ' H' Q
theorem qj5:PGs X [] gNil:=by
 intro pins s σ H vs us Q I r h;obtain⟨e,h⟩:=h;subst e;cases r;exact assignInOrder_nil ⟨σ,H,I,h⟩
theorem qgg{e:Expr}{es:List Expr}{t:TG}{u:TGs}(h1:PG X e t)(h2:PGs X es u)
  (hs:(assignEach (e :: es) X.env).map (·.2)=assign e X.env :: (assignEach es X.env).map (·.2):=by rfl):PGs X (e :: es) (qnu t u):=by
 intro pins s σ H vs us Q I r h;obtain⟨v,vr,e1,h⟩:=h;subst e1;cases r with
 | cons r rr=>
  rw [hs];refine assignInOrder_cons (thn (h1 pins s σ H _ _ _ I r h) fun _ s1 ⟨σ1,H1,I1,q1⟩=>?_);exact h2 pins s1 σ1 H1 _ _ Q I1 rr q1
def qox(K:PySem.W.Frag)(n:Nat)(t:TGs): TG:=fun v σ H Q=>∃a xs,v=.ref a/\SqT K H a xs/\xs.length=n/\t xs σ H Q
theorem qln{es:List Expr}{k:Nat}{t:TGs}{n:Nat}(hc:X.calm=true)(h:PGs X es t)
  (hn:(assignEach es X.env).length=n:=by rfl) (hst:(assignEach es X.env).findIdx? (·.1)=none:=by rfl):PG X (.Tuple es k pos) (qox X.K n t):=by
 intro pins s σ H v u Q I r hw;obtain⟨a,xs,e1,hq,hl,hw⟩:=hw;subst e1;cases r;obtain⟨its,rv,ht,hz⟩:=I.tuple hq;refine assign_Tuple_tuple (I.ok.hd hc) ht (by simp [hn, <- hl,rv.length]) hst fun h' hx=>?_;have I1:Inv X pins σ H {s with heap:=h'}:=I.kept (t':=s.toks) fun b o e=>hx b o (mn (m8 e)) e;exact h pins _ σ H xs _ Q I1 (by simpa using rv) hw
def qlo(te:TE)(g:TG): TS:=fun D σ H=>te σ H fun x H1=>g x σ H1 D.nx
theorem q90{i:Nat}{x:Str}{e:Expr}{te:TE}{pos':Pos}(hN:X.N.Nodup)(hi:X.N[i]? = some x)(hx:Loc X.env.scope x)(he:PE X e te)(hs:swapsWith e (some (.Name x pos')) pos.line X.env=pure false:=by rfl)(hf:X.fn x=true\/X.env.scope.names.lookup x=some .local:=by first|exact .inl rfl|exact .inr rfl|assumption):
  PS X (.Assign [.Name x pos'] e pos) (qlo te (q4h i)):=by
 intro pins s σ H D I h;refine wpAny_Assign_Name (thn (he pins s σ H _ I h) fun v s1 ⟨y,H1,I1,r1,q1⟩=>?_) hs;exact q59 I1 hN hi hx r1 (fun s2 I2=>⟨_,H1,I2,q1⟩) hf
end
section
variable{X:Cx}{pos:Pos}
end
structure It where
 go:Nat->Hp->Prop
 yld:Nat->Hp->V->Hp->Prop
 stop:Nat->Hp->Prop
def ko(X:Cx)(pins:List (Addr×Obj))(H:Hp)(b:Addr): Prop:=
 H b=none/\b≠X.env.locals/\b∉X.fs/\(b∈X.ex\/X.s₀.heap.objs.size<=b)/\(∀x c,X.env.cells.lookup x=some c->c≠b)/\∀p∈X.pn++pins,p.1≠b
theorem Inv.fpOk{X:Cx}{pins:List (Addr×Obj)}{σ : St}{H H':Hp}{s:Shared}{b:Addr}(I:Inv X pins σ H s)(hb:s.heap.objs.size<=b)(hn:H' b=none): ko X pins H' b:=by
 refine⟨hn,g03 (mf I.lt hb),I.nofs hb,.inr (ml I.sz hb),fun x c e z=>?_,fun p hp z=>?_⟩
 ·obtain⟨v,q⟩:=I.cell x c e
  exact absurd (mf q.lt (by rw [z];exact hb)) (g0d _)
 ·exact absurd (mf (m8 (I.pin p hp).1) (by rw [z];exact hb)) (g0d _)
structure Turn(P:Program)(w:World)(K:PySem.W.Frag)(tg:Expr)(J:It)(fp:List Addr)(it:Addr)(tn:Nat->Heap->Prop): Prop where
 mem:it∈fp
 obj:∀i h,tn i h->∀b∈fp,∃o,h.get? b=some o/\∀v,o.data ≠ .cell v
 keep:∀i h h',tn i h->(∀b∈fp,∀o,h.get? b=some o->h'.get? b=some o)->tn i h'
 item:∀(X:Cx),X.prog=P->X.w=w->X.K=K->X.calm=true->∀(i:Nat) (pins:List (Addr×Obj)) (s:Shared) (σ : St) (H:Hp) (E:Value->Shared->Prop),Inv X pins σ H s->(∀b∈fp,ko X pins H b)->tn i s.heap->J.go i H ->
  wpAny (model P w) X.A (pyNext (.ref it)) (fun r s1=>∃u,r=some u /\
   wpAny (model P w) X.A (letOwnedTupleGo tg (.ref it) u) (fun _ s2=>∃x H',Inv X pins σ H' s2/\RelV x u/\J.yld i H x H'/\tn (i+1) s2.heap/\∀b∈fp,H' b=none) E s1) E s
 done:∀(X:Cx),X.prog=P->X.w=w->X.K=K->X.calm=true->∀(i:Nat) (pins:List (Addr×Obj)) (s:Shared) (σ : St) (H:Hp) (E:Value->Shared->Prop),Inv X pins σ H s->(∀b∈fp,ko X pins H b)->tn i s.heap->J.stop i H ->
  wpAny (model P w) X.A (pyNext (.ref it)) (fun r s1=>r=none/\Inv X pins σ H s1) E s
 self:∀(A:Around) (i:Nat) (s:Shared) (Q:Value->Shared->Prop) (E:Value->Shared->Prop),tn i s.heap->Q (.ref it) s->wpAny (model P w) A (pyIter (.ref it)) Q E s
abbrev TI:=St->Hp->(It->Hp->Prop)->Prop
def PIE(X:Cx)(pins:List (Addr×Obj))(σ : St)(tg:Expr)(R:It->Hp->Prop)(itv:Value)(s2:Shared): Prop:=
 ∃(it:Addr) (fp:List Addr) (tn:Nat->Heap->Prop) (J:It) (H':Hp),itv=.ref it/\Inv X pins σ H' s2/\Turn X.prog X.w X.K tg J fp it tn/\tn 0 s2.heap/\(∀b∈fp,ko X pins H' b)/\R J H'
def PI(X:Cx)(tg iter:Expr)(wi:TI): Prop:=
 ∀(pins:List (Addr×Obj)) (s:Shared) (σ : St) (H:Hp) (R:It->Hp->Prop),Inv X pins σ H s->wi σ H R ->
  wpAny (model X.prog X.w) X.A (eval iter X.env) (fun v s1=>wpAny (model X.prog X.w) X.A (pyIter v) (PIE X pins σ tg R) X.xe s1) X.xe s
theorem qd3{M:Model}{A:Around}{E:Value->Shared->Prop}{s:Shared}{tg:Expr}{it:Addr}{u:Value}{o:Obj}{n:String}{vs:Array Value}{Q:Unit->Shared->Prop}(ho:s.heap.get? it=some o)(hc:o.cls=.type n)(hd:o.data=.fields vs)
  (hn:["enumerate","zip","dict_itemiterator","dict_reverseitemiterator","odict_iterator","itertools.zip_longest","itertools.pairwise"].contains n=false) (hQ:Q () s):wpAny M A (letOwnedTupleGo tg (.ref it) u) Q E s:=by
 unfold letOwnedTupleGo;cases tg <;> first
  | exact gh hQ
  | (cases u <;> first
    | exact gh hQ
    | (refine g0 (wpAny_load ho ?_);rw [hc,hd];show wpAny M A (if(["enumerate","zip","dict_itemiterator","dict_reverseitemiterator","odict_iterator","itertools.zip_longest","itertools.pairwise"].contains n&&vs[0]? == some (rawInt _))=true then _ else _) Q E s;rw [m9 (by intro h;rw [hn,Bool.false_and] at h;cases h)];exact gh hQ))
def Itl(K:PySem.W.Frag)(a:Addr): It:=
 ⟨fun i H=>∃xs x,SqL K H a xs/\xs[i]? = some x,fun i H x H'=>H'=H/\∀xs,SqL K H a xs->xs[i]? = some x,fun i H=>∃xs,SqL K H a xs/\xs.length<=i⟩
def Itt(K:PySem.W.Frag)(a:Addr): It:=
 ⟨fun i H=>∃xs x,SqT K H a xs/\xs[i]? = some x,fun i H x H'=>H'=H/\∀xs,SqT K H a xs->xs[i]? = some x,fun i H=>∃xs,SqT K H a xs/\xs.length<=i⟩
def Itr(lo:Int)(n:Nat): It:=⟨fun i _=>i<n,fun i H x H'=>H'=H/\x=.int (lo+i),fun i _=>n<=i⟩
theorem qel{P:Program}{w:World}{K:PySem.W.Frag}{tg:Expr}(a it:Addr): Turn P w K tg (Itl K a) [it] it (fun i h=>h.IsListIter it a i) where
 mem:=by simp
 obj:=fun i h st b hb=>by
  have e:b=it:=by simpa using hb
  subst e;obtain⟨o,e,c,d⟩:=st;exact⟨o,e,fun v z=>by rw [d] at z;cases z⟩
 keep:=fun i h h' st k=>st.at fun o e=>k it (by simp) o e
 item:=by
  intro X hP hw hK hc i pins s σ H E I hf st hg;subst hP hw hK;obtain⟨xs,x,hq,hx⟩:=hg;obtain⟨its,rv,p,hz⟩:=I.list hq;obtain⟨u,hu,ru⟩:=rv.get hx;obtain⟨f0,f1,f2,f3,f4,f5⟩:=hf it (by simp);refine wpAny_pyNext_list_item st p.isList (x:=u) (by simpa using hu) fun h' st' sb=>?_;have I1:Inv X pins σ H {s with heap:=h'}:=I.turned (t':=s.toks) (fun b o hb e=>(sb.2 b hb).trans e) f0 f1 f3 f4 f5;obtain⟨o,e,c,d⟩:=id st';exact⟨u,rfl,qd3 (s:={s with heap:=h'}) e c d (by decide) ⟨x,H,I1,ru,⟨rfl,fun ys hy=>by rw [I.list_inj hy hq];exact hx⟩,st',fun b hb=>(hf b hb).1⟩⟩
 done:=by
  intro X hP hw hK hc i pins s σ H E I hf st hg;subst hP hw hK;obtain⟨xs,hq,hx⟩:=hg;obtain⟨its,rv,p,hz⟩:=I.list hq;obtain⟨f0,f1,f2,f3,f4,f5⟩:=hf it (by simp);have hl:=rv.length;exact wpAny_pyNext_list_end (I.ok.hd hc) st p.isList (by simp;omega) fun h' eb=>⟨rfl,I.turned (t':=s.toks) (fun b o hb e=>eb b o hb e) f0 f1 f3 f4 f5⟩
 self:=fun _ _ _ _ _ st h=>wpAny_pyIter_listiter st h
theorem qd4{P:Program}{w:World}{K:PySem.W.Frag}{tg:Expr}(a it:Addr): Turn P w K tg (Itt K a) [it] it (fun i h=>h.IsTupleIter it a i) where
 mem:=by simp
 obj:=fun i h st b hb=>by
  have e:b=it:=by simpa using hb
  subst e;obtain⟨o,e,c,d⟩:=st;exact⟨o,e,fun v z=>by rw [d] at z;cases z⟩
 keep:=fun i h h' st k=>st.at fun o e=>k it (by simp) o e
 item:=by
  intro X hP hw hK hc i pins s σ H E I hf st hg;subst hP hw hK;obtain⟨xs,x,hq,hx⟩:=hg;obtain⟨its,rv,p,hz⟩:=I.tuple hq;obtain⟨u,hu,ru⟩:=rv.get hx;obtain⟨f0,f1,f2,f3,f4,f5⟩:=hf it (by simp);refine wpAny_pyNext_tuple_item st (show s.heap.IsTuple a its.toArray from p) (x:=u) (by simpa using hu) fun h' st' sb=>?_;have I1:Inv X pins σ H {s with heap:=h'}:=I.turned (t':=s.toks) (fun b o hb e=>(sb.2 b hb).trans e) f0 f1 f3 f4 f5;obtain⟨o,e,c,d⟩:=id st';exact⟨u,rfl,qd3 (s:={s with heap:=h'}) e c d (by decide) ⟨x,H,I1,ru,⟨rfl,fun ys hy=>by rw [I.tuple_inj hy hq];exact hx⟩,st',fun b hb=>(hf b hb).1⟩⟩
 done:=by
  intro X hP hw hK hc i pins s σ H E I hf st hg;subst hP hw hK;obtain⟨xs,hq,hx⟩:=hg;obtain⟨its,rv,p,hz⟩:=I.tuple hq;obtain⟨f0,f1,f2,f3,f4,f5⟩:=hf it (by simp);have hl:=rv.length;exact wpAny_pyNext_tuple_end (I.ok.hd hc) st (show s.heap.IsTuple a its.toArray from p) (by simp;omega) fun h' eb=>⟨rfl,I.turned (t':=s.toks) (fun b o hb e=>eb b o hb e) f0 f1 f3 f4 f5⟩
 self:=fun _ _ _ _ _ st h=>wpAny_pyIter_tupleiter st h
theorem qd5{P:Program}{w:World}{K:PySem.W.Frag}{tg:Expr}(it:Addr)(lo:Int)(n:Nat): Turn P w K tg (Itr lo n) [it] it (fun i h=>IsRangeIter h it (lo+(i:Nat)*1) ((n:Int)-(i:Nat)) 1) where
 mem:=by simp
 obj:=fun i h st b hb=>by
  have e:b=it:=by simpa using hb
  subst e;exact⟨_,st,fun v z=>by
   have z':Data.fields _=Data.cell v:=z;cases z'⟩
 keep:=fun i h h' st k=>k it (by simp) _ st
 item:=by
  intro X hP hw hK hc i pins s σ H E I hf st hg;subst hP hw hK;obtain⟨f0,f1,f2,f3,f4,f5⟩:=hf it (by simp);have W:=Walks.range (prog:=X.prog) (w:=X.w) (I.ok.hd hc) it lo 1 n;refine W.item i s _ _ hg st fun v h' tk hv st' kk=>?_;obtain⟨t,rfl⟩:=hv;have I1:Inv X pins σ H {s with heap:=h',toks:=tk}:=I.turned (fun b o hb e=>kk b o (by simpa using hb) e) f0 f1 f3 f4 f5;refine⟨_,rfl,qd3 (s:={s with heap:=h',toks:=tk}) (n:="range_iterator") st' rfl rfl (by decide) ⟨.int (lo+i),H,I1,⟨t,?_⟩,⟨rfl,rfl⟩,st',fun b hb=>(hf b hb).1⟩⟩;rw [Int.mul_one]
 done:=by
  intro X hP hw hK hc i pins s σ H E I hf st hg;subst hP hw hK;obtain⟨f0,f1,f2,f3,f4,f5⟩:=hf it (by simp);exact wpAny_pyNext_range_end (I.ok.hd hc) st (by have:n<=i:=hg;omega) fun h' eb=>⟨rfl,I.turned (t':=s.toks) (fun b o hb e=>eb b o hb e) f0 f1 f3 f4 f5⟩
 self:=fun _ _ _ _ _ st h=>wpAny_pyIter_rangeiter st h
section
variable{X:Cx}{tg:Expr}
theorem q91{pins:List (Addr×Obj)}{σ : St}{H:Hp}{s:Shared}{R:It->Hp->Prop}{E:Value->Shared->Prop}{lo hi:Int}{t u v:Tok}{tk:Nat}(I:Inv X pins σ H s)(h1 : -(2 ^ 62)<=lo)(h2:lo<2 ^ 62)(h3 : -(2 ^ 62)<=hi)(h4:hi<2 ^ 62)
  (q:R (Itr lo (hi-lo).toNat) H):wpAny (model X.prog X.w) X.A (pyIter (.ref s.heap.objs.size)) (PIE X pins σ tg R) E {s with heap:=s.heap.push {cls:=.type "range",data:=.fields #[.int lo t,.int hi u,.int 1 v]},toks:=tk}:=by
 refine wpAny_pyIter_range (IsRange.new ..) (small_one h1 h2 h3 h4) ?_;have I1:Inv X pins σ H {s with heap:=s.heap.push {cls:=.type "range",data:=.fields #[.int lo t,.int hi u,.int 1 v]},toks:=tk}:=I.kept fun b o e=>g9 _ e;refine⟨(s.heap.push {cls:=.type "range",data:=.fields #[.int lo t,.int hi u,.int 1 v]}).objs.size,[(s.heap.push {cls:=.type "range",data:=.fields #[.int lo t,.int hi u,.int 1 v]}).objs.size],_,_,H,rfl,
  I1.kept (t':=tk) fun b o e=>g9 _ e,qd5 _ lo (hi-lo).toNat,?_,fun b hb=>?_,q⟩
 ·have e1:lo+((0:Nat):Int)*1=lo:=by simp
  have e2:(((hi-lo).toNat:Nat):Int)-((0:Nat):Int)=Builtin.Range.rangeSize lo hi 1:=by rw [rangeSize_one];split <;> omega
  show IsRangeIter _ _ (lo+((0:Nat):Int)*1) ((((hi-lo).toNat:Nat):Int)-((0:Nat):Int)) 1;rw [e1,e2];exact ma _ rfl
 ·have e:b=(s.heap.push {cls:=.type "range",data:=.fields #[.int lo t,.int hi u,.int 1 v]}).objs.size:=by simpa using hb
  subst e;exact I1.fpOk (gu _) (I1.hok.fresh (gu _))
def qnv(ta:TA): TI:=fun σ H R=>ta σ H fun vs H1=>∃j:Int,vs=[.int j] /\ -(2 ^ 62)<=j/\j<2 ^ 62/\R (Itr 0 j.toNat) H1
def qnw(ta:TA): TI:=fun σ H R=>ta σ H fun vs H1=>∃i j:Int,vs=[.int i,.int j]/\(-(2 ^ 62)<=i/\i<2 ^ 62 /\ -(2 ^ 62)<=j/\j<2 ^ 62)/\R (Itr i (j-i).toNat) H1
theorem qem{a:Expr}{ta:TA}{p pos:Pos}(hg:Gl X "range")(hm:X.mg "range" = none)(ha:PA X [a] ta)(hs:starEach [a] X.env=[(false,eval a X.env)]:=by rfl): PI X tg (.Call (.Name "range" p) [a] [] pos) (qnv ta):=by
 intro pins s σ H R I h;refine Call_ (q15 I hg hm boot_range (g0i (thn (ha pos pins s σ H _ I h) fun us s1 ⟨vs,H1,I1,r1,q1⟩=>?_) hs rfl));obtain⟨j,e,q1,q2,q⟩:=q1;subst e;cases r1 with
 | cons r rr=>
  cases rr;obtain⟨t,rfl⟩:=r;exact call_range_1 (q91 I1 (by omega) (by omega) q1 q2 (by simpa using q))
theorem qen{a b:Expr}{ta:TA}{p pos:Pos}(hg:Gl X "range")(hm:X.mg "range" = none)(ha:PA X [a,b] ta)(hs:starEach [a,b] X.env=[(false,eval a X.env),(false,eval b X.env)]:=by rfl)(hs2:starEach [b] X.env=[(false,eval b X.env)]:=by rfl):
  PI X tg (.Call (.Name "range" p) [a,b] [] pos) (qnw ta):=by
 intro pins s σ H R I h;refine Call_ (q15 I hg hm boot_range (g0i (thn (ha pos pins s σ H _ I h) fun us s1 ⟨vs,H1,I1,r1,q1⟩=>?_) (by rw [hs,hs2]) (by rw [hs2];rfl)));obtain⟨i,j,e,⟨q1,q2,q3,q4⟩,q⟩:=q1;subst e;cases r1 with
 | cons r rr=>
  cases rr with
  | cons r' rr=>
   cases rr;obtain⟨t,rfl⟩:=r;obtain⟨t',rfl⟩:=r';exact call_range_2 (q91 I1 q1 q2 q3 q4 q)
def qoy(wi:TI)(g:TG)(tb:TS): TS:=fun D σ H=>wi σ H fun J H1=>∃W:Nat->Nat->St->Hp->Prop,(∃m,W 0 m σ H1)/\∀i m σ H,W i m σ H ->
 (J.stop i H/\D.nx σ H)\/(J.go i H/\∃N:St->Hp->Prop,(∀ σ' H',N σ' H'->∃m',m'<m/\W (i+1) m' σ' H')/\∀x H',J.yld i H x H'->g x σ H' fun σ2 H2=>tb {D with nx:=N,ct:=N,bk:=D.nx} σ2 H2)
def q24(fp:List Addr)(h:Heap): List (Addr×Obj):=fp.filterMap fun b=>(h.get? b).map fun o=>(b,o)
theorem q0x{fp:List Addr}{h:Heap}{b:Addr}{o:Obj}(hb:b∈fp)(e:h.get? b=some o): (b,o)∈q24 fp h:=g1k.mpr ⟨b,hb,by rw [e];rfl⟩
theorem qeo{fp:List Addr}{h:Heap}{p:Addr×Obj}(hp:p∈q24 fp h): p.1∈fp/\h.get? p.1=some p.2:=by
 obtain⟨b,hb,e⟩:=g1k.mp hp;cases q:h.get? b with
 | none=>rw [q] at e;cases e
 | some o=>
  rw [q] at e;have e':(b,o)=p:=m6 e;subst e';exact⟨hb,q⟩
theorem Inv.pinned{pins:List (Addr×Obj)}{σ : St}{H:Hp}{s:Shared}{fp:List Addr}(I:Inv X pins σ H s)(hf:∀b∈fp,ko X pins H b)(ho:∀b∈fp,∃o,s.heap.get? b=some o/\∀v,o.data ≠ .cell v): Inv X (pins++q24 fp s.heap) σ H s:=
 I.pins_of fun p hp=>(pb.mp hp).elim (fun z=>I.pin p (nj _ z)) fun z=>by
  obtain⟨hb,e⟩:=qeo z;obtain⟨f0,f1,f2,_⟩:=hf p.1 hb;obtain⟨o,e',d⟩:=ho p.1 hb;rw [e] at e';cases e';exact⟨e,f0,f1,f2,d⟩
theorem Inv.unpinned{pins pl:List (Addr×Obj)}{σ : St}{H:Hp}{s:Shared}(I:Inv X (pins++pl) σ H s): Inv X pins σ H s:=I.pins_of fun p hp=>I.pin p (nj _ (g2c _ hp))
theorem qlp{iter:Expr}{body:List Stmt}{wi:TI}{g:TG}{tb:TS}{pos:Pos}(hp:PassesOwn (model X.prog X.w) X.A X.env X.xe)(hc:X.calm=true)(hi:PI X tg iter wi)(hg:PG X tg g)(hb:PSs X body tb)
  (hs:∀x,foldedSetIterable iter X.env x=pure x:=by intro _;rfl):PS X (.For tg iter body [] pos) (qoy wi g tb):=by
 intro pins s σ H D I h;refine wpAny_For (thn (hi pins s σ H _ I h) fun v s1 h1=>thn h1 fun itv s2 h2=>?_) hs;obtain⟨it,fp,tn,J,H2,e,I2,T,st2,f2,W,⟨m0,w0⟩,turn⟩:=h2;subst e
 -- what stays true of the iterator's objects through the loop
 have stat:∀ {H':Hp},(∀b∈fp,H' b=none)->∀b∈fp,ko X pins H' b:=fun hn b hb=>⟨hn b hb,(f2 b hb).2⟩
 refine codeAny_forLoop_any (fun n s'=>∃i σ' H',Inv X pins σ' H' s'/\tn i s'.heap/\(∀b∈fp,H' b=none)/\W i n σ' H') ?_ m0 ⟨0, σ,H2,I2,st2,fun b hb=>(f2 b hb).1,w0⟩
 rintro n s3 ⟨i, σ3,H3,I3,st3,fr3,w3⟩
 rcases turn i n σ3 H3 w3 with⟨stop,qn⟩|⟨go,N,hN,step⟩
 ·refine g1g hp (thn (T.done X rfl rfl rfl hc i pins s3 σ3 H3 X.xe I3 (stat fr3) st3 stop) fun r s4 ⟨hr,I4⟩=>?_)
  subst hr;exact g3x ⟨σ3,H3,I4,qn⟩
 ·refine g1g hp (thn (T.item X rfl rfl rfl hc i pins s3 σ3 H3 X.xe I3 (stat fr3) st3 go) fun r s4 ⟨u,hr,h4⟩=>?_)
  subst hr;refine g1g hp (thn h4 fun _ s5 ⟨x,H5,I5,r5,y5,st5,fr5⟩=>?_);have I5':=I5.pinned (stat fr5) (T.obj _ _ st5);refine g1g hp (thn (hg _ s5 σ3 H5 x u _ I5' r5 (step x H5 y5)) fun _ s6 ⟨σ6,H6,I6,q6⟩=>?_);refine g1g hp (thn (hb _ s6 σ6 H6 _ I6 q6) fun f s7 q7=>?_);have again:∀ {σ7:St} {H7:Hp},Inv X (pins++q24 fp s5.heap) σ7 H7 s7->N σ7 H7->∃m,m<n/\∃i σ' H',Inv X pins σ' H' s7/\tn i s7.heap/\(∀b∈fp,H' b=none)/\W i m σ' H':=fun {σ7 H7} I7 n7=>by
   obtain⟨m',hm,w7⟩:=hN σ7 H7 n7;refine⟨m',hm,i+1, σ7,H7,I7.unpinned,T.keep _ _ _ st5 fun b hb o e=>(I7.pin (b,o) (nj _ (nj _ (q0x hb e)))).1,fun b hb=>?_,w7⟩;obtain⟨o,e,d⟩:=T.obj _ _ st5 b hb;exact(I7.pin (b,o) (nj _ (nj _ (q0x hb e)))).2.1
  cases f with
  | next=>obtain⟨σ7,H7,I7,n7⟩:=q7;exact again I7 n7
  | cont=>obtain⟨σ7,H7,I7,n7⟩:=q7;exact again I7 n7
  | brk=>obtain⟨σ7,H7,I7,q7⟩:=q7;exact⟨σ7,H7,I7.unpinned,q7⟩
  | ret v=>obtain⟨x7, σ7,H7,I7,r7,q7⟩:=q7;exact⟨x7, σ7,H7,I7.unpinned,r7,q7⟩
end
abbrev R2:=V->V->Hp->VK->Prop
def OpR(X:Cx)(f:Value->Value->Sem Value)(r:R2): Prop:=
 ∀(pins:List (Addr×Obj)) (s:Shared) (σ : St) (H:Hp) (x y:V) (v u:Value) (Q:VK),Inv X pins σ H s->RelV x v->RelV y u->r x y H Q ->
  wpAny (model X.prog X.w) X.A (f v u) (EP X pins σ Q) X.xe s
def xf(X:Cx)(f:Value)(r:List V->Hp->VK->Prop): Prop:=
 ∀(pins:List (Addr×Obj)) (s:Shared) (σ : St) (H:Hp) (xs:List V) (us:List Value) (Q:VK),Inv X pins σ H s->Vals xs us->r xs H Q ->
  wpAny (model X.prog X.w) X.A (call f us) (EP X pins σ Q) X.xe s
def qoz(X:Cx)(r:V->Hp->(Bool->Hp->Prop)->Prop): Prop:=
 ∀(pins:List (Addr×Obj)) (s:Shared) (σ : St) (H:Hp) (x:V) (v:Value) (Q:Bool->Hp->Prop),Inv X pins σ H s->RelV x v->r x H Q ->
  wpAny (model X.prog X.w) X.A (truthy v) (TP X pins σ Q) X.xe s
def tOp(r:R2)(ta tb:TE): TE:=fun σ H Q=>ta σ H fun x H1=>tb σ H1 fun y H2=>r x y H2 Q
def rI(C:Int->Int->Prop)(g:Int->Int->V): R2:=fun x y H Q=>∃i j,x=.int i/\y=.int j/\C i j/\Q (g i j) H
def rI0(g:Int->Int->V): R2:=fun x y H Q=>∃i j,x=.int i/\y=.int j/\Q (g i j) H
section
variable{X:Cx}{a b c:Expr}{ta tb tc:TE}{pos:Pos}
theorem qgh(ha:PE X a ta)(hb:PE X b tb){pins:List (Addr×Obj)}{s:Shared}{σ : St}{H:Hp}{R:V->V->Hp->Prop}(I:Inv X pins σ H s)
  (h:ta σ H fun x H1=>tb σ H1 fun y H2=>R x y H2) {Q:Value->Shared->Prop} {f:Value->Value->Sem Value}
  (hf:∀v u s2 x y H2,Inv X pins σ H2 s2->RelV x v->RelV y u->R x y H2->wpAny (model X.prog X.w) X.A (f v u) Q X.xe s2) :
  wpAny (model X.prog X.w) X.A (eval a X.env) (fun v s₁=>wpAny (model X.prog X.w) X.A (eval b X.env) (fun u s₂=>wpAny (model X.prog X.w) X.A (f v u) Q X.xe s₂) X.xe s₁) X.xe s:=by
 refine thn (ha pins s σ H _ I h) fun v s1 ⟨x,H1,I1,r1,q1⟩=>?_;refine thn (hb pins s1 σ H1 _ I1 q1) fun u s2 ⟨y,H2,I2,r2,q2⟩=>?_;exact hf v u s2 x y H2 I2 r1 r2 q2
theorem qnx{op:Operator}{r:R2}(ho:OpR X (binaryOp op) r)(ha:PE X a ta)(hb:PE X b tb): PE X (.BinOp a op b pos) (tOp r ta tb):=by
 intro pins s σ H Q I h;exact wpAny_BinOp (qgh ha hb I h fun v u s2 x y H2 I2 rx ry q=>ho pins s2 σ H2 x y v u Q I2 rx ry q)
theorem opI{f:Value->Value->Sem Value}{C:Int->Int->Prop}{g:Int->Int->Int}
  (rule:∀(i j:Int) (t u:Tok) (s:Shared) (Q:Value->Shared->Prop) (E:Value->Shared->Prop),C i j->Q (.int (g i j) s.toks) {s with toks:=s.toks+1}->wpAny (model X.prog X.w) X.A (f (.int i t) (.int j u)) Q E s) :
  OpR X f (rI C fun i j=>.int (g i j)):=by
 intro pins s σ H x y v u Q I rx ry h;obtain⟨i,j,rfl,rfl,hc,q⟩:=h;obtain⟨t,rfl⟩:=rx;obtain⟨t',rfl⟩:=ry;exact rule i j t t' s _ _ hc ⟨.int (g i j),H,I.tok _,⟨_,rfl⟩,q⟩
theorem qd6{f:Value->Value->Sem Value}{g:Int->Int->Int}
  (rule:∀(i j:Int) (t u:Tok) (s:Shared) (Q:Value->Shared->Prop) (E:Value->Shared->Prop),Q (.int (g i j) s.toks) {s with toks:=s.toks+1}->wpAny (model X.prog X.w) X.A (f (.int i t) (.int j u)) Q E s) :
  OpR X f (rI0 fun i j=>.int (g i j)):=by
 intro pins s σ H x y v u Q I rx ry h;obtain⟨i,j,rfl,rfl,q⟩:=h;obtain⟨t,rfl⟩:=rx;obtain⟨t',rfl⟩:=ry;exact rule i j t t' s _ _ ⟨.int (g i j),H,I.tok _,⟨_,rfl⟩,q⟩
theorem qgi{f:Value->Value->Sem Value}{g:Int->Int->Bool}
  (rule:∀(i j:Int) (t u:Tok) (s:Shared) (Q:Value->Shared->Prop) (E:Value->Shared->Prop),Q (.bool (g i j)) s->wpAny (model X.prog X.w) X.A (f (.int i t) (.int j u)) Q E s) :
  OpR X f (rI0 fun i j=>.bl (g i j)):=by
 intro pins s σ H x y v u Q I rx ry h;obtain⟨i,j,rfl,rfl,q⟩:=h;obtain⟨t,rfl⟩:=rx;obtain⟨t',rfl⟩:=ry;exact rule i j t t' s _ _ ⟨.bl (g i j),H,I,rfl,q⟩
def qp0(i j:Int): Prop:=0<j/\j<1073741824
def qlq(i j:Int): Prop:=0<=j/\j<=1000000/\i.natAbs<2 ^ 64
def CMul(i j:Int): Prop:=(-(2 ^ 64)<i/\i<2 ^ 64)\/(-(2 ^ 64)<j/\j<2 ^ 64)
theorem CMul.ok{i j:Int}(h:CMul i j): IntMulOk i j:=by
 rcases h with⟨h1,h2⟩|⟨h1,h2⟩
 ·exact .of_left (intBits_le_64 h1 h2)
 ·exact .of_right (intBits_le_64 h1 h2)
theorem qd7(k:Nat): (0:Int)<=2 ^ k:=by
 rw [two_pow_cast];exact g31 _
theorem qlr:OpR X (binaryOp .Add) (rI0 fun i j=>.int (i+j)):=qd6 fun _ _ _ _ _ _ _ q=>add_int q
theorem qls:OpR X (binaryOp .Sub) (rI0 fun i j=>.int (i-j)):=qd6 fun _ _ _ _ _ _ _ q=>sub_int q
theorem qlt:OpR X (binaryOp .Mult) (rI CMul fun i j=>.int (i*j)):=opI fun _ _ _ _ _ _ _ hc q=>mul_int q hc.ok
theorem qj6:OpR X (binaryOp .FloorDiv) (rI qp0 fun i j=>.int (i / j)):=opI fun i j _ _ _ _ _ hc q=>by
 have h1:(0:Int)<j:=hc.1;have h2:j<1073741824:=hc.2;exact floordiv_int (by omega) (by rw [g39 i (by omega)];exact q) (.inl (PyProof.noPylong_small (by omega)))
theorem qlu:OpR X (binaryOp .Mod) (rI (fun _ j=>0<j) fun i j=>.int (i%j)):=opI fun i j _ _ _ _ _ hc q=>by
 have h1:(0:Int)<j:=hc;exact mod_int' (by omega) (by rw [Int.fmod_eq_emod_of_nonneg i (by omega)];exact q)
theorem qlv:OpR X (binaryOp .Pow) (rI qlq fun i j=>.int (i ^ j.toNat)):=opI fun _ _ _ _ _ _ _ hc q=>pow_int_small hc.1 hc.2.1 hc.2.2 q
theorem qlw:OpR X (binaryOp .LShift) (rI qlq fun i j=>.int (i*2 ^ j.toNat)):=opI fun _ _ _ _ _ _ _ hc q=>lshift_int_small hc.1 hc.2.1 hc.2.2 q
theorem qlx:OpR X (binaryOp .RShift) (rI (fun _ j=>0<=j) fun i j=>.int (i / 2 ^ j.toNat)):=opI fun i j _ _ _ _ _ hc q=>
 rshift_int hc (by rw [g39 i (qd7 _)];exact q)
theorem qly:OpR X (binaryOp .BitAnd) (rI0 fun i j=>.int (Builtin.bitAnd i j)):=qd6 fun _ _ _ _ _ _ _ q=>and_int q
theorem qny:OpR X (binaryOp .BitOr) (rI0 fun i j=>.int (Builtin.bitOr i j)):=qd6 fun _ _ _ _ _ _ _ q=>or_int q
end
def q77:V->V->Bool
 | .non,.non=>true | .non,.int _=>true | .int _,.non=>true | .non,.bl _=>true | .bl _,.non=>true | .non,.str _=>true | .str _,.non=>true
 | .int _,.int _=>true | .bl _,.bl _=>true | .str _,.str _=>true | .byt _,.byt _=>true
 | .int _,.str _=>true | .str _,.int _=>true | .bl _,.str _=>true | .str _,.bl _=>true
 | _,_=>false
def rEq:R2:=fun x y H Q=>q77 x y=true/\Q (.bl (decide (x=y))) H
def rNe:R2:=fun x y H Q=>q77 x y=true/\Q (.bl (!decide (x=y))) H
theorem qbr{i j:Int}: decide (V.int i=V.int j)=(i==j):=by
 rw [g0k];simp
theorem qep{i j:Bool}: decide (V.bl i=V.bl j)=(i==j):=by
 rw [g0k];simp
theorem qbs{i j:Str}: decide (V.str i=V.str j)=(i==j):=by
 rw [g0k];simp
theorem qbt{i j:Array UInt8}: decide (V.byt i=V.byt j)=(i.toList==j.toList):=by
 rw [g0k];cases i;cases j;simp
section
variable{X:Cx}{a b c:Expr}{ta tb tc:TE}{pos:Pos}
theorem zf{pins:List (Addr×Obj)}{σ : St}{H:Hp}{s:Shared}{Q:VK}{k k':Bool}(I:Inv X pins σ H s)(q:Q (.bl k) H)(e:k=k'): EP X pins σ Q (.bool k') s:=by
 subst e;exact⟨.bl k,H,I,rfl,q⟩
theorem qnz:OpR X (compareOp .Eq) rEq:=by
 intro pins s σ H x y v u Q I rx ry h;obtain⟨hs,q⟩:=h;cases x with
 | non=>
  cases rx;cases y with
  | non=>cases ry;exact PySem.EqNone.eq_none_none (zf I q (by simp))
  | bl j=>cases ry;exact PySem.EqNone.eq_none_bool (zf I q (by simp))
  | int j=>obtain⟨t',rfl⟩:=ry;exact PySem.EqNone.eq_none_int (zf I q (by simp))
  | str j=>obtain⟨t',rfl⟩:=ry;exact PySem.EqNone.eq_none_str (zf I q (by simp))
  | _=>exact absurd (show false=true from hs) gz
 | bl i=>
  cases rx;cases y with
  | non=>cases ry;exact PySem.EqNone.eq_bool_none (zf I q (by simp))
  | bl j=>cases ry;exact eq_bool (zf I q qep)
  | str j=>obtain⟨t',rfl⟩:=ry;exact PySem.EqMixed.eq_bool_str (zf I q (by simp))
  | _=>exact absurd (show false=true from hs) gz
 | int i=>
  obtain⟨t,rfl⟩:=rx;cases y with
  | non=>cases ry;exact PySem.EqNone.eq_int_none (zf I q (by simp))
  | int j=>obtain⟨t',rfl⟩:=ry;exact eq_int (zf I q qbr)
  | str j=>obtain⟨t',rfl⟩:=ry;exact PySem.EqMixed.eq_int_str (zf I q (by simp))
  | _=>exact absurd (show false=true from hs) gz
 | str i=>
  obtain⟨t,rfl⟩:=rx;cases y with
  | non=>cases ry;exact PySem.EqNone.eq_str_none (zf I q (by simp))
  | bl j=>cases ry;exact PySem.EqMixed.eq_str_bool (zf I q (by simp))
  | int j=>obtain⟨t',rfl⟩:=ry;exact PySem.EqMixed.eq_str_int (zf I q (by simp))
  | str j=>obtain⟨t',rfl⟩:=ry;exact eq_str (zf I q qbs)
  | _=>exact absurd (show false=true from hs) gz
 | byt i=>
  obtain⟨t,rfl⟩:=rx;cases y with
  | byt j=>obtain⟨t',rfl⟩:=ry;exact PySem.W.eq_bytes (zf I q qbt)
  | _=>exact absurd (show false=true from hs) gz
 | _=>cases y <;> exact absurd (show false=true from hs) gz
theorem qo0:OpR X (compareOp .NotEq) rNe:=by
 intro pins s σ H x y v u Q I rx ry h;obtain⟨hs,q⟩:=h;cases x with
 | non=>
  cases rx;cases y with
  | non=>cases ry;exact PySem.EqNone.ne_none_none (zf I q (by simp))
  | bl j=>cases ry;exact PySem.EqNone.ne_none_bool (zf I q (by simp))
  | int j=>obtain⟨t',rfl⟩:=ry;exact PySem.EqNone.ne_none_int (zf I q (by simp))
  | str j=>obtain⟨t',rfl⟩:=ry;exact PySem.EqNone.ne_none_str (zf I q (by simp))
  | _=>exact absurd (show false=true from hs) gz
 | bl i=>
  cases rx;cases y with
  | non=>cases ry;exact PySem.EqNone.ne_bool_none (zf I q (by simp))
  | bl j=>cases ry;exact ne_bool (zf I q (uy not qep))
  | str j=>obtain⟨t',rfl⟩:=ry;exact PySem.EqMixed.ne_bool_str (zf I q (by simp))
  | _=>exact absurd (show false=true from hs) gz
 | int i=>
  obtain⟨t,rfl⟩:=rx;cases y with
  | non=>cases ry;exact PySem.EqNone.ne_int_none (zf I q (by simp))
  | int j=>obtain⟨t',rfl⟩:=ry;exact ne_int (zf I q (uy not qbr))
  | str j=>obtain⟨t',rfl⟩:=ry;exact PySem.EqMixed.ne_int_str (zf I q (by simp))
  | _=>exact absurd (show false=true from hs) gz
 | str i=>
  obtain⟨t,rfl⟩:=rx;cases y with
  | non=>cases ry;exact PySem.EqNone.ne_str_none (zf I q (by simp))
  | bl j=>cases ry;exact PySem.EqMixed.ne_str_bool (zf I q (by simp))
  | int j=>obtain⟨t',rfl⟩:=ry;exact PySem.EqMixed.ne_str_int (zf I q (by simp))
  | str j=>obtain⟨t',rfl⟩:=ry;exact ne_str (zf I q (uy not qbs))
  | _=>exact absurd (show false=true from hs) gz
 | byt i=>
  obtain⟨t,rfl⟩:=rx;cases y with
  | byt j=>obtain⟨t',rfl⟩:=ry;exact PySem.W.ne_bytes (zf I q (uy not qbt))
  | _=>exact absurd (show false=true from hs) gz
 | _=>cases y <;> exact absurd (show false=true from hs) gz
theorem qo1:OpR X (compareOp .Lt) (rI0 fun i j=>.bl (decide (i<j))):=qgi fun _ _ _ _ _ _ _ q=>lt_int q
theorem qo2:OpR X (compareOp .Gt) (rI0 fun i j=>.bl (decide (j<i))):=qgi fun _ _ _ _ _ _ _ q=>gt_int q
theorem qo3:OpR X (compareOp .GtE) (rI0 fun i j=>.bl (decide (j<=i))):=qgi fun _ _ _ _ _ _ _ q=>ge_int q
theorem qj7{op:CmpOp}{r:R2}(ho:OpR X (compareOp op) r)(ha:PE X a ta)(hb:PE X b tb)(hm:behindInMarks op b=false): PE X (.Compare a [op] [b] pos) (tOp r ta tb):=by
 intro pins s σ H Q I h;exact wpAny_Compare1 (qgh ha hb I h fun v u s2 x y H2 I2 rx ry q=>ho pins s2 σ H2 x y v u Q I2 rx ry q) hm
def qo4(t:TE): TT:=fun σ H Q=>t σ H fun x H'=>∃k,x=.bl k/\Q k H'
theorem qj8{op:CmpOp}{r:R2}(ho:OpR X (compareOp op) r)(ha:PE X a ta)(hb:PE X b tb)(hm:behindInMarks op b=false): PT X (.Compare a [op] [b] pos) (qo4 (tOp r ta tb)):=by
 intro pins s σ H Q I h;refine wpAny_isTrue_Compare1 (thn (ha pins s σ H _ I h) fun v s1 ⟨x,H1,I1,r1,q1⟩=>thn (hb pins s1 σ H1 _ I1 q1) fun u s2 ⟨y,H2,I2,r2,q2⟩=>
  thn (ho pins s2 σ H2 x y v u _ I2 r1 r2 q2) fun c s3 ⟨z,H3,I3,r3,k,e,q3⟩=>?_) hm
 subst e;cases r3;exact g1u ⟨H3,I3,q3⟩
def qgj(K:PySem.W.Frag)(x:V)(H:Hp)(k:Bool): Prop:=
 match x with
 | .non=>k=false
 | .bl b=>k=b
 | .int i=>k=(i != 0)
 | .str y=>y.length<=sizeLine/\k=((y.length:Int) != 0)
 | .byt y=>y.size<=sizeLine/\k=((y.size:Int) != 0)
 | .ref p=>(∃xs,SqL K H p xs/\k = !xs.isEmpty)\/(∃xs,SqT K H p xs/\k = !xs.isEmpty)\/∃kvs,H p=some (.dK kvs)/\k = !kvs.isEmpty
 | _=>False
theorem qd8{κ : Type}{kvs:List (κ × V)}{vs:List (κ × Value)}(r:KV kvs vs): (!vs.isEmpty) = !kvs.isEmpty:=by
 cases r <;> rfl
theorem q5v{xs:List V}{its:List Value}(r:Vals xs its): (!its.toArray.isEmpty) = !xs.isEmpty:=by
 cases r <;> simp
theorem q3a:(sizeLine:Nat)<2 ^ 63:=by rw [g42];decide
theorem qlz:qoz X (fun x H Q=>∃k,qgj X.K x H k/\Q k H):=by
 intro pins s σ H x v Q I rx h;obtain⟨k,e,q⟩:=h;have hl:=q3a;have hs:sizeLine=16777216:=g42;cases x with
 | non=>
  cases rx;have e':k=false:=e;subst e';exact truthy_none ⟨H,I,q⟩
 | bl b=>
  cases rx;have e':k=b:=e;subst e';exact g1u ⟨H,I,q⟩
 | int i=>
  obtain⟨t,rfl⟩:=rx;have e':k=(i != 0):=e;subst e';exact PySem.P.truthy_int ⟨H,I,q⟩
 | str y=>
  obtain⟨t,rfl⟩:=rx;obtain⟨hy,e'⟩:y.length<=sizeLine/\k=((y.length:Int) != 0):=e;subst e';exact PySem.P.truthy_str (by omega) ⟨H,I.tok _,q⟩
 | byt y=>
  obtain⟨t,rfl⟩:=rx;obtain⟨hy,e'⟩:y.size<=sizeLine/\k=((y.size:Int) != 0):=e;subst e';exact PySem.W.truthy_bytes (by omega) ⟨H,I.tok _,q⟩
 | ref p=>
  cases rx;have e':(∃xs,SqL X.K H p xs/\k = !xs.isEmpty)\/(∃xs,SqT X.K H p xs/\k = !xs.isEmpty)\/∃kvs,H p=some (.dK kvs)/\k = !kvs.isEmpty:=e;rcases e' with⟨xs,hx,e'⟩|⟨xs,hx,e'⟩|⟨kvs,hx,e'⟩
  ·subst e'
   obtain⟨its,r,pl,hz⟩:=I.list hx;have hlen:=r.length;exact wpAny_truthy_list pl.isList (by simp only [gf];omega) ⟨H,I.tok _,by rw [q5v r];exact q⟩
  ·subst e'
   obtain⟨its,r,pl,hz⟩:=I.tuple hx;have hlen:=r.length;exact truthy_tuple pl (by simp only [gf];omega) ⟨H,I.tok _,by rw [q5v r];exact q⟩
  ·subst e'
   obtain⟨hz,hS,vs,r,m⟩:kvs.length<=sizeLine/\(p==sysModules)=false/\∃vs,KV kvs vs/\s.heap.DictOf (mixKind X.prog X.w) p vs:=I.hok p _ hx;have hlen:kvs.length=vs.length:=g38 r;exact wpAny_truthy_dict hS m (by omega) ⟨H,I.tok _,by rw [qd8 r];exact q⟩
 | _=>exact(show False from e).elim
theorem qgk(ha:PE X a ta)(he:∀whole,isTrue a X.env whole=(do let v <- whole;standAt a.pos;holding [v] (truthy v))):
  PT X a (fun σ H Q=>ta σ H fun x H'=>∃k,qgj X.K x H' k/\Q k H'):=by
 intro pins s σ H Q I h;exact isTrue_plain (thn (ha pins s σ H _ I h) fun v s1 ⟨x,H1,I1,r1,q1⟩=>qlz pins s1 σ H1 x v Q I1 r1 q1) (he _)
theorem vals1{x:V}{us:List Value}(r:Vals [x] us): ∃u,us=[u]/\RelV x u:=by
 cases r with
 | cons r1 r2=>cases r2;exact⟨_,rfl,r1⟩
theorem vals2{x y:V}{us:List Value}(r:Vals [x,y] us): ∃u w',us=[u,w']/\RelV x u/\RelV y w':=by
 cases r with
 | cons r1 r2=>
  cases r2 with
  | cons r3 r4=>cases r4;exact⟨_,_,rfl,r1,r3⟩
theorem qeq(hc:X.calm=true): xf X (.builtin "max") (fun xs H Q=>∃i j,xs=[.int i,.int j]/\Q (.int (if j>i then j else i)) H):=by
 intro pins s σ H xs us Q I r h;obtain⟨i,j,rfl,q⟩:=h;obtain⟨u,w',rfl,⟨t,rfl⟩,⟨t',rfl⟩⟩:=vals2 r;refine max_two_ints (I.ok.hd hc) fun h' tk k=>⟨_,H,I.kept k,?_,q⟩
 by_cases hj:j>i
 ·rw [m4 hj,m4 hj];exact⟨_,rfl⟩
 ·rw [m9 hj,m9 hj];exact⟨_,rfl⟩
def qp1(K:PySem.W.Frag)(x:V)(H:Hp)(n:Nat): Prop:=
 match x with
 | .str y=>y.length<=sizeLine/\n=y.length
 | .byt y=>y.size<=sizeLine/\n=y.size
 | .ref p=>(∃xs,SqL K H p xs/\n=xs.length)\/∃xs,SqT K H p xs/\n=xs.length
 | _=>False
theorem qgl:xf X (.builtin "len") (fun xs H Q=>∃x n,xs=[x]/\qp1 X.K x H n/\Q (.int n) H):=by
 intro pins s σ H xs us Q I r h;obtain⟨x,n,rfl,e,q⟩:=h;obtain⟨u,rfl,rx⟩:=vals1 r;have hl:=q3a;have hs:sizeLine=16777216:=g42;cases x with
 | str y=>
  obtain⟨t,rfl⟩:=rx;obtain⟨hy,e'⟩:y.length<=sizeLine/\n=y.length:=e;subst e';exact len_str (by omega) ⟨.int _,H,I.tok _,⟨_,rfl⟩,q⟩
 | byt y=>
  obtain⟨t,rfl⟩:=rx;obtain⟨hy,e'⟩:y.size<=sizeLine/\n=y.size:=e;subst e';exact PySem.W.len_bytes (by omega) ⟨.int _,H,I.tok _,⟨_,rfl⟩,q⟩
 | ref p=>
  cases rx;have e':(∃xs,SqL X.K H p xs/\n=xs.length)\/∃xs,SqT X.K H p xs/\n=xs.length:=e;rcases e' with⟨xs,hx,e'⟩|⟨xs,hx,e'⟩
  ·subst e'
   obtain⟨its,r',pl,hz⟩:=I.list hx;have hlen:=r'.length;exact Calls.call_len_list pl.isList (by simp only [gf];omega) ⟨.int xs.length,H,I.tok _,⟨_,by simp only [gf];rw [hlen]⟩,q⟩
  ·subst e'
   obtain⟨its,r',pl,hz⟩:=I.tuple hx;have hlen:=r'.length;exact len_tuple pl (by simp only [gf];omega) ⟨.int xs.length,H,I.tok _,⟨_,by simp only [gf];rw [hlen]⟩,q⟩
 | _=>exact(show False from e).elim
end
structure ObjM(h:Heap)(x dx C:Addr)(mA:Str->Option Value): Prop where
 obj:h.get? x=some (PySem.W.instObj C dx)
 ns:h.Ns1 dx mA
 ne:dx≠x
theorem qer{h:Heap}{dx:Addr}{mA:Str->Option Value}(n:h.Ns1 dx mA): ∃od,h.get? dx=some od/\∀name,PySem.W.lookIn name od=some (mA name):=by
 obtain⟨o,es,ep,ho,hd,hk,_,hm⟩:=n;refine⟨o,ho,fun name=>?_⟩;have e:=hm name;unfold nsFind findBy at e;rw [<- Array.find?_toList] at e;unfold PySem.W.lookIn;rw [hd];dsimp only
 split
 ·rename_i y q
  rw [q] at e;exact uy some e
 ·rename_i q
  rw [q] at e;have a:es.toList.any (·.refKey)=false:=by
   rw [List.any_eq_false];intro y hy;obtain⟨z,t,hkey⟩:=hk y (Array.mem_toList_iff.mp hy);simp [DictEntry.refKey,hkey]
  have a':¬es.toList.any (·.refKey)=true:=by rw [a];exact gz
  rw [m9 a'];exact uy some e
theorem ObjM.look{h:Heap}{x dx C:Addr}{mA:Str->Option Value}(I:ObjM h x dx C mA): ∃od,PySem.W.InstAt h x (PySem.W.instObj C dx) C (some od)/\∀name,PySem.W.lookIn name od=some (mA name):=
 let⟨od,ho,hl⟩:=qer I.ns
 ⟨od,⟨I.obj,rfl,rfl,ho⟩,hl⟩
section
variable{prog:Program}{w:World}{A:Around}{E:Value->Shared->Prop}{s:Shared}{K:PySem.W.Frag}{x dx C f:Addr}{mA:Str->Option Value}{name:Str}{v:Value}
theorem qgm{pl:Sem Bool}{Q:Value×List Value->Shared->Prop}(X:K.In s.heap)(I:ObjM s.heap x dx C mA)(hg:PySem.W.plainGet K C name=true)
  (hf:PySem.W.findIn K (.ref C) name=some (some (.ref f))) (ht:PySem.W.isFn K (.ref f)=true) (hv:mA name=none) (h:Q (.ref f,[.ref x]) s) :
  wpAny (model prog w) A (getMethod (.ref x) name pl) Q E s:=by
 obtain⟨od,J,hl⟩:=I.look;exact PySem.W.method_fn X J (PySem.W.plainGet_of hg).1 (PySem.W.plainGet_of hg).2 hf (g2d.mp ht) (by show(PySem.W.lookIn name od).map (·.isSome)=some false;rw [hl,hv];rfl) h
end
theorem RelO.none_of{o:Option Value}(r:RelO none o): o=none:=by
 cases o with
 | none=>rfl
 | some u=>exact(show False from r).elim
section
variable{P:Program}{w:World}{H H':Hp}{h h':Heap}{a C dx:Addr}{fs fs':List (Str×V)}
theorem qbu(hok:HOk P w H h)(e:H a=some (.ins C dx fs)): ∃mA,ObjM h a dx C mA/\(∀f,RelO (fs.lookup f) (mA f))/\PySem.Within mA (fs.map (·.1))/\fs.length<=1000/\H dx=some (.own a):=by
 obtain⟨d,z,ne,ob,mA,n,r,q⟩:=(show ObjOk P w H h a (.ins C dx fs) from hok a _ e)
 exact⟨mA,⟨ob,n,ne⟩,r,q,z,d⟩
end
structure Cls(K:PySem.W.Frag)(C:Addr): Prop where
 pg:PySem.W.plainGet K C Str.empty=true
 hd:PySem.W.hasDictIn K C=true
 po:PySem.W.plainOver K C=true
 sa:PySem.W.findIn K (.ref C) "__setattr__" = some (some (.builtin "object.__setattr__"))
theorem Cls.get{K:PySem.W.Frag}{C:Addr}(c:Cls K C)(f:Str): PySem.W.plainGet K C f=true:=c.pg
structure Meth(K:PySem.W.Frag)(C:Addr)(m:Str)(f:Addr): Prop where
 at_:PySem.W.findIn K (.ref C) m=some (some (.ref f))
 fn:PySem.W.isFn K (.ref f)=true
 kp:PySem.W.keepIn K (.ref f)=true
section
variable{X:Cx}{pins:List (Addr×Obj)}{σ : St}{H:Hp}{s:Shared}{a C dx:Addr}{fs:List (Str×V)}{f:Str}{v:V}{A:Around}{E:Value->Shared->Prop}
theorem qd9{m:Str}{g:Addr}{pl:Sem Bool}{Q:Value×List Value->Shared->Prop}(I:Inv X pins σ H s)(e:H a=some (.ins C dx fs))(c:Cls X.K C)(k:Meth X.K C m g)(l:fs.lookup m=none)
  (h:Q (.ref g,[.ref a]) s):wpAny (model X.prog X.w) A (getMethod (.ref a) m pl) Q E s:=by
 obtain⟨mA,O,r,_,_,_⟩:=qbu I.hok e;have hn:mA m=none:=RelO.none_of (by rw [<- l];exact r m);exact qgm I.kIn O (c.get m) k.at_ k.fn hn h
theorem Inv.made(I:Inv X pins σ H s): Inv X pins σ (upd (upd H s.heap.objs.size (.own (s.heap.objs.size+1))) (s.heap.objs.size+1) (.ins C s.heap.objs.size []))
  {s with heap:=(s.heap.push PySem.W.emptyDict).push (PySem.W.instObj C s.heap.objs.size)}:=by
 have e1:(s.heap.push PySem.W.emptyDict).get? s.heap.objs.size=some PySem.W.emptyDict:=ma s.heap rfl;have e2:((s.heap.push PySem.W.emptyDict).push (PySem.W.instObj C s.heap.objs.size)).get? (s.heap.objs.size+1)=some (PySem.W.instObj C s.heap.objs.size):=by
  have:=ma (s.heap.push PySem.W.emptyDict) (o:=PySem.W.instObj C s.heap.objs.size) rfl;rwa [g0g] at this
 have e3:(s.heap.push PySem.W.emptyDict).Ns s.heap.objs.size (fun _=>none):=⟨PySem.W.emptyDict, #[],_,e1,rfl,(fun e he=>absurd he (by simp)),fun _=>rfl⟩
 have I1:=I.laid (a:=s.heap.objs.size) (o:=.own (s.heap.objs.size+1)) (h':=s.heap.push PySem.W.emptyDict) (t':=s.toks) (fun b u q=>g9 _ q) (gu _) ⟨_,e1⟩;refine I1.laid (a:=s.heap.objs.size+1) (o:=.ins C s.heap.objs.size []) (t':=s.toks) (fun b u q=>g9 _ q) (g4i (g0g _ _)) ?_;have ne:s.heap.objs.size≠s.heap.objs.size+1:=mn (uc _);refine⟨by rw [qh ne,qq],g0b _,ne,e2,fun _=>none,(Heap.Ns1.of_empty e3).at fun o q=>g9 _ q,fun _=>True.intro,fun y hy=>absurd rfl hy⟩
end
section
variable{X:Cx}{o e value:Expr}{f:Str}{pos pos' tpos:Pos}{ta tv:TE}
end
section
variable{X:Cx}{pins:List (Addr×Obj)}{σ : St}{H:Hp}{s:Shared}{A:Around}{E:Value->Shared->Prop}{Q:Value->Shared->Prop}{c:Value}{b:Bool}
end
structure Room(k:Nat)(A:Around): Prop where
 hd:A.handled=none
 dp:A.depth+3*k+5<recursionLimit
 un:A.units+16*k+200<cLine
theorem Room.mono{j k:Nat}{A:Around}(r:Room k A)(h:j<=k): Room j A:=⟨r.hd,by have:=r.dp;omega,by have:=r.un;omega⟩
theorem Room.deeper{k:Nat}{A:Around}(r:Room (k+1) A)(env:Env): Room k (A.deeper env):=
 ⟨r.hd,by have:=r.dp;show A.depth+1+3*k+5<_;omega,by have:=r.un;show A.units+3+16*k+200<_;omega⟩
theorem Room.in1{k:Nat}{A:Around}(r:Room (k+1) A): Room k A.in1:=
 ⟨r.hd,by have:=r.dp;show A.depth+3*k+5<_;omega,by have:=r.un;show A.units+1+16*k+200<_;omega⟩
theorem Room.depth{k:Nat}{A:Around}(r:Room k A): A.depth<recursionLimit:=by have:=r.dp;omega
theorem Room.units{k:Nat}{A:Around}(r:Room k A): A.units+64<cLine:=by have:=r.un;omega
def tNil:TA:=fun _ H Q=>Q [] H
def qo5(ta:TE)(tr:TA): TA:=fun σ H Q=>ta σ H fun x H1=>tr σ H1 fun xs H2=>Q (x :: xs) H2
section
variable{X:Cx}{e:Expr}{es:List Expr}{te:TE}{t:TA}{pos:Pos}
theorem wd:PA X [] tNil:=fun _ _ _ _ H Q I h=>Calls.spliced_nil ⟨[],H,I,.nil,h⟩
theorem xt(ha:PE X e te)(hr:PA X es t)(hs:starEach (e :: es) X.env=(false,eval e X.env) :: starEach es X.env:=by rfl): PA X (e :: es) (qo5 te t):=by
 intro pos pins s σ H Q I h;rw [hs];show wpAny _ _ (spliced ((false,eval e X.env) :: backTo pos (starEach es X.env))) _ _ s;refine Calls.spliced_cons (thn (ha pins s σ H _ I h) fun u s1 ⟨x,H1,I1,r1,q1⟩=>?_);exact thn (hr pos pins s1 σ H1 _ I1 q1) fun us s2 ⟨xs,H2,I2,r2,q2⟩=>⟨x :: xs,H2,I2,.cons r1 r2,q2⟩
def qp2(t:TA): TE:=fun σ H Q=>t σ H fun xs H1=>xs.length<=sizeLine/\∀p,H1 p=none->Q (.ref p) (upd H1 p (.tup xs))
def qp3(t:TA): TE:=fun σ H Q=>t σ H fun xs H1=>xs.length<=sizeLine/\∀p,H1 p=none->Q (.ref p) (upd H1 p (.lst xs))
theorem qm0{x1}(h:PA X es t): PE X (.Tuple es x1 pos) (qp2 t):=by
 intro pins s σ H Q I hq;refine wpAny_Tuple_spliced (thn (h pos pins s σ H _ I hq) fun us s1 ⟨xs,H1,I1,r,z,q⟩=>⟨by rw [<- r.length];exact z,?_⟩);have hf:H1 s1.heap.objs.size=none:=I1.hok.fresh (gu _);refine⟨.ref s1.heap.objs.size,upd H1 s1.heap.objs.size (.tup xs),I1.laid (t':=s1.toks) (fun b u e=>g9 _ e) (gu _) ?_,rfl,q _ hf⟩;exact⟨z,us,r,⟨_,ma _ rfl,rfl,rfl,_,rfl⟩⟩
theorem qes(h:PA X es t): PE X (.List es pos) (qp3 t):=by
 intro pins s σ H Q I hq;refine wpAny_List_spliced (thn (h pos pins s σ H _ I hq) fun us s1 ⟨xs,H1,I1,r,z,q⟩=>⟨by rw [<- r.length];exact z,?_⟩);have hf:H1 s1.heap.objs.size=none:=I1.hok.fresh (gu _);refine⟨.ref s1.heap.objs.size,upd H1 s1.heap.objs.size (.lst xs),I1.laid (t':=s1.toks) (fun b u e=>g9 _ e) (gu _) ?_,rfl,q _ hf⟩;exact⟨z,us,0,r,ma _ rfl⟩
end
abbrev Sp:=List V->Hp->VK->XK->Prop
abbrev CXT:=List Env->Hp->Shared->XK->Value->Shared->Prop
structure Env0(P:Program)(w:World)(K:PySem.W.Frag)(mg:Str->Option Value)(base:Heap)(A:Around)(outer:List Env)(s:Shared)(H:Hp): Prop where
 frames:A.frames=some outer
 mod:Mod K mg base
 bs:∀b o,base.get? b=some o->s.heap.get? b=some o/\H b=none
 bsz:base.objs.size<=s.heap.objs.size
 funs:s.heap.FunFrames base outer
 frf:∀b∈frs outer,H b=none
 hok:HOk P w H s.heap
 bare:AllBare s.gens
def CE(outer:List Env)(P:Program)(w:World)(H:Hp)(s:Shared)(Q:VK)(u:Value)(s':Shared): Prop:=
 ∃v H',s'.os=s.os/\AllBare s'.gens/\Un (frs outer) [] H H' s.heap s'.heap/\HOk P w H' s'.heap/\RelV v u/\Q v H'
def CR(CX:CXT)(outer:List Env)(P:Program)(w:World)(H:Hp)(s:Shared)(Q:VK)(E:XK)(r:Result)(s':Shared): Prop:=
 match r with
 | .ok (.ret u)=>CE outer P w H s Q u s'
 | .ok _=>False
 | .error e=>CX outer H s E e s'
structure FnOk(P:Program)(w:World)(K:PySem.W.Frag)(mg:Str->Option Value)(base:Heap)(CX:CXT)(k:Nat)(f:Addr)(fd:FuncData)(ps:List Str)(sp:Sp): Prop where
 len:∀vs H Q E,sp vs H Q E->vs.length=ps.length
 run:∀(A:Around) (outer:List Env) (s:Shared) (H:Hp) (args:Args) (us:List Value) (vs:List V) (Q:VK) (E:XK),Room k A->Env0 P w K mg base A outer s H->BindsTo s fd args (ps.zip us)->Vals vs us->sp vs H Q E ->
  codeAny (model P w) A (.call (.ref f) args) (CR CX outer P w H s Q E) s
theorem FnOk.imp{P:Program}{w:World}{K:PySem.W.Frag}{mg:Str->Option Value}{base:Heap}{CX:CXT}{k:Nat}{f:Addr}{fd:FuncData}{ps:List Str}{sp sp':Sp}(F:FnOk P w K mg base CX k f fd ps sp)
  (h:∀vs H Q E,sp' vs H Q E->sp vs H Q E):FnOk P w K mg base CX k f fd ps sp':=
 ⟨fun vs H Q E q=>F.len vs H Q E (h _ _ _ _ q),fun A outer s H args us vs Q E hr he hb hv hs=>F.run A outer s H args us vs Q E hr he hb hv (h _ _ _ _ hs)⟩
section
variable{X:Cx}{pins:List (Addr×Obj)}{σ : St}{H:Hp}{s s':Shared}
theorem Inv.env0(I:Inv X pins σ H s): Env0 X.prog X.w X.K X.mg X.base X.A X.stack s H:=
 ⟨I.ok.frames,I.ok.mod,I.bs,ml I.ok.bsz I.sz,I.stack,I.stkFree,I.hok,I.bare⟩
theorem Inv.after{Q:VK}{u:Value}(I:Inv X pins σ H s)(h:CE X.stack X.prog X.w H s Q u s'): EP X pins σ Q u s':=by
 obtain⟨v,H',os,bare,un,hok,r,q⟩:=h;obtain⟨hh,g,d,t,os'⟩:=s';obtain rfl:os'=s.os:=os;exact⟨v,H',I.call (h':=hh) (g':=g) (d':=d) (t':=t) (ch:=[]) un hok bare (fun b z=>absurd z (by simp)),r,q⟩
end
def qo6(sp:Sp)(dvs:List V)(E:XK)(t:TA): TE:=fun σ H Q=>t σ H fun vs H1=>sp (vs++dvs) H1 Q E
def qo7(C:Addr)(m:Str)(sp:Sp)(dvs:List V)(E:XK)(ta:TE)(t:TA): TE:=fun σ H Q=>ta σ H fun x H1=>∃a dx fs,x=.ref a/\H1 a=some (.ins C dx fs)/\fs.lookup m=none /\
 t σ H1 fun vs H2=>sp (x :: (vs++dvs)) H2 Q E
def Binds(K:PySem.W.Frag)(fd:FuncData)(ps:List Str)(ds:List Value): Prop:=
 ∀(s:Shared) (us:List Value),K.In s.heap->(us++ds).length=ps.length->BindsTo s fd ⟨us,[]⟩ (ps.zip (us++ds))
theorem Binds.all{K:PySem.W.Frag}{fd:FuncData}{ps:List Str}(h:∀us:List Value,us.length=ps.length->bindArgs fd ⟨us,[]⟩=pure (ps.zip us)): Binds K fd ps []:=fun s us _ hl=>by
 rw [g12] at hl ⊢;exact .of_eq (h us hl)
def q5w(CX:CXT)(X:Cx)(E:XK): Prop:=∀(pins:List (Addr×Obj)) (σ : St) (H:Hp) (s:Shared) (e:Value) (s':Shared),Inv X pins σ H s->CX X.stack H s E e s'->X.xe e s'
section
variable{X:Cx}{CX:CXT}{k:Nat}{f C:Addr}{fd:FuncData}{ps:List Str}{sp:Sp}{dvs:List V}{ds:List Value}{E:XK}{x m:Str}{p pos apos:Pos}{e o:Expr}{es:List Expr}{ta:TE}{t:TA}
theorem qet{pins:List (Addr×Obj)}{σ : St}{H:Hp}{s:Shared}{Q:VK}{us:List Value}{vs:List V}(F:FnOk X.prog X.w X.K X.mg X.base CX k f fd ps sp)(hr:Room k X.A)(hb:Binds X.K fd ps ds)(hd:Vals dvs ds)(hx:q5w CX X E)
  (I:Inv X pins σ H s) (r:Vals vs us) (h:sp (vs++dvs) H Q E):wpAny (model X.prog X.w) X.A (call (.ref f) us) (EP X pins σ Q) X.xe s:=by
 have r2:Vals (vs++dvs) (us++ds):=r.append hd;have hl:(us++ds).length=ps.length:=by rw [<- r2.length];exact F.len _ _ _ _ h
 refine g3h (g2e (F.run X.A X.stack s H ⟨us,[]⟩ (us++ds) (vs++dvs) Q E hr I.env0 (hb s us I.kIn hl) r2 h) fun r s' hq=>?_);cases r with
 | error e=>exact hx pins σ H s e s' I hq
 | ok fl=>
  cases fl with
  | ret u=>exact I.after hq
  | next=>exact False.elim hq
  | brk=>exact False.elim hq
  | cont=>exact False.elim hq
theorem qbv(F:FnOk X.prog X.w X.K X.mg X.base CX k f fd ps sp)(hr:Room k X.A)(hg:Gl X x)(hm:X.mg x=some (.ref f))(hk:PySem.W.keepIn X.K (.ref f)=true)(hb:Binds X.K fd ps ds)(hd:Vals dvs ds)(hx:q5w CX X E)
  (ha:PA X (e :: es) t) (hdb:(x==("__debug__" : Str))=false:=by decide) (he:starEach (e :: es) X.env=(false,eval e X.env) :: starEach es X.env:=by rfl) (hpl:(backTo pos (starEach es X.env)).any (·.1)=false:=by rfl) :
  PE X (.Call (.Name x p) (e :: es) [] pos) (qo6 sp dvs E t):=by
 intro pins s σ H Q I h;refine g13 (qbq I hg hm ?_ hdb);refine PySem.W.callWith_K (h₀:=X.base) I.ok.mod.kin hk (thn (ha pos pins s σ H _ I h) fun us s1 ⟨vs,H1,I1,r,q⟩=>⟨I1.kIn,?_⟩) he hpl;exact qet F hr hb hd hx I1 r q
theorem qj9{pl:Sem Bool}(he:PE X o ta)(c:Cls X.K C)(hm:Meth X.K C m f)(F:FnOk X.prog X.w X.K X.mg X.base CX k f fd ps sp)(hr:Room k X.A)(hb:Binds X.K fd ps ds)(hd:Vals dvs ds)(hx:q5w CX X E)(ha:PA X (e :: es) t)
  (hst:starEach (e :: es) X.env=(false,eval e X.env) :: starEach es X.env:=by rfl) (hpl:(backTo pos (starEach es X.env)).any (·.1)=false:=by rfl)
  (ht:eval (.Call (.Attribute o m apos) (e :: es) [] pos) X.env=(do
   let ov <- eval o X.env
   standAt apos.atName
   let(f,first) <- holding [ov] (getMethod ov m pl)
   callWith pos f first (backTo pos (starEach (e :: es) X.env)) (backToKw pos (keywordEach [] X.env))):=by rfl) :
  PE X (.Call (.Attribute o m apos) (e :: es) [] pos) (qo7 C m sp dvs E ta t):=by
 intro pins s σ H Q I h;refine PySem.W.methodCall_KW (pl:=pl) (thn (he pins s σ H _ I h) fun u s1 ⟨x,H1,I1,rx,a,dx,fs,ex,ea,l,q⟩=>?_) ht;subst ex;obtain rfl:u=Value.ref a:=rx;refine qd9 I1 ea c hm l ?_;refine PySem.W.callWith_K (first:=[.ref a]) (h₀:=X.base) I.ok.mod.kin hm.kp (thn (ha pos pins s1 σ H1 _ I1 q) fun us s2 ⟨vs,H2,I2,r,q2⟩=>⟨I2.kIn,?_⟩) hst hpl;exact qet (us:=.ref a :: us) (vs:=.ref a :: vs) F hr hb hd hx I2 (.cons rfl r) q2
end
section
variable{X:Cx}{CX:CXT}{k:Nat}{f C:Addr}{fd:FuncData}{ps ks:List Str}{sp:Sp}{E:XK}{x m:Str}{p pos apos kpos:Pos}{e o:Expr}{es:List Expr}{kws:List Keyword}{te ta:TE}{t tk:TA}{nm:Option Str}
variable{g:List Value->List Value->List Value}{gV:List V->List V->List V}
end
structure FnScope(N P:List Str)(sc:Scope): Prop where
 kind:sc.kind=.function
 co:sc.isCoroutine=false
 gen:sc.isGenerator=false
 nd:N.Nodup
 pre:N.take P.length=P
 par:∀x∈P,sc.names.lookup x=some .local\/sc.names.lookup x=some .cell
 nofree:∀y∈sc.names,y.2 ≠ .free
theorem q7t{kindOf:Str->Option NameKind}{x:Str}: ∀ {binds:List (Str×Value)} {m:Str->Option Value},(∀v,(x,v)∉binds)->bindL kindOf binds m x=m x
 | [],_,_=>rfl
 | (n,v) :: r,m,h=>by
  unfold bindL;rw [q7t fun w hw=>h w (gq _ hw)]
  split
  ·have:x≠n:=by rintro rfl;exact h v gw
   simp [this]
  ·rfl
theorem q7u{kindOf:Str->Option NameKind}{x:Str}: ∀ {binds:List (Str×Value)} {m:Str->Option Value},(∀v,(x,v)∉binds)->bindC kindOf binds m x=m x
 | [],_,_=>rfl
 | (n,v) :: r,m,h=>by
  unfold bindC;rw [q7u fun w hw=>h w (gq _ hw)]
  split
  ·rfl
  ·have:x≠n:=by rintro rfl;exact h v gw
   simp [this]
theorem q7v{kindOf:Str->Option NameKind}{x:Str}{v:Value}: ∀ {P:List Str} {vs:List Value} {i:Nat} {m:Str->Option Value},P.Nodup->P[i]? = some x->vs[i]? = some v->kindOf x=some .local ->
  bindL kindOf (P.zip vs) m x=some v
 | [],_,_,_,_,h,_,_=>by simp at h
 | _ :: _,[],_,_,_,_,h,_=>by simp at h
 | p :: P,w :: vs,0,m,nd,h1,h2,hk=>by
  simp at h1 h2;subst h1;subst h2;show bindL kindOf ((p,w) :: P.zip vs) m p=_;unfold bindL;rw [q7t fun v hv=>(g14.mp nd).1 (g15 hv).1,m4 hk];simp
 | p :: P,w :: vs,i+1,m,nd,h1,h2,hk=>by
  show bindL kindOf ((p,w) :: P.zip vs) m x=_;unfold bindL;exact q7v (i:=i) (g14.mp nd).2 (by simpa using h1) (by simpa using h2) hk
theorem q7w{kindOf:Str->Option NameKind}{x:Str}{v:Value}: ∀ {P:List Str} {vs:List Value} {i:Nat} {m:Str->Option Value},P.Nodup->P[i]? = some x->vs[i]? = some v->kindOf x≠some .local ->
  bindC kindOf (P.zip vs) m x=some v
 | [],_,_,_,_,h,_,_=>by simp at h
 | _ :: _,[],_,_,_,_,h,_=>by simp at h
 | p :: P,w :: vs,0,m,nd,h1,h2,hk=>by
  simp at h1 h2;subst h1;subst h2;show bindC kindOf ((p,w) :: P.zip vs) m p=_;unfold bindC;rw [q7u fun v hv=>(g14.mp nd).1 (g15 hv).1,m9 hk];simp
 | p :: P,w :: vs,i+1,m,nd,h1,h2,hk=>by
  show bindC kindOf ((p,w) :: P.zip vs) m x=_;unfold bindC;exact q7w (i:=i) (g14.mp nd).2 (by simpa using h1) (by simpa using h2) hk
def start(N:List Str)(vs:List V): St:=vs.map some++List.replicate (N.length-vs.length) none
def zq(CX:CXT)(P:Program)(w:World)(K:PySem.W.Frag)(mg:Str->Option Value)(base:Heap)(N:List Str)(qual:Str)(scope:Scope)(f:Addr)(cd:Value)(A:Around)(outer:List Env)(s:Shared)(H:Hp)(E:XK): Cx where
 prog:=P
 w:=w
 K:=K
 mg:=mg
 base:=base
 A:=A.deeper (envOfC qual scope s.heap.objs.size f cd)
 N:=N
 s₀:=s
 H₀:=H
 env:=envOfC qual scope s.heap.objs.size f cd
 outer:=outer
 stack:=envOfC qual scope s.heap.objs.size f cd :: outer
 ex:=[]
 calm:=true
 fn:=fun _=>true
 pn:=[]
 xe:=fun e s'=>wpAny (model P w) (A.deeper (envOfC qual scope s.heap.objs.size f cd)) (leaving (envOfC qual scope s.heap.objs.size f cd) e) (fun _ s''=>CX outer H s E e s'') (fun e' s''=>CX outer H s E e' s'') s'
theorem q92{sc:Scope}{n:Nat}{x:Str}(h:sc.names.lookup x=some .cell): ∃c,(cellsFrom n sc.names []).lookup x=some c:=by
 have q:=g1y sc.names n [] (.inl h);exact g0u.mp q
theorem q7x{CX:CXT}{P:Program}{w:World}{K:PySem.W.Frag}{mg:Str->Option Value}{base:Heap}{N ps:List Str}{qual:Str}{scope:Scope}{f:Addr}{cd:Value}{A:Around}{outer:List Env}{s s1:Shared}{H:Hp}{E:XK}{us:List Value}{vs:List V}
  (S:FnScope N ps scope) (hd:A.handled=none) (e0:Env0 P w K mg base A outer s H) (hl:vs.length=ps.length) (r:Vals vs us)
  (x:InCallC s s.heap.objs.size (bindL (envOfC qual scope s.heap.objs.size f cd).kindOf (ps.zip us) fun _=>none) (cellsFrom (s.heap.objs.size+1) scope.names []) (bindC (envOfC qual scope s.heap.objs.size f cd).kindOf (ps.zip us) fun _=>none) s1) :
  Inv (zq CX P w K mg base N qual scope f cd A outer s H E) [] (start N vs) H s1:=by
 have hpl:ps.length<=N.length:=by have:=uy List.length S.pre;rw [tf] at this;omega
 obtain⟨h1,tk,rfl,hk⟩:=x.done;have noA:∀b:Addr,b∉(zq CX P w K mg base N qual scope f cd A outer s H E).ex:=fun b z=>absurd (show b∈([]:List Addr) from z) (by simp);refine⟨⟨e0.mod,S.kind,rfl,rfl,gu _,fun y z c h1 h2=>?_,fun y hy=>?_,fun y c _ h=>?_,fun _=>hd,Around.frames_deeper e0.frames,.inr ⟨rfl,rfl⟩,fun b z=>absurd z (noA b),e0.bs,e0.bsz,fun b _ _=>noA b,fun b z=>absurd z (noA b),e0.funs,e0.frf⟩,
  rfl,e0.bare,Un.kept hk,⟨_,x.toInCall.ns,fun i y v h1 h2 h3=>?_⟩,fun y c h=>⟨_,x.cell y c h⟩,e0.hok.fresh (gu _),fun y c h=>?_,fun p hp=>absurd (show p∈([]:List (Addr×Obj)) from hp) (by simp),e0.hok.kept hk,?_⟩
 ·exact name_of_addr x.apart (g0x h1) (g0x h2)
 ·have hy:scope.names.lookup y=some .cell\/scope.names.lookup y=some .free:=hy
  rcases hy with hy|hy
  ·exact q92 hy
  ·exact absurd rfl (S.nofree _ (g0x hy))
 ·exact g2b (x.above y c (g0x h))
 ·have hi:i<vs.length:=by
   unfold start at h2
   by_cases hi:i<vs.length
   ·exact hi
   ·rw [nq (by simpa using hi)] at h2
    rw [uj] at h2
    split at h2 <;> cases h2
  have ha:vs[i]? = some v:=by
   unfold start at h2;rw [nh (by simpa using hi),mh] at h2;cases e:vs[i]? with
   | none=>rw [e] at h2;cases h2
   | some a=>rw [e] at h2;cases h2;rfl
  obtain⟨u,hu,rv⟩:=r.get ha;have hp:ps[i]? = some y:=by
   rw [<- S.pre,List.getElem?_take_of_lt (by omega)];exact h1
  have ndP:ps.Nodup:=by rw [<- S.pre];exact S.nd.sublist (List.take_sublist _ _)
  refine⟨u,rv,?_⟩;rcases S.par y (p6 hp) with k|k
  ·exact .inl ⟨k,q7v ndP hp hu k⟩
  ·obtain⟨c,e⟩:=q92 (n:=s.heap.objs.size+1) k
   refine .inr ⟨.inl k,c,e,?_⟩;have q:=x.cell y c e;rw [q7w ndP hp hu (by show scope.names.lookup y≠_;rw [k];decide)] at q;exact q
 ·exact e0.hok.fresh (g2b (x.above y c (g0x h)))
 ·unfold start
  show _=N.length;rw [n9,gr,g49];omega
theorem qij{CX:CXT}{P:Program}{w:World}{K:PySem.W.Frag}{mg:Str->Option Value}{base:Heap}{k:Nat}{f:Addr}{name qual:Str}{params:Arguments}{body:List Stmt}{scope:Scope}{dV kV doc pm cdv ct oc:Value}{an od:Option Addr}
  {osl:Array (Option Value)} {N ps:List Str} {sp:Sp} (lk:K.lookup f=some ⟨oc,od,.func (PySem.W.fnOf name qual params body scope dV kV doc pm an cdv ct),osl⟩) (hcd:PySem.W.codeIn K cdv qual=true) (S:FnScope N ps scope)
  (len:∀vs H Q E,sp vs H Q E->vs.length=ps.length)
  (hbody:∀(A:Around) (outer:List Env) (s:Shared) (H:Hp) (vs:List V) (Q:VK) (E:XK),Room k (A.deeper (envOfC qual scope s.heap.objs.size f cdv))->sp vs H Q E ->
   ∃t,PSs (zq CX P w K mg base N qual scope f cdv A outer s H E) body t/\t {nx:=fun _ H'=>Q .non H',rt:=Q} (start N vs) H) :
  FnOk P w K mg base CX (k+1) f (PySem.W.fnOf name qual params body scope dV kV doc pm an cdv ct) ps sp:=by
 refine⟨len,fun A outer s H args us vs Q E hr e0 hb r hsp=>?_⟩;have hl:=len _ _ _ _ hsp;have KX:K.In s.heap:=e0.mod.kin.keeps fun b o e=>(e0.bs b o e).1;have lim:s.heap.NoLimit:=e0.mod.nolimit.keeps fun b o e=>(e0.bs b o e).1;have hkind:∀y∈ps.zip us,scope.names.lookup y.1=some .local\/(scope.names.lookup y.1=some .cell/\((cellsFrom (s.heap.objs.size+1) scope.names []).lookup y.1).isSome=true):=fun⟨n,v⟩ hy=>by
  rcases S.par n (g15 hy).1 with q|q
  ·exact .inl q
  ·exact .inr ⟨q,g1y _ _ _ (.inl q)⟩
 refine codeAny_call_function hr.depth (KX _ _ lk) rfl S.co S.gen rfl (PySem.W.codeRec_of KX hcd) (hb _ _ _ _ ?_);refine wpAny_newFunctionEnv_cells S.kind hkind fun env he s1 x=>?_;subst he;refine⟨lim.keeps x.toInCall.keep,codeAny_func ?_⟩;obtain⟨t,ht,hq⟩:=hbody A outer s H vs Q E (hr.deeper _) hsp;have I:Inv (zq CX P w K mg base N qual scope f cdv A outer s H E) [] (start N vs) H s1:=q7x S hr.hd e0 hl r x;refine t7 (ht [] s1 (start N vs) H _ I hq) (fun fl s' hs=>?_) fun e s' hs=>hs;have fin:∀ {σ':St} {H':Hp} {v:V} {u:Value},Inv (zq CX P w K mg base N qual scope f cdv A outer s H E) [] σ' H' s'->RelV v u->Q v H'->CE outer P w H s Q u s':=
  fun {σ' H' v u} J rv q=>⟨v,H',J.os,J.bare,J.base,J.hok,rv,q⟩
 cases fl with
 | ret u=>
  obtain⟨v, σ',H',J,rv,q⟩:=hs;exact fin J rv q
 | next=>
  obtain⟨σ',H',J,q⟩:=hs;exact fin (v:=V.non) (u:=Value.none) J rfl q
 | brk=>
  obtain⟨_,_,_,q⟩:=hs;exact False.elim q
 | cont=>
  obtain⟨_,_,_,q⟩:=hs;exact False.elim q
section
variable{X:Cx}{x:Str}{p pos:Pos}{e:Expr}{es:List Expr}{t:TA}{id T:String}{r:List V->Hp->VK->Prop}
def tCB(r:List V->Hp->VK->Prop)(t:TA): TE:=fun σ H Q=>t σ H fun vs H1=>r vs H1 Q
theorem q2h(hc:xf X (.builtin id) r)(hg:Gl X x)(hm:X.mg x=none)(hv:bootBuiltins x=some (.builtin id))(ha:PA X (e :: es) t)(hn:x≠"__name__" :=by decide)(hdb:(x==("__debug__" : Str))=false:=by decide)
  (he:starEach (e :: es) X.env=(false,eval e X.env) :: starEach es X.env:=by rfl) (hpl:(backTo pos (starEach es X.env)).any (·.1)=false:=by rfl):PE X (.Call (.Name x p) (e :: es) [] pos) (tCB r t):=by
 intro pins s σ H Q I h;refine g13 (q15 I hg hm hv ?_ hn hdb);exact PyProof.Rows.callWith_builtin1 (thn (ha pos pins s σ H _ I h) fun us s1 ⟨vs,H1,I1,r1,q1⟩=>hc pins s1 σ H1 vs us Q I1 r1 q1) he hpl
theorem qeu(hc:xf X (.type T) r)(hg:Gl X x)(hm:X.mg x=none)(hv:bootBuiltins x=some (.type T))(ha:PA X (e :: es) t)(hn:x≠"__name__" :=by decide)(hdb:(x==("__debug__" : Str))=false:=by decide)
  (he:starEach (e :: es) X.env=(false,eval e X.env) :: starEach es X.env:=by rfl) (hpl:(backTo pos (starEach es X.env)).any (·.1)=false:=by rfl):PE X (.Call (.Name x p) (e :: es) [] pos) (tCB r t):=by
 intro pins s σ H Q I h;refine g13 (q15 I hg hm hv ?_ hn hdb);exact g0i (thn (ha pos pins s σ H _ I h) fun us s1 ⟨vs,H1,I1,r1,q1⟩=>hc pins s1 σ H1 vs us Q I1 r1 q1) he hpl
end
end L2
namespace HT
open PySem PyProof.Rows
section
open PySem.SeqAt
open PySem.AutoSeq1 (wpAny_loadPart')
open PySem.MeetsSeq PySem.MeetsSeq2 PySem.MeetsSeq3
end
section
variable{prog:Program}{w:World}{A:Around}{E:Value->Shared->Prop}{s:Shared}
theorem cat_tup{t b:Addr}{vs ws:List Value}{Q:Value->Shared->Prop}(ht:IsTup s.heap t vs.toArray)(hb:IsTup s.heap b ws.toArray)(hv:vs≠[])
  (h1:ws=[]->Q (.ref t) s) (h2:ws≠[]->Q (.ref s.heap.objs.size) {s with heap:=s.heap.push {cls:=.type "tuple",data:=.seq (vs++ws).toArray} })
  (hsz:vs.length+ws.length<=sizeLine):wpAny (model prog w) A (binaryOp .Add (.ref t) (.ref b)) Q E s:=by
 obtain⟨⟨cls,dd,data,sl⟩,ho,hc,n,hd⟩:=id ht;obtain⟨⟨cls2,dd2,data2,sl2⟩,ho2,hc2,n2,hd2⟩:=id hb;simp only at hc hd hc2 hd2;subst hc hd hc2 hd2;have e:vs.toArray++ws.toArray=(vs++ws).toArray:=by simp
 by_cases hw:ws=[]
 ·exact g3k ⟨_,ho,rfl⟩ ⟨_,ho2,rfl⟩ g3l seq_tuple_add g1z g1s (g1l _ _)
   (tuple_addW1 t b vs.toArray ws.toArray n n2 dd dd2 sl sl2 (by simpa using hv) (by simp [hw])) ⟨ho,ho2,h1 hw⟩
 ·refine g3k ⟨_,ho,rfl⟩ ⟨_,ho2,rfl⟩ g3l seq_tuple_add g1z g1s (g1l _ _)
   (tuple_addW2 t b vs.toArray ws.toArray n n2 dd dd2 sl sl2 (by simpa using hv) (by simpa using hw) (by rw [gf,gf];exact hsz)) ⟨ho,ho2,?_⟩
  rw [e];exact h2 hw
def sIx(n d:Nat): Option Int->Nat
 | none=>d
 | some v=>if v<0 then(v+(n:Int)).toNat else min v.toNat n
theorem sIx_nat(n d k:Nat): sIx n d (some (k:Int))=min k n:=by
 show(if(k:Int)<0 then((k:Int)+(n:Int)).toNat else min (k:Int).toNat n)=min k n;rw [m9 (by omega),ud]
theorem qm1(n d:Nat)(hd:d<=n)(o:Option Int): sIx n d o<=n:=by
 cases o with
 | none=>exact hd
 | some v=>
  show(if v<0 then(v+(n:Int)).toNat else min v.toNat n)<=n
  by_cases hv:v<0
  ·rw [m4 hv];omega
  ·rw [m9 hv];exact Nat.min_le_right _ _
theorem qbw(v:Int)(n d:Nat): (if v<0 then max (v+(n:Int)) 0 else min v (n:Int))=((sIx n d (some v):Nat):Int):=by
 show(if v<0 then max (v+(n:Int)) 0 else min v (n:Int))=(((if v<0 then(v+(n:Int)).toNat else min v.toNat n):Nat):Int)
 by_cases hv:v<0
 ·simp only [m4 hv];omega
 ·simp only [m9 hv];omega
theorem qda(lo hi:Option Int)(n:Nat): Builtin.Slice.sliceAdjust lo hi 1 (n:Int)=(((sIx n 0 lo:Nat):Int),((sIx n n hi:Nat):Int)):=by
 have h1:¬((1:Int)<0):=by omega
 unfold Builtin.Slice.sliceAdjust;simp only [h1,nt];refine Prod.ext ?_ ?_
 ·cases lo with
  | none=>rfl
  | some v=>exact qbw v n 0
 ·cases hi with
  | none=>rfl
  | some v=>exact qbw v n n
theorem qdb(i j:Nat): Builtin.Slice.slicePlaces (i:Int) (j:Int) 1=j-i:=by
 unfold Builtin.Slice.slicePlaces;have h1:(1:Int)>0:=by omega
 simp only [h1,ny,Int.ediv_one]
 split <;> omega
theorem q5x{v:Value}{o:Option Int}{Q:Option Int->Shared->Prop}(p:IsPart v o)(h:Q o s): wpAny (model prog w) A (Builtin.Slice.slicePartIndex v) Q E s:=by
 cases p with
 | none=>exact slicePart_none h
 | int i t=>exact slicePart_int h
theorem sliceApplied_gen{sl:Addr}{vl vu:Value}{lo hi:Option Int}{n:Nat}{Q:Int×Int×Nat->Shared->Prop}(hs:s.heap.IsSliceOf sl vl vu .none)(pl:IsPart vl lo)(pu:IsPart vu hi)
  (h:Q (((sIx n 0 lo:Nat):Int),1,sIx n n hi-sIx n 0 lo) s):wpAny (model prog w) A (Builtin.Slice.sliceApplied (.ref sl) (pure (n:Int))) Q E s:=by
 obtain⟨os,hos,hcs,hds⟩:=id hs;unfold Builtin.Slice.sliceApplied Builtin.Slice.sliceFields;refine g0 (g0 (ui hos hds (x:=vl) rfl (g0 (ui hos hds (x:=vu) rfl (g0 (ui hos hds (x:=.none) rfl (gh ?_)))))));refine g0 (slicePart_none ?_);show wpAny _ _ (if((1:Int)==0)=true then _ else _) _ _ s;rw [m9 (by decide)];refine g0 (q5x pl (g0 (q5x pu (g0 (gh ?_)))));show wpAny _ _ (match Builtin.Slice.sliceAdjust lo hi 1 (n:Int) with|(lo,hi)=>pure (lo,(1:Int),Builtin.Slice.slicePlaces lo hi 1)) _ _ s;rw [qda lo hi n];show wpAny _ _ (pure (((sIx n 0 lo:Nat):Int),(1:Int),Builtin.Slice.slicePlaces ((sIx n 0 lo:Nat):Int) ((sIx n n hi:Nat):Int) 1)) _ _ s;rw [qdb];exact gh h
theorem qgn(xs:Array Value)(i k:Nat): ((List.range k).filterMap fun(m:Nat)=>xs[((i:Int)+(m:Int)*1).toNat]?).toArray=((xs.toList.drop i).take k).toArray:=by
 have e:(fun(m:Nat)=>xs[((i:Int)+(m:Int)*1).toNat]?)=fun m=>xs[i+m]? :=by
  funext m
  have:((i:Int)+(m:Int)*1).toNat=i+m:=by omega
  rw [this]
 rw [e];have:=pick_run xs i k;rw [List.filterMap_map] at this;have e2:((fun x=>xs[x]?) ∘ fun x=>i+x)=fun m=>xs[i+m]? :=rfl;rw [e2] at this;rw [this]
theorem getItem_tuple_cut{t sl:Addr}{items:Array Value}{vl vu:Value}{lo hi:Option Int}{Q:Value->Shared->Prop}(ht:IsTup s.heap t items)(hs:s.heap.IsSliceOf sl vl vu .none)(pl:IsPart vl lo)(pu:IsPart vu hi)
  (hw:¬(sIx items.size 0 lo=0/\sIx items.size items.size hi=items.size))
  (h:Q (.ref s.heap.objs.size) {s with heap:=s.heap.push {cls:=.type "tuple",data:=.seq ((items.toList.drop (sIx items.size 0 lo)).take (sIx items.size items.size hi-sIx items.size 0 lo)).toArray} })
  (hsz:items.size<=sizeLine):wpAny (model prog w) A (getItem (.ref t) (.ref sl)) Q E s:=by
 have htake:sizeOk (.seq ((items.toList.drop (sIx items.size 0 lo)).take (sIx items.size items.size hi-sIx items.size 0 lo)).toArray):=by
  show((items.toList.drop (sIx items.size 0 lo)).take (sIx items.size items.size hi-sIx items.size 0 lo)).toArray.size<=sizeLine;rw [gf,tf,uo,ng];omega
 have hj:sIx items.size items.size hi<=items.size:=qm1 _ _ (gu _) hi;obtain⟨os,hos,hcs,hds⟩:=id hs;have hTs:s.TypeIs (.ref sl) "slice" :=⟨os,hos,hcs⟩
 unfold getItem
 try with_reducible refine g05 ?_
 first|refine g0 (gh ?_)|skip
 refine g0 (wpAny_sequenceKey ht.typeIs (by decide) ?_);refine g0 (ux (name:=Str.ofString "__getitem__") ht.typeIs u0
  (g09 u0 ht.typeIs entry_tuple_getitem ?_ (args_tuple_getitem _ _)))
 show wpAny _ _ (Builtin.Tuple.tupleItemsOf (.ref t) >>= _) _ _ s;refine g0 (tupleItemsOf_ ht ?_);refine g0 (wpAny_typeOf hTs ?_);rw [m4 (by decide)];refine g0 (sliceApplied_gen hs pl pu ?_);have hno:¬((((sIx items.size 0 lo:Nat):Int)==0&&(1:Int)==1&&(sIx items.size items.size hi-sIx items.size 0 lo)==items.size)=true):=by
  intro q;rw [gv,gv] at q;have q1:((sIx items.size 0 lo:Nat):Int)=0:=eq_of_beq q.1.1;have q2:sIx items.size items.size hi-sIx items.size 0 lo=items.size:=eq_of_beq q.2;exact hw ⟨by omega,by omega⟩
 show wpAny _ _ (if(((sIx items.size 0 lo:Nat):Int)==0&&(1:Int)==1&&(sIx items.size items.size hi-sIx items.size 0 lo)==items.size)=true then _ else _) _ _ s;rw [m9 hno,qgn]
 first
  | exact g0 (m:=Builtin.Tuple.tupleExact _) (uz (gh ⟨_,rfl,gh h⟩) htake)
  | exact g0 (m:=Builtin.Tuple.tupleExact _) (uz (g0 (gh (gh ⟨_,rfl,gh h⟩))) htake)
  | exact g0 (g0 (m:=Builtin.Tuple.tupleExact _) (uz (gh (gh ⟨_,rfl,gh h⟩)) htake))
  | exact g0 (g0 (m:=Builtin.Tuple.tupleExact _) (uz (gh ⟨_,rfl,gh h⟩) htake))
end
end HT
namespace L2
open PySem PySem.Spec PyProof.Rows
abbrev TO:=St->Hp->(Option Int->Hp->Prop)->Prop
def PO(X:Cx)(e:Option Expr)(t:TO): Prop:=
 ∀(pins:List (Addr×Obj)) (s:Shared) (σ : St) (H:Hp) (Q:Option Int->Hp->Prop),Inv X pins σ H s->t σ H Q ->
  wpAny (model X.prog X.w) X.A (evalPart e X.env) (fun u s'=>∃o H',Inv X pins σ H' s'/\IsPart u o/\Q o H') X.xe s
def qo8(t:TE): TO:=fun σ H Q=>t σ H fun x H1=>∃i,x=.int i/\Q (some i) H1
theorem intsAre_of{ns:List Int}: ∀ {us:List Value},Vals (ns.map V.int) us->IntsAre us ns:=by
 induction ns with
 | nil=>intro us r;rw [g04] at r;cases r;exact .nil
 | cons n ns ih=>
  intro us r;rw [gd] at r;cases r with
  | cons r1 r2=>
   obtain⟨t,e⟩:=r1;subst e;exact .cons n t (ih r2)
section
variable{X:Cx}{e:Expr}{te:TE}{lo hi:Option Expr}{tl th:TO}{pos p2:Pos}
theorem qja(h:PE X e te): PO X (some e) (qo8 te):=by
 intro pins s σ H Q I hw;rw [evalPart_some];refine thn (h pins s σ H _ I hw) fun u s1 ⟨x,H1,I1,r1,q1⟩=>?_;obtain⟨i,rfl,q⟩:=q1;obtain⟨t,rfl⟩:=r1;exact⟨some i,H1,I1,.int i t,q⟩
def SlR(X:Cx)(r:V->Option Int->Option Int->Hp->VK->Prop): Prop:=
 ∀(pins:List (Addr×Obj)) (s:Shared) (σ : St) (H:Hp) (x:V) (v vl vu:Value) (lo hi:Option Int) (sl:Addr) (Q:VK),Inv X pins σ H s->RelV x v->s.heap.IsSliceOf sl vl vu .none->IsPart vl lo->IsPart vu hi->r x lo hi H Q ->
  ∃T id,typeLookup (.type T) "__getitem__" = pure (some (.builtin id))/\s.TypeIs v T/\wpAny (model X.prog X.w) X.A (getItem v (.ref sl)) (EP X pins σ Q) X.xe s
theorem SlR.or{r r':V->Option Int->Option Int->Hp->VK->Prop}(h:SlR X r)(h':SlR X r'): SlR X (fun x lo hi H Q=>r x lo hi H Q\/r' x lo hi H Q):=by
 intro pins s σ H x v vl vu lo hi sl Q I rx hs pl pu q;rcases q with q|q
 ·exact h pins s σ H x v vl vu lo hi sl Q I rx hs pl pu q
 ·exact h' pins s σ H x v vl vu lo hi sl Q I rx hs pl pu q
def tSl(r:V->Option Int->Option Int->Hp->VK->Prop)(te:TE)(tl th:TO): TE:=fun σ H Q=>te σ H fun x H1=>tl σ H1 fun l H2=>th σ H2 fun u H3=>r x l u H3 Q
theorem qgo{r:V->Option Int->Option Int->Hp->VK->Prop}(hr:SlR X r)(he:PE X e te)(hl:PO X lo tl)(hu:PO X hi th): PE X (.Subscript e (.Slice lo hi none p2) pos) (tSl r te tl th):=by
 intro pins s σ H Q I h;refine Subscript_ (thn (he pins s σ H _ I h) fun v s1 ⟨x,H1,I1,r1,q1⟩=>?_);refine wpAny_Slice (thn (hl pins s1 σ H1 _ I1 q1) fun vl s2 ⟨l,H2,I2,pl,q2⟩=>thn (hu pins s2 σ H2 _ I2 q2) fun vu s3 ⟨u,H3,I3,pu,q3⟩=>?_);rw [evalPart_none];refine gh ?_;have I4:Inv X pins σ H3 {s3 with heap:=s3.heap.push {cls:=.type "slice",data:=.fields #[vl,vu,.none]} }:=I3.kept (t':=s3.toks) fun b ob q=>g9 _ q;obtain⟨T,id,hT,ht,hg⟩:=hr pins {s3 with heap:=s3.heap.push {cls:=.type "slice",data:=.fields #[vl,vu,.none]} } σ H3 x v vl vu l u s3.heap.objs.size Q I4 r1 (Heap.IsSliceOf.new ..) pl pu q3;show wpAny (model X.prog X.w) X.A (subscriptTail e (.Slice lo hi none p2) v (.ref s3.heap.objs.size)) (EP X pins σ Q) X.xe {s3 with heap:=s3.heap.push {cls:=.type "slice",data:=.fields #[vl,vu,.none]} };exact tail_any (ops:=[.ref s3.heap.objs.size,v]) ht hT hg (by with_unfolding_all rfl)
def q0t(xs:List V)(lo hi:Option Int): List V:=(xs.drop (HT.sIx xs.length 0 lo)).take (HT.sIx xs.length xs.length hi-HT.sIx xs.length 0 lo)
theorem q4z(xs:List V)(lo hi:Option Int): (q0t xs lo hi).length<=xs.length:=by
 unfold q0t;rw [tf,uo];omega
def qp4(K:PySem.W.Frag): V->Option Int->Option Int->Hp->VK->Prop:=fun x lo hi H Q=>∃a xs,x=.ref a/\SqT K H a xs /\
 ¬(HT.sIx xs.length 0 lo=0/\HT.sIx xs.length xs.length hi=xs.length)/\∀p,H p=none->Q (.ref p) (upd H p (.tup (q0t xs lo hi)))
theorem sl_tup:SlR X (qp4 X.K):=by
 intro pins s σ H x v vl vu lo hi sl Q I rx hs pl pu h;obtain⟨a,xs,rfl,hx,hw,q⟩:=h;cases rx;obtain⟨its,r,ht,hz⟩:=I.tuple hx;have hlen:its.toArray.size=xs.length:=by rw [gf];exact r.length.symm
 refine⟨"tuple",_,u0.lookup,ht.typeIs,?_⟩;refine HT.getItem_tuple_cut ht hs pl pu (by rw [hlen];exact hw) ?_ (by rw [hlen];exact hz);rw [hlen];refine⟨.ref s.heap.objs.size,_,I.laid (t':=s.toks) (o:=.tup (q0t xs lo hi)) (fun b ob q=>g9 _ q) (gu _) ?_,rfl,q _ (I.hok.fresh (gu _))⟩;exact⟨ml (q4z xs lo hi) hz,_,(r.drop (HT.sIx xs.length 0 lo)).take (HT.sIx xs.length xs.length hi-HT.sIx xs.length 0 lo),TupX.new _ _⟩
def qo9(K:PySem.W.Frag): R2:=fun x y H Q=>∃a b xs ys,x=.ref a/\y=.ref b/\SqT K H a xs/\SqT K H b ys/\xs≠[]/\xs.length+ys.length<=sizeLine /\
 (ys=[]->Q (.ref a) H)/\(ys≠[]->∀p,H p=none->Q (.ref p) (upd H p (.tup (xs++ys))))
theorem Vals.nil_iff{xs:List V}{us:List Value}(r:Vals xs us): us=[]↔xs=[]:=by
 cases r with
 | nil=>simp
 | cons _ _=>simp
theorem qjb:OpR X (binaryOp .Add) (qo9 X.K):=by
 intro pins s σ H x y v u Q I rx ry h;obtain⟨a,b,xs,ys,rfl,rfl,ha,hb,hx,hz,q1,q2⟩:=h;cases rx;cases ry;obtain⟨its,r1,p1,_⟩:=I.tuple ha;obtain⟨its2,r2,p2,_⟩:=I.tuple hb;refine HT.cat_tup p1 p2 (fun z=>hx (r1.nil_iff.mp z)) (fun z=>⟨.ref a,H,I,rfl,q1 (r2.nil_iff.mp z)⟩) (fun z=>?_) (by rw [<- r1.length, <- r2.length];exact hz);refine⟨.ref s.heap.objs.size,_,I.laid (t':=s.toks) (o:=.tup (xs++ys)) (fun b ob q=>g9 _ q) (gu _) ?_,rfl,q2 (fun w=>z (r2.nil_iff.mpr w)) _ (I.hok.fresh (gu _))⟩;exact⟨by rw [n9];exact hz,_,r1.append r2,TupX.new _ _⟩
end
def ixN(n:Nat)(i:Int): Option Nat:=if 0<=i then(if i<n then some i.toNat else none) else if -(n:Int)<=i then some (i+n).toNat else none
def atI{α : Type}(xs:List α)(i:Int): Option α :=(ixN xs.length i).bind fun j=>xs[j]?
theorem qjc{n:Nat}{i:Int}{j:Nat}(h:ixN n i=some j): seqIndex? i n=some j/\j<n /\ -(n:Int)<=i/\i<n:=by
 unfold ixN at h
 by_cases h0:0<=i
 ·rw [m4 h0] at h
  by_cases h1:i<n
  ·rw [m4 h1] at h
   have e:i.toNat=j:=m6 h;exact⟨by rw [seqIndex_of h0 h1,e],by omega,by omega,h1⟩
  ·rw [m9 h1] at h;cases h
 ·rw [m9 h0] at h
  by_cases h1 : -(n:Int)<=i
  ·rw [m4 h1] at h
   have e:(i+n).toNat=j:=m6 h;exact⟨by rw [seqIndex_neg (by omega) h1,e],by omega,h1,by omega⟩
  ·rw [m9 h1] at h;cases h
theorem q78{α : Type}{xs:List α}{i:Int}{v : α}(h:atI xs i=some v): ∃j,seqIndex? i xs.length=some j/\xs[j]? = some v/\j<xs.length /\ -(xs.length:Int)<=i/\i<xs.length:=by
 unfold atI at h;cases e:ixN xs.length i with
 | none=>rw [e] at h;cases h
 | some j=>
  rw [e] at h;obtain⟨h1,h2,h3,h4⟩:=qjc e;exact⟨j,h1,h,h2,h3,h4⟩
def q79(b:Expr): Prop:=∀o i,subscripted b false o i=operate [o,i] (getItem o i)
def IxR(X:Cx)(r:R2): Prop:=
 ∀(value slice:Expr) (pins:List (Addr×Obj)) (s:Shared) (σ : St) (H:Hp) (x y:V) (v u:Value) (Q:VK),Inv X pins σ H s->RelV x v->RelV y u->r x y H Q ->
  subscripted slice false v u=operate [v,u] (getItem v u)->wpAny (model X.prog X.w) X.A (subscriptTail value slice v u) (EP X pins σ Q) X.xe s
def MtR(X:Cx)(id:String)(r:V->List V->Hp->VK->Prop): Prop:=
 ∀(pins:List (Addr×Obj)) (s:Shared) (σ : St) (H:Hp) (x:V) (xs:List V) (v:Value) (us:List Value) (Q:VK),Inv X pins σ H s->RelV x v->Vals xs us->r x xs H Q ->
  wpAny (model X.prog X.w) X.A (call (.builtin id) (v :: us)) (EP X pins σ Q) X.xe s
section
variable{X:Cx}{a b:Expr}{ta tb:TE}{pos:Pos}
theorem IxR.or{r r':R2}(h:IxR X r)(h':IxR X r'): IxR X (fun x y H Q=>r x y H Q\/r' x y H Q):=by
 intro value slice pins s σ H x y v u Q I rx ry q hs;rcases q with q|q
 ·exact h value slice pins s σ H x y v u Q I rx ry q hs
 ·exact h' value slice pins s σ H x y v u Q I rx ry q hs
theorem qik{r:R2}(hr:IxR X r)(ha:PE X a ta)(hb:PE X b tb)(hs:q79 b): PE X (.Subscript a b pos) (tOp r ta tb):=by
 intro pins s σ H Q I h;exact Subscript_ (qgh ha hb I h fun v u s2 x y H2 I2 rx ry q=>hr a b pins s2 σ H2 x y v u Q I2 rx ry q (hs _ _))
def qm2(K:PySem.W.Frag): R2:=fun x y H Q=>∃p xs i v,x=.ref p/\y=.int i/\SqL K H p xs/\atI xs i=some v/\Q v H
def qm3(K:PySem.W.Frag): R2:=fun x y H Q=>∃p xs i v,x=.ref p/\y=.int i/\SqT K H p xs/\atI xs i=some v/\Q v H
def rIxS:R2:=fun x y H Q=>∃z i c,x=.str z/\y=.int i/\z.length<=sizeLine/\atI z.cps.toList i=some c/\Q (.str ⟨#[c]⟩) H
theorem ix_list:IxR X (qm2 X.K):=by
 intro value slice pins s σ H x y v u Q I rx ry h hs;obtain⟨p,xs,i,z,rfl,rfl,hq,he,q⟩:=h;cases rx;obtain⟨t,rfl⟩:=ry;obtain⟨its,r,pl,hz⟩:=I.list hq;obtain⟨j,h1,h2,h3,h4,h5⟩:=q78 he;obtain⟨w,ew,rw'⟩:=r.get h2;have hl:=r.length;have hn:=q3a;have fin:EP X pins σ Q w s:=⟨z,H,I,rw',q⟩
 by_cases h0:0<=i
 ·have hj:i.toNat=j:=by
   rw [seqIndex_of h0 h5] at h1;exact m6 h1
  exact item_listR pl.isList h0 (by omega) (by rw [hj];simpa using ew) fin hs
 ·have hj:(i+(its.toArray.size:Int)).toNat=j:=by
   rw [seqIndex_neg (by omega) h4] at h1;rw [gf, <- hl];exact m6 h1
  exact subscriptTail_builtinR (x:=w) pl.isList.typeIs slot_list_getitem.lookup
   (wpAny_getItem_list_neg (Q:=fun r s'=>r=w/\EP X pins σ Q r s') pl.isList (by omega) (by rw [gf] <;> omega) (by omega) (by rw [hj];simpa using ew) ⟨rfl,fin⟩) hs
theorem ix_tup:IxR X (qm3 X.K):=by
 intro value slice pins s σ H x y v u Q I rx ry h hs;obtain⟨p,xs,i,z,rfl,rfl,hq,he,q⟩:=h;cases rx;obtain⟨t,rfl⟩:=ry;obtain⟨its,r,pl,hz⟩:=I.tuple hq;obtain⟨j,h1,h2,h3,h4,h5⟩:=q78 he;obtain⟨w,ew,rw'⟩:=r.get h2;have hl:=r.length;have hn:=q3a;have fin:EP X pins σ Q w s:=⟨z,H,I,rw',q⟩
 exact subscriptTail_builtinR (x:=w) pl.typeIs slot_tuple_getitem.lookup
  (getItem_tuple (j:=j) (Q:=fun r s'=>r=w/\EP X pins σ Q r s') pl (by omega) (by omega) (by rw [gf, <- hl];exact h1) (by simpa using ew) ⟨rfl,fin⟩) hs
theorem qm4:IxR X rIxS:=by
 intro value slice pins s σ H x y v u Q I rx ry h hs;obtain⟨z,i,c,rfl,rfl,hz,he,q⟩:=h;obtain⟨t,rfl⟩:=rx;obtain⟨t',rfl⟩:=ry;obtain⟨j,h1,h2,h3,h4,h5⟩:=q78 he;have hl:z.cps.toList.length=z.length:=by simp [Str.length]
 rw [hl] at h1 h4 h5;have hn:=q3a;exact tail_any (typeIs_str s z t) slot_str_getitem.lookup (getItem_str (c:=c) (by
  have e1:decide (i < -(2 ^ 63:Int))=false:=p9 (by omega);have e2:decide (i>=2 ^ 63)=false:=p9 (by omega);rw [e1,e2,Bool.or_false]) (by rw [h1];simpa using h2) ⟨.str ⟨#[c]⟩,H,I.tok _,⟨_,rfl⟩,q⟩) hs
def rIx(K:PySem.W.Frag): R2:=fun x y H Q=>qm2 K x y H Q\/qm3 K x y H Q\/rIxS x y H Q
theorem qm5:IxR X (rIx X.K):=ix_list.or (ix_tup.or qm4)
theorem q93(lo hi:Option Int)(n:Nat): (sliceBounds lo hi none n).1=((HT.sIx n 0 lo:Nat):Int)/\(sliceBounds lo hi none n).2.1=((HT.sIx n n hi:Nat):Int)/\(sliceBounds lo hi none n).2.2=1:=by
 refine⟨?_,?_,rfl⟩
 ·cases lo with
  | none=>simp [sliceBounds,HT.sIx]
  | some i=>
   simp only [sliceBounds,HT.sIx,Option.getD_none,show(1:Int)>0 by decide,ny]
   by_cases h:i<0
   ·simp only [h,ny] <;> omega
   ·simp only [h,nt] <;> omega
 ·cases hi with
  | none=>simp [sliceBounds,HT.sIx]
  | some i=>
   simp only [sliceBounds,HT.sIx,Option.getD_none,show(1:Int)>0 by decide,ny]
   by_cases h:i<0
   ·simp only [h,ny] <;> omega
   ·simp only [h,nt] <;> omega
theorem q8j(its:List Value)(lo hi:Option Int): slicePick its.toArray lo hi none=((its.drop (HT.sIx its.length 0 lo)).take (HT.sIx its.length its.length hi-HT.sIx its.length 0 lo)).toArray:=by
 obtain⟨h1,h2,h3⟩:=q93 lo hi its.toArray.size;unfold slicePick;rw [h1,h2,h3];simp only [sliceRange_one,pick_run,gf] <;> rfl
def qp5(K:PySem.W.Frag): V->Option Int->Option Int->Hp->VK->Prop:=fun x lo hi H Q=>∃a xs,x=.ref a/\SqL K H a xs/\∀p,H p=none->Q (.ref p) (upd H p (.lst (q0t xs lo hi)))
theorem sl_list:SlR X (qp5 X.K):=by
 intro pins s σ H x v vl vu lo hi sl Q I rx hs pl pu h;obtain⟨a,xs,rfl,hx,q⟩:=h;cases rx;obtain⟨its,r,ht,hz⟩:=I.list hx;have hlen:=r.length;refine⟨"list",_,slot_list_getitem.lookup,ht.isList.typeIs,?_⟩;refine wpAny_getItem_list_slice ht.isList hs pl pu .none (by simp) ?_ (by rw [gf] <;> omega);rw [q8j, <- hlen];refine⟨.ref s.heap.objs.size,_,I.laid (t':=s.toks) (o:=.lst (q0t xs lo hi)) (fun b ob q=>g9 _ q) (gu _) ?_,rfl,q _ (I.hok.fresh (gu _))⟩;exact⟨ml (q4z xs lo hi) hz,_,0,(r.drop (HT.sIx xs.length 0 lo)).take (HT.sIx xs.length xs.length hi-HT.sIx xs.length 0 lo),ma _ rfl⟩
def q8t:V->Bool
 | .non=>true
 | .bl _=>true
 | .int _=>true
 | .str _=>true
 | _=>false
def eqV:V->V->Bool
 | .non,.non=>true
 | .bl a,.bl b=>a==b
 | .bl a,.int b=>(if a then 1 else 0)==b
 | .int a,.bl b=>a==(if b then 1 else 0)
 | .int a,.int b=>a==b
 | .str a,.str b=>a==b
 | _,_=>false
theorem qm6{A:Around}{s:Shared}{y x:V}{u v:Value}(ry:RelV y u)(rx:RelV x v)(fy:q8t y=true)(fx:q8t x=true): SeqAt.EqAt A s u v (eqV y x):=by
 cases y with
 | non=>
  cases ry;cases x with
  | non=>cases rx;exact g3y _
  | bl b=>cases rx;exact SeqAt.EqAt.none_bool b
  | int b=>obtain⟨t,rfl⟩:=rx;exact SeqAt.EqAt.none_int b t
  | str b=>obtain⟨t,rfl⟩:=rx;exact SeqAt.EqAt.none_str b t
  | _=>exact absurd (show false=true from fx) gz
 | bl a=>
  cases ry;cases x with
  | non=>cases rx;exact SeqAt.EqAt.bool_none a
  | bl b=>cases rx;exact SeqAt.EqAt.bool_bool a b
  | int b=>obtain⟨t,rfl⟩:=rx;exact SeqAt.EqAt.bool_int a b t
  | str b=>obtain⟨t,rfl⟩:=rx;exact SeqAt.EqAt.bool_str a b t
  | _=>exact absurd (show false=true from fx) gz
 | int a=>
  obtain⟨t',rfl⟩:=ry;cases x with
  | non=>cases rx;exact SeqAt.EqAt.int_none a t'
  | bl b=>cases rx;exact SeqAt.EqAt.int_bool a t' b
  | int b=>obtain⟨t,rfl⟩:=rx;exact SeqAt.EqAt.int_int a t' b t
  | str b=>obtain⟨t,rfl⟩:=rx;exact SeqAt.EqAt.int_str a t' b t
  | _=>exact absurd (show false=true from fx) gz
 | str a=>
  obtain⟨t',rfl⟩:=ry;cases x with
  | non=>cases rx;exact SeqAt.EqAt.str_none a t'
  | bl b=>cases rx;exact SeqAt.EqAt.str_bool a t' b
  | int b=>obtain⟨t,rfl⟩:=rx;exact SeqAt.EqAt.str_int a t' b t
  | str b=>obtain⟨t,rfl⟩:=rx;exact SeqAt.EqAt.str_str a t' b t
  | _=>exact absurd (show false=true from fx) gz
 | _=>exact absurd (show false=true from fy) gz
theorem q8k:xf X (.type "tuple") (fun xs H Q=>∃p ys,xs=[.ref p]/\((SqL X.K H p ys/\∀l,H l=none->Q (.ref l) (upd H l (.tup ys)))\/(SqT X.K H p ys/\Q (.ref p) H))):=by
 intro pins s σ H xs us Q I r h;obtain⟨p,ys,rfl,h⟩:=h;obtain⟨u,rfl,rx⟩:=vals1 r;cases rx;rcases h with⟨hq,q⟩|⟨hq,q⟩
 ·obtain⟨its,r',pl,hz⟩:=I.list hq
  have hlen:=r'.length;refine call_tuple_list pl.isList (fun h' kp=>?_) (by simp only [gf] <;> omega);have I1:Inv X pins σ H {s with heap:=h'}:=I.kept (t':=s.toks) kp;have I2:Inv X pins σ (upd H h'.objs.size (.tup ys)) {s with heap:=h'.push {cls:=.type "tuple",data:=.seq its.toArray} }:=
   I1.laid (t':=s.toks) (fun b o e=>g9 _ e) (gu _) (show ObjOk X.prog X.w _ _ _ (.tup ys) from⟨hz,its,r',TupX.new _ _⟩)
  exact⟨.ref h'.objs.size,_,I2,rfl,q _ (I1.hok.fresh (gu _))⟩
 ·obtain⟨its,r',pl,hz⟩:=I.tuple hq
  exact call_tuple_same pl ⟨.ref p,H,I,rfl,q⟩
def tyV(K:PySem.W.Frag)(T:String)(x:V)(H:Hp): Prop:=match x with
 | .str _=>T="str"
 | .int _=>T="int"
 | .ref p=>(T="list" /\ ∃xs,SqL K H p xs)\/(T="tuple" /\ ∃o,K.lookup p=some o/\o.cls=.type "tuple" /\ o.dict=none) \/
   (T="dict" /\ ((∃kvs,H p=some (.dK kvs))\/∃kvs,H p=some (.dT kvs)))\/(T="set" /\ ∃S n,H p=some (.set S n))
 | _=>False
theorem qm7{pins:List (Addr×Obj)}{σ : St}{H:Hp}{s:Shared}{T:String}{x:V}{v:Value}(I:Inv X pins σ H s)(r:RelV x v)(ty:tyV X.K T x H):
  s.TypeIs v T/\∀a,v=.ref a->∃ob,s.heap.get? a=some ob/\ob.dict=none:=by
 cases x with
 | str z=>
  obtain⟨t,rfl⟩:=r;cases(show T="str" from ty);exact⟨typeIs_str s z t,fun _ e=>nomatch e⟩
 | int i=>
  obtain⟨t,rfl⟩:=r;cases(show T="int" from ty);exact⟨typeIs_int s i t,fun _ e=>nomatch e⟩
 | ref p=>
  cases r;rcases ty with⟨rfl,xs,hq⟩|⟨rfl,o,hk,hc,hd⟩|⟨rfl,hk⟩|⟨rfl,S,n,hk⟩
  ·obtain⟨its,_,pl,_⟩:=I.list hq
   refine⟨pl.isList.typeIs,fun a e=>?_⟩;cases e;obtain⟨o,n,e,c,hd,_⟩:=pl;exact⟨o,e,hd⟩
  ·refine⟨⟨o,I.kIn p o hk,hc⟩,fun a e=>?_⟩
   cases e;exact⟨o,I.kIn _ o hk,hd⟩
  ·have z:∃o,s.heap.get? p=some o/\o.ExactDict:=by
    rcases hk with⟨kvs,hk⟩|⟨kvs,hk⟩
    ·obtain⟨_,_,_,_,o,_,_,e,ex,_⟩:=I.hok p _ hk
     exact⟨o,e,ex⟩
    ·obtain⟨_,_,_,_,o,_,_,e,ex,_⟩:=I.hok p _ hk
     exact⟨o,e,ex⟩
   obtain⟨o,e,ex⟩:=z;refine⟨⟨o,e,ex.1⟩,fun a e2=>?_⟩;cases e2;exact⟨o,e,ex.2.1⟩
  ·obtain⟨o,_,_,_,e,ex,_⟩:=I.hok p _ hk
   refine⟨⟨o,e,ex.1⟩,fun a e2=>?_⟩;cases e2;exact⟨o,e,ex.2.1⟩
 | _=>exact False.elim ty
def tBM(K:PySem.W.Frag)(T:String)(r:V->List V->Hp->VK->Prop)(to:TE)(t:TA): TE:=fun σ H Q=>to σ H fun x H1=>tyV K T x H1/\t σ H1 fun xs H2=>r x xs H2 Q
variable{o e:Expr}{es:List Expr}{to:TE}{t:TA}{name:Str}{apos cpos:Pos}{T id:String}{r:V->List V->Hp->VK->Prop}
theorem q5y(pa:PlainAttrs T)(slot:Slot T name id)(hty:typeOf (.builtin id)=pure (.type "method_descriptor"))(hm:MtR X id r)(ho:PE X o to)(ha:PA X (e :: es) t)
  (hbase:attributeBase o name X.env (eval o X.env)=eval o X.env:=by rfl)
  (hfew:((backTo cpos (starEach (e :: es) X.env)).all (fun x=> !x.1)&&(backToKw cpos (keywordEach [] X.env)).all (fun x=>x.1.isSome)
   && decide ((e :: es).length+([]:List Keyword).length+(if([]:List Keyword).isEmpty then 0 else 1)<30))=true:=by rfl)
  (hline:(apos.endLine==cpos.line)=true:=by rfl) (hs:starEach (e :: es) X.env=(false,eval e X.env) :: starEach es X.env:=by rfl) (hplain:(backTo cpos (starEach es X.env)).any (·.1)=false:=by rfl) :
  PE X (.Call (.Attribute o name apos) (e :: es) [] cpos) (tBM X.K T r to t):=by
 intro pins s σ H Q I h;refine wpAny_Call_method_late hbase hfew hline rfl (thn (ho pins s σ H _ I h) fun v s1 ⟨x,H1,I1,r1,ty,q1⟩=>?_);obtain⟨h1,h2⟩:=qm7 I1 r1 ty;refine⟨T,id,pa,slot,hty,h1,h2,?_⟩;have hA:=ha cpos pins s1 σ H1 _ I1 q1;rw [hs] at hA ⊢;refine Calls.callWith_builtin (by show(false || (backTo cpos (starEach es X.env)).any (·.1))=false;rw [hplain] <;> rfl) (Calls.evalArgs_plain ?_);exact thn hA fun us s2 ⟨vs,H2,I2,r2,q2⟩=>hm pins s2 σ H2 x vs v us Q I2 r1 r2 q2
end
def MtM(X:Cx)(id:String)(r:V->List V->Hp->VK->Prop): Prop:=
 ∀(pins:List (Addr×Obj)) (s:Shared) (σ : St) (H:Hp) (x:V) (xs:List V) (v:Value) (us:List Value) (Q:VK),Inv X pins σ H s->RelV x v->Vals xs us->r x xs H Q ->
  wpAny (model X.prog X.w) X.A (call (.builtin id) (v :: us)) (EP X pins σ Q) X.xe s
theorem Vals.one:∀ {x:V} {us:List Value},Vals [x] us->∃u,us=[u]/\RelV x u
 | _,_,.cons r .nil=>⟨_,rfl,r⟩
theorem Vals.two:∀ {x y:V} {us:List Value},Vals [x,y] us->∃u v,us=[u,v]/\RelV x u/\RelV y v
 | _,_,_,.cons r (.cons q .nil)=>⟨_,_,rfl,r,q⟩
section
variable{X:Cx}{pins:List (Addr×Obj)}{σ : St}{H:Hp}{s:Shared}{l b:Addr}{xs ys zs:List V}
theorem Inv.lset{its its':List Value}{n:Nat}{f:Array Value->Array Value}{t':Nat}(I:Inv X pins σ H s)(hH:H l=some (.lst xs))
  (e:s.heap.get? l=some {cls:=.type "list",data:=.seq its.toArray n}) (hf:f its.toArray=its'.toArray) (hv:Vals ys its') (hz:ys.length<=sizeLine) :
  Inv X pins σ (upd H l (.lst ys)) {s with heap:=s.heap.update l (Obj.mapSeq f),toks:=t'}:=by
 have q:=PySem.IsL.update e f;rw [hf] at q;refine I.write (x:=l) (e:=l) (by rw [hH];exact trivial) (.inl rfl) (fun b' u hb hu=>(g20 s.heap (Obj.mapSeq f) (mi hb)).trans hu) ⟨_,q⟩ ?_;exact⟨hz,its',_,hv,q⟩
theorem Inv.lnew{its:List Value}{t':Nat}(I:Inv X pins σ H s)(hv:Vals ys its)(hz:ys.length<=sizeLine):
  Inv X pins σ (upd H s.heap.objs.size (.lst ys)) {s with heap:=s.heap.push {cls:=.type "list",data:=.seq its.toArray},toks:=t'}:=
 I.laid (fun _ _ q=>g9 _ q) (gu _) ⟨hz,its,0,hv,ma _ rfl⟩
theorem Inv.fresh(I:Inv X pins σ H s): H s.heap.objs.size=none:=I.hok.fresh (gu _)
theorem Inv.lstM(I:Inv X pins σ H s)(hH:H l=some (.lst xs)): xs.length<=sizeLine/\∃(its:List Value) (n:Nat),Vals xs its/\xs.length=its.length/\s.heap.get? l=some {cls:=.type "list",data:=.seq its.toArray n}:=by
 obtain⟨z,its,n,r,e⟩:=I.hok l _ hH;exact⟨z,its,n,r,r.length,e⟩
theorem qgp{n:Nat}(h:n<=sizeLine): Builtin.List.listTooLong n=false:=by
 unfold Builtin.List.listTooLong;exact p9 (by omega)
end
section
variable{X:Cx}
def rAppend:V->List V->Hp->VK->Prop:=fun x vs H Q=>∃l xs y,x=.ref l/\vs=[y]/\H l=some (.lst xs)/\xs.length<sizeLine/\Q .non (upd H l (.lst (xs++[y])))
theorem q3b:MtM X "list.append" rAppend:=by
 intro pins s σ H x vs v us Q I rx rv h;obtain⟨l,xs,y,rfl,rfl,hH,hz,q⟩:=h;cases rx;obtain⟨u,rfl,ru⟩:=rv.one;obtain⟨z,its,n,r,hl,e⟩:=I.lstM hH;refine g2f F.slot_list_append ⟨_,e,rfl⟩ F.entry_list_append (F.args_list_append_2 _ _) (PySem.list_append l its.toArray n u (by rw [gf];omega)) ⟨e,?_⟩;refine⟨.non,_,I.lset (its':=its++[u]) hH e (by simp) (r.append (.cons ru .nil)) ?_,rfl,q⟩;rw [n9,g0l];omega
end
section
variable{prog:Program}{w:World}{A:Around}{E:Value->Shared->Prop}{s:Shared}
end
section
variable{X:Cx}
end
end L2
namespace Att
open PySem PySem.W PySem.Calls PyProof.Rows
theorem q5z{P:Params}{h:Heap}: ∀(ns:List Int) (vs:List Value),WellAll P h vs (ns.map WData.int)->IntsAre vs ns:=by
 intro ns
 induction ns with
 | nil=>
  intro vs w;rw [g04] at w;cases w;exact .nil
 | cons n ns ih=>
  intro vs w;rw [gd] at w;cases w with
  | cons a b=>
   cases a;exact .cons _ _ (ih _ b)
theorem qev{l:OpenLaw}{n:Nat}(hn:l.most=some n){P:Params}{h:Heap}{args:List WData}{vals:List Value}
  (hpre:l.row.toRowW.claim.pre args=true) (hwl:WellAll P h vals args) :
  ∃a vs ns,vals=[Value.ref a]/\args=[WData.list (ns.map WData.int)]/\h.get? a=some {cls:=.type "list",data:=.seq vs.toArray}/\IntsAre vs ns/\ns.length<=n:=by
 have hsh:WShape.hasAll [] args [.list .int]=true:=(pre_splitW hpre).1;have hc:l.pre.holds [] {args:=args}=true:=(pre_splitW hpre).2;obtain⟨d,r,rfl,h1,h2⟩:=hasAllW_cons hsh;obtain rfl:=hasAllW_nil h2;obtain⟨xs,rfl,h3⟩:=hasW_list h1;obtain⟨ns,rfl⟩:=items_int h3;have hlen:ns.length<=n:=by
  unfold OpenLaw.pre at hc;have h4:(WTm.not (.lt (.lit (.int (n:Int))) (.len (.arg 0)))).holds [] {args:=[.list (ns.map .int)]}=true:=by
   have h4:=(holds_andW hc).1;rw [hn] at h4;exact h4
  have h5:=condW_of h4 (w_not (w_lt w_lit (w_len_list (w_arg rfl))));rw [gr] at h5;refine Nat.le_of_not_lt fun q=>?_;have q':(n:Int)<((ns.length:Nat):Int):=by omega
  first
   | (rw [n8 q'] at h5;exact absurd h5 (by decide))
   | (simp at h5;omega)
 cases hwl with
 | cons w1 w2=>
  cases w2;cases w1 with
  | list ho hall=>exact⟨_,_,ns,rfl,rfl,ho,q5z ns _ hall,hlen⟩
theorem qew(l:OpenLaw)(args:List WData): l.row.toRowW.claim.post args (.bool true) args=true:=
 postW_of (r:=l.row.toRowW) (X:=(true==true))
  (show WShape.has [] (.bool true) .bool=true by first|rfl|decide|simp [WShape.has,WShape.arms,WShape.armsAll])
  (show(WTm.eq .res (.lit (.bool true))).value [] {args:=args,res:=some (.bool true),after:=args}=some (.bool (true==true)) from w_eq_bool (w_res rfl) w_lit) rfl
theorem attach_call{l:OpenLaw}{n:Nat}{q:Program}{loose:List Str}{XP:(Str->Option Value)->Heap->Prop}{YP:World->Heap->Prop}{d:DefRec}
  (hn:l.most=some n) (hdf:d.params.defaults=[])
  (call:∀(w:World) (s₀ s₁:Shared) (mg mb:Str->Option Value) (fa:Addr) (o:Obj) (pm cd doc:Value) (a:Addr) (vs:List Value) (ns:List Int),
   Ground q loose [] XP w s₀ mg mb s₁.heap->YP w s₁.heap ->
   s₁.heap.get? fa=some o->o.data=.func (docDef d.name d.params d.body d.scope pm cd doc)->s₁.heap.CodeRec cd d.name->mg d.name=some (.ref fa) ->
   s₁.heap.get? a=some {cls:=.type "list",data:=.seq vs.toArray}->IntsAre vs ns->ns.length<=n->s₁.gens = #[] ->
   codeAny (model l.prog w) callerA (.call (.ref fa) ⟨[.ref a],[]⟩) (fun r s'=>r=.ok (.ret (.bool true))/\OldK s₁.heap s'.heap/\s'.os=s₁.os/\AllBare s'.gens) s₁) :
  WalkO q loose XP YP l.row.toRowW d [] (fun f vs=>PySem.call f vs):=by
 intro w s₀ s₁ mg mb G Y fa o pm cd doc dV kV ho hd hcd hD hmg hg args vals as hpre hlay hrd hwl hlo;obtain rfl:dV=.none:=Dflts.none hD hdf;obtain rfl:kV=.none:=Dflts.noKw hD;obtain⟨a,vs,ns,rfl,rfl,hobj,hints,hlen⟩:=qev hn hpre hwl;refine enter_call (g2e (call w s₀ s₁ mg mb fa o pm cd doc a vs ns G Y ho (fd_plain hd) hcd hmg hobj hints hlen hg) fun r s' hq=>?_);obtain⟨rfl,h2,h3,h4⟩:=hq;exact⟨.inl ⟨.bool true,.bool true,[],rfl,fun _=>rfl,.bool true,qew l _,fun _=>⟨List.Pairwise.nil,fun _ hm=>(nomatch hm)⟩⟩,h2,h3,h4⟩
section
variable{prog:Program}{w:World}{A:Around}{E:Value->Shared->Prop}{s:Shared}{K:Frag}
end
end Att
namespace L2
open PySem PySem.Spec PyProof.Rows
theorem q0k:∀ {vs:List Value} {ns:List Int},IntsAre vs ns->Vals (ns.map V.int) vs
 | _,_,.nil=>.nil
 | _,_,.cons n t h=>.cons ⟨t,rfl⟩ (q0k h)
def xu(s:Stmt): Arguments:=match s with
 | .FunctionDef _ a _ _ _ _ _ _ _ _=>a
 | _=>{posonlyargs:=[],args:=[],vararg:=none,kwonlyargs:=[],kw_defaults:=[],kwarg:=none,defaults:=[]}
def qr(s:Stmt): List Stmt:=match s with
 | .FunctionDef _ _ b _ _ _ _ _ _ _=>b
 | _=>[]
def qd(s:Stmt): Scope:=match s with
 | .FunctionDef _ _ _ _ _ _ sc _ _ _=>sc
 | _=>{kind:=.function,names:=[],isGenerator:=false,isCoroutine:=false}
abbrev CX0:CXT:=fun _ _ _ _ _ _=>False
abbrev E0:XK:=fun _ _ _=>False
theorem qdc{X:Cx}: q5w CX0 X E0:=fun _ _ _ _ _ _ _ h=>h.elim
structure Fun(K:PySem.W.Frag)(x qual:Str)(st:Stmt)(f:Addr)(fd:FuncData): Prop where
 ex:∃(oc:Value) (od:Option Addr) (kV doc pm:Value) (an:Option Addr) (cdv ct:Value) (osl:Array (Option Value)),
  fd=PySem.W.fnOf x qual (xu st) (qr st) (qd st) .none kV doc pm an cdv ct/\K.lookup f=some ⟨oc,od,.func fd,osl⟩/\PySem.W.codeIn K cdv qual=true
 kp:PySem.W.keepIn K (.ref f)=true
section
variable{P:Program}{w:World}{K:PySem.W.Frag}{mg:Str->Option Value}{base:Heap}
end
section
variable{X:Cx}
theorem pv(i:Nat){x:Str}{pos:Pos}(hN:X.N[i]? = some x:=by rfl)(hv:Vis X.env.scope x:=by first|exact Or.inl rfl|exact Or.inr (Or.inl rfl)|exact Or.inr (Or.inr rfl))(hd:(x==("__debug__" : Str))=false:=by decide)
  (hcd:(x==("__classdict__" : Str))=false:=by decide):PE X (.Name x pos) (q5a i):=qlf hN hv hd hcd
end
theorem qp6{A B:Prop}(h:B): if false=true then A else B:=by
 rw [m9 gz];exact h
theorem qp7{A B:Prop}(h:A): if true=true then A else B:=by
 rw [m4 rfl];exact h
def Same(H H':Hp): Prop:=∀b o,H b=some o->H' b=some o
theorem Same.refl(H:Hp): Same H H:=fun _ _ h=>h
theorem Same.trans{H H1 H2:Hp}(a:Same H H1)(b:Same H1 H2): Same H H2:=fun c o h=>b c o (a c o h)
theorem Same.free{H H':Hp}(e:Same H H'){l:Addr}(h:H' l=Option.none): H l=Option.none:=by
 cases q:H l with
 | none=>rfl
 | some o=>
  rw [e l o q] at h;cases h
theorem Same.seq{K:PySem.W.Frag}{H H':Hp}{a:Addr}{xs:List V}(e:Same H H')(h:SqL K H a xs): SqL K H' a xs:=by
 rcases h with(h|⟨o,h⟩)|h
 ·exact .inl (.inl (e _ _ h))
 ·exact .inl (.inr ⟨o,e _ _ h⟩)
 ·exact .inr h
theorem q16(env:Env): ∀(names:List (Str×NameKind)) (acc:List (Str×Addr)),
  (∀y∈names,y.2=.free->∃c,env.cells.lookup y.1=some c)->(∀x c,acc.lookup x=some c->env.cells.lookup x=some c) ->
  ∃ cl,(forIn names acc (fun(x:Str×NameKind) (r:List (Str×Addr))=>(do
    if x.2==NameKind.free then do
     let a <- cellOf env x.1
     pure (ForInStep.yield ((x.1,a) :: r))
    else pure (ForInStep.yield r):Sem (ForInStep (List (Str×Addr))))):Sem (List (Str×Addr)))=pure cl /\
   (∀x c,cl.lookup x=some c->env.cells.lookup x=some c)/\(∀x c,acc.lookup x=some c->∃d,cl.lookup x=some d)/\(∀y∈names,y.2=.free->∃c,cl.lookup y.1=some c)
 | [],acc,_,h2=>⟨acc,rfl,h2,fun x c h=>⟨c,h⟩,fun y hy=>by cases hy⟩
 | (n,k) :: r,acc,h1,h2=>by
  by_cases hk:k=NameKind.free
  ·subst hk
   obtain⟨c,hc⟩:=h1 (n,.free) gw rfl;have h2':∀x d,((n,c) :: acc).lookup x=some d->env.cells.lookup x=some d:=fun x d e=>by
    rw [t6] at e
    split at e
    ·rename_i q
     have q':x=n:=by simpa using q
     subst q';cases e;exact hc
    ·exact h2 x d e
   obtain⟨cl,e,a1,a2,a3⟩:=q16 env r ((n,c) :: acc) (fun y hy=>h1 y (gq _ hy)) h2';refine⟨cl,?_,a1,fun x d e2=>?_,fun y hy hf=>?_⟩
   ·rw [g1i]
    simp only [beq_self_eq_true,ny];have hco:cellOf env n=pure c:=by unfold cellOf;rw [hc]
    rw [hco];exact e
   ·by_cases q:x=n
    ·subst q
     exact a2 x c (by rw [t6];simp)
    ·exact a2 x d (by rw [t6,show(x==n)=false by simpa using q];exact e2)
   ·rcases mw.mp hy with rfl|hy
    ·exact a2 n c (by rw [t6];simp)
    ·exact a3 y hy hf
  ·obtain⟨cl,e,a1,a2,a3⟩:=q16 env r acc (fun y hy=>h1 y (gq _ hy)) h2
   refine⟨cl,?_,a1,a2,fun y hy hf=>?_⟩
   ·rw [g1i]
    have hb:(k==NameKind.free)=false:=by simpa using hk
    simp only [hb,m7,nt];exact e
   ·rcases mw.mp hy with rfl|hy
    ·exact absurd hf hk
    ·exact a3 y hy hf
theorem q60{scope:Scope}{env:Env}(h:∀y∈scope.names,y.2=.free->∃c,env.cells.lookup y.1=some c):
  ∃cl,closureFor scope env=pure cl/\(∀x c,cl.lookup x=some c->env.cells.lookup x=some c)/\(∀y∈scope.names,y.2=.free->∃c,cl.lookup y.1=some c):=by
 obtain⟨cl,e,a1,_,a3⟩:=q16 env scope.names [] h (fun x c q=>by cases q);refine⟨cl,?_,a1,a3⟩;unfold closureFor;exact(uy (fun m=>m >>= fun r=>(pure r:Sem (List (Str×Addr)))) e).trans rfl
abbrev qex(ifs:List Expr)(env:Env): Sem Bool:=
 forIn ifs true fun c r=>if r=true then do let ok <- isTrue c env (eval c env);pure (ForInStep.yield ok) else pure (ForInStep.yield r)
def q0u(X:Cx)(ifs:List Expr)(t:TT): Prop:=
 ∀(pins:List (Addr×Obj)) (s:Shared) (σ : St) (H:Hp) (Q:Bool->Hp->Prop),Inv X pins σ H s->t σ H Q->wpAny (model X.prog X.w) X.A (qex ifs X.env) (TP X pins σ Q) X.xe s
def tTrue:TT:=fun _ H Q=>Q true H
theorem qgq{X:Cx}: q0u X [] tTrue:=fun pins s σ H Q I h=>wpAny_tests_nil ⟨H,I,h⟩
theorem qgr{X:Cx}{c:Expr}{t:TT}(h:PT X c t): q0u X [c] t:=fun pins s σ H Q I hq=>wpAny_tests_one (h pins s σ H Q I hq)
section
variable{prog:Program}{w:World}{A:Around}{R:Result->Shared->Prop}{s:Shared}
theorem qb4{elt target iter:Expr}{ifs:List Expr}{scope:Scope}{pos:Pos}{it acc:Value}{env:Env}(I:Nat->Shared->Prop)
  (turn:∀n s,I n s->wpAny (model prog w) A (pyNext it) (fun r s₁=>match r with
   | none=>R (.ok .next) s₁
   | some v=>wpAny (model prog w) A (letOwnedTupleGo target it v) (fun _ s'=>wpAny (model prog w) A (assign target env v) (fun _ s₂=>
     wpAny (model prog w) A (qex ifs env) (fun ok s₃=>
      if ok=true then wpAny (model prog w) A (eval elt env) (fun x s₄=>
       wpAny (model prog w) A (call (.builtin "list.append") [acc,x]) (fun _ s₅=>∃m,m<n/\I m s₅) (fun _ _=>False) s₄) (fun _ _=>False) s₃
      else ∃m,m<n/\I m s₃) (fun _ _=>False) s₂) (fun _ _=>False) s') (fun _ _=>False) s₁) (fun _ _=>False) s)
  (n:Nat) (h:I n s) :
  codeAny (model prog w) A (.compLoop (.ListComp elt [⟨target,iter,ifs,0⟩] scope pos) 0 it acc env) R s:=by
 refine codeAny_loop rfl I (fun n s hI=>?_) n h;show wpAny _ A ((compTurn (.ListComp elt [⟨target,iter,ifs,0⟩] scope pos) 0 it acc env).onRaise (fun x=>do noteFrame x env;theTreesLotGoes x)) _ _ s;refine wpAny_noted ?_;rw [compTurn_list];refine g0 (wpAny_standAt (g0 (t7 (turn n s hI) (fun r s₁ h₁=>?_) fun _ _ h'=>h'.elim)));cases r with
 | none=>exact gh h₁
 | some v=>
  refine g0 (t7 h₁ (fun _ s' h'=>?_) fun _ _ h'=>h'.elim);refine g0 (t7 h' (fun _ s₂ h₂=>g0 (t7 h₂ (fun ok s₃ h₃=>?_) fun _ _ h'=>h'.elim)) fun _ _ h'=>h'.elim);cases ok with
  | false=>exact gh ⟨rfl,h₃⟩
  | true=>
   exact g0 (g0 (t7 h₃ (fun x s₄ h₄=>g0 (t7 h₄ (fun _ s₅ h₅=>gh (gh ⟨rfl,h₅⟩)) fun _ _ h'=>h'.elim)) fun _ _ h'=>h'.elim))
end
abbrev j8(X:Cx)(N':List Str)(scope:Scope)(cl:List (Str×Addr))(C:Addr)(s₀:Shared)(H₀:Hp)(fp:List Addr): Cx:=
 {X with N:=N',env:=compEnvC scope cl C X.env,s₀:=s₀,H₀:=H₀,outer:=X.stack,ex:=fp,fn:=fun _=>false,pn:=[],xe:=fun _ _=>False}
structure CapOk(X:Cx)(N':List Str)(scope:Scope)(cap:List (Option Nat)): Prop where
 kind:scope.kind=.function
 cell:∀y∈scope.names,y.2 ≠ .cell
 names:∀y∈scope.names,y.2=.local->scope.names.lookup y.1=some .local
 frees:∀y∈scope.names,y.2=.free->X.env.kindOf y.1=some .cell\/X.env.kindOf y.1=some .free
 len:cap.length=N'.length
 cap:∀(i j:Nat),cap[i]? = some (some j)->∃x,N'[i]? = some x/\X.N[j]? = some x/\scope.names.lookup x=some .free
def q7a(cap:List (Option Nat))(σ : St): St:=cap.map fun o=>o.bind fun j=>(σ[j]?).join
theorem lookup_mem{α β : Type}[BEq α][LawfulBEq α]{l:List (α × β)}{a : α}{b : β}(h:l.lookup a=some b): (a,b)∈l:=by
 induction l with
 | nil=>cases h
 | cons p r ih=>
  obtain⟨x,y⟩:=p;rw [t6] at h
  split at h
  ·rename_i q
   have q':a=x:=by simpa using q
   subst q';cases h;exact gw
  ·exact gq _ (ih h)
theorem q17{env:Env}: ∀ {names:List (Str×NameKind)} {x:Str} {k:NameKind},(names.map fun(n,k)=>if(k==NameKind.free&&env.scope.kind == .function&&env.kindOf n==some .cell) then(n,NameKind.cell) else(n,k)).lookup x=some k ->
  (names.lookup x=some k)\/(k=.cell/\names.lookup x=some .free)
 | [],_,_,h=>by cases h
 | (n,k0) :: r,x,k,h=>by
  have ih:=@q17 env r x k;have h':List.lookup x ((if(k0==NameKind.free&&env.scope.kind == .function&&env.kindOf n==some .cell)=true then(n,NameKind.cell) else(n,k0)) :: _)=some k:=h
  by_cases hc:(k0==NameKind.free&&env.scope.kind == .function&&env.kindOf n==some .cell)=true
  ·rw [m4 hc,t6] at h'
   have hf:k0=.free:=by
    simp only [gv,g2d] at hc;exact hc.1.1
   cases q:x==n with
   | true=>rw [q] at h';cases h';exact .inr ⟨rfl,by rw [t6,q,hf]⟩
   | false=>rw [q] at h';rw [t6,q];exact ih h'
  ·rw [m9 hc,t6] at h'
   cases q:x==n with
   | true=>rw [q] at h';rw [t6,q];exact .inl h'
   | false=>rw [q] at h';rw [t6,q];exact ih h'
theorem q3c{env:Env}: ∀ {names:List (Str×NameKind)} {x:Str},names.lookup x=some .free ->
  (names.map fun(n,k)=>if(k==NameKind.free&&env.scope.kind == .function&&env.kindOf n==some .cell) then(n,NameKind.cell) else(n,k)).lookup x=some .cell \/
  (names.map fun(n,k)=>if(k==NameKind.free&&env.scope.kind == .function&&env.kindOf n==some .cell) then(n,NameKind.cell) else(n,k)).lookup x=some .free
 | [],_,h=>by cases h
 | (n,k0) :: r,x,h=>by
  have ih:=@q3c env r x;show List.lookup x ((if(k0==NameKind.free&&env.scope.kind == .function&&env.kindOf n==some .cell)=true then(n,NameKind.cell) else(n,k0)) :: _)=_\/List.lookup x ((if(k0==NameKind.free&&env.scope.kind == .function&&env.kindOf n==some .cell)=true then(n,NameKind.cell) else(n,k0)) :: _)=_;rw [t6] at h
  by_cases hc:(k0==NameKind.free&&env.scope.kind == .function&&env.kindOf n==some .cell)=true
  ·rw [m4 hc,t6]
   cases q:x==n with
   | true=>exact .inl rfl
   | false=>rw [q] at h;exact ih h
  ·rw [m9 hc,t6]
   cases q:x==n with
   | true=>rw [q] at h;exact .inr h
   | false=>rw [q] at h;exact ih h
section
variable{X:Cx}{pins:List (Addr×Obj)}{σ : St}{H:Hp}{s:Shared}{N':List Str}{scope:Scope}{cap:List (Option Nat)}{cl:List (Str×Addr)}{fp:List Addr}
theorem qgs(I:Inv X pins σ H s)(co:CapOk X N' scope cap)(h1:∀x c,cl.lookup x=some c->X.env.cells.lookup x=some c)(h2:∀y∈scope.names,y.2=.free->∃c,cl.lookup y.1=some c)
  (hf:∀b∈fp,ko X pins H b) (ho:∀b∈fp,∃o,s.heap.get? b=some o) {h':Heap} {t':Nat} {m:Str->Option Value} (hn:h'.Ns s.heap.objs.size m) (hk:∀b o,s.heap.get? b=some o->h'.get? b=some o) :
  Inv (j8 X N' scope cl s.heap.objs.size s H fp) [] (q7a cap σ) H {s with heap:=h',toks:=t'}:=by
 have flt:∀b∈fp,b<s.heap.objs.size:=fun b hb=>let⟨o,e⟩:=ho b hb;m8 e
 refine⟨⟨I.ok.mod,co.kind,I.ok.glob,I.ok.blt,gu _,fun x y c e1 e2=>I.ok.inj x y c (h1 x c e1) (h1 y c e2),fun x hx=>?_,fun x c z _=>(nomatch z),I.ok.hd,I.ok.frames,.inl rfl,fun b hb=>?_,I.bs,ml I.ok.bsz I.sz,fun b o e hb=>?_,fun b hb z=>?_,I.stack,I.stkFree⟩,
  rfl,I.bare,Un.kept hk,⟨m,hn,fun i x v e1 e2 e3=>?_⟩,fun x c e=>?_,I.hok.fresh (gu _),fun x c e=>I.freeC x c (h1 x c e),fun p hp=>(nomatch hp),I.hok.kept hk,?_⟩
 ·have hx':(relabel scope X.env).names.lookup x=some .cell\/(relabel scope X.env).names.lookup x=some .free:=hx
  have hfree:scope.names.lookup x=some .free:=by
   rcases hx' with q|q
   ·rcases q17 q with z|⟨_,z⟩
    ·exact absurd rfl (co.cell _ (lookup_mem z))
    ·exact z
   ·rcases q17 q with z|⟨z,_⟩
    ·exact z
    ·cases z
  exact h2 (x,.free) (lookup_mem hfree) rfl
 ·obtain⟨f0,f1,f2,f3,f4,f5⟩:=hf b hb
  exact⟨mn (flt b hb),fun x c e=>f4 x c (h1 x c e)⟩
 ·obtain⟨f0,f1,f2,f3,f4,f5⟩:=hf b hb
  rcases f3 with z|z
  ·exact I.ok.noex b o e z
  ·exact absurd (mf (m8 e) (ml I.ok.bsz z)) (g0d _)
 ·obtain⟨f0,f1,f2,f3,f4,f5⟩:=hf b hb
  rcases mw.mp (I.stkSub b z) with q|q
  ·exact f1 q
  ·exact f2 q
 ·-- a captured name
  have e2':(cap.map fun o=>o.bind fun j=>(σ[j]?).join)[i]? = some (some v):=e2;rw [mh] at e2';cases q:cap[i]? with
  | none=>rw [q] at e2';cases e2'
  | some o=>
   rw [q] at e2';cases o with
   | none=>cases e2'
   | some j=>
    obtain⟨y,a1,a2,a3⟩:=co.cap i j q;have e1':N'[i]? = some x:=e1;rw [a1] at e1';obtain rfl:y=x:=m6 e1';have ej:(σ[j]?).join=some v:=by
     have:=e2';simp only [pf,gm,g3d] at this;exact this
    have ej' : σ[j]? = some (some v):=by
     cases z : σ[j]? with
     | none=>rw [z] at ej;cases ej
     | some u=>rw [z] at ej;simp only [g26] at ej;rw [ej]
    have kd:=co.frees (y,.free) (lookup_mem a3) rfl;obtain⟨m0,hn0,hl0⟩:=I.loc;have vis:Vis X.env.scope y:=by
     rcases kd with k|k
     ·exact .inr (.inl k)
     ·exact .inr (.inr k)
    obtain⟨u,ru,lk⟩:=hl0 j y v a2 ej' vis;refine⟨u,ru,.inr ⟨q3c a3,?_⟩⟩;obtain⟨c,hc⟩:=h2 (y,.free) (lookup_mem a3) rfl;rcases lk with⟨k,_⟩|⟨_,c',hc',z⟩
    ·rcases kd with k'|k'
     ·rw [k] at k';cases k'
     ·rw [k] at k';cases k'
    ·have:=h1 _ _ hc
     rw [hc'] at this;obtain rfl:c'=c:=m6 this;obtain⟨o,eo,ed⟩:=z;exact⟨c',hc,o,hk _ _ eo,ed⟩
 ·obtain⟨v,o,eo,ed⟩:=I.cell x c (h1 x c e)
  exact⟨v,o,hk _ _ eo,ed⟩
 ·show(cap.map _).length=N'.length
  rw [gr];exact co.len
theorem qdd{N':List Str}{C:Addr}{H':Hp}{s':Shared}{σ':St}{h':Heap}(I:Inv X pins σ H s)(hf:∀b∈fp,ko X pins H b)(J:Inv (j8 X N' scope cl C s H fp) [] σ' H' s')(hs:Heap.SameBut C s'.heap h'):
  Inv X pins σ H' {s' with heap:=h'}:=by
 have hC:s.heap.objs.size<=C:=J.ok.above;have kp:∀b o,b≠C->s'.heap.get? b=some o->h'.get? b=some o:=fun b o hb e=>(hs.2 b hb).trans e;have hC0:H' C=none:=J.free;have un:Un (frs X.stack) fp H H' s.heap h':=by
  have u:Un (frs X.stack) fp H H' s.heap s'.heap:=J.base;have neC:∀b o,s.heap.get? b=some o->b≠C:=fun b o e=>mn (mf (m8 e) hC);exact⟨fun b o e n h1 h2=>kp b o (neC b o e) (u.keep b o e n h1 h2),fun b o e n h1 h2=>let⟨sl,q⟩:=u.slot b o e n h1 h2; ⟨sl,kp b _ (neC b o e) q⟩,u.free,fun b o e h=>let⟨o',q⟩:=u.there b o e h; ⟨o',kp b o' (neC b o e) q⟩,u.tups,u.frzs,u.tbls⟩
 have hok:HOk X.prog X.w H' h':=fun b u e=>by
  refine(J.hok b u e).stay (fun c v hc q=>kp c v ?_ q) (fun _ q=>q) fun _ _ q=>q;rcases hc with z|z
  ·rw [z];intro z2;rw [z2,hC0] at e;cases e
  ·intro z2;rw [z2,hC0] at z;cases z
 exact I.call' (s':={s' with heap:=h'}) (ch:=fp) J.os un hok J.bare fun b hb=>by
  obtain⟨f0,f1,f2,f3,f4,f5⟩:=hf b hb;exact⟨f3,f1,f4,f5⟩
end
def qm8(J:It)(cap:List (Option Nat))(g:TG)(tc:TT)(te:TE)(σ : St)(H1:Hp)(p:Addr)(K:Hp->Prop): Prop:=
 ∃ W:Nat->Nat->St->Hp->Prop,(∃m,W 0 m (q7a cap σ) (upd H1 p (.lst [])))/\∀i m σ' H',W i m σ' H' ->
  (J.stop i H'/\K H')\/(J.go i H'/\∀x H'',J.yld i H' x H''->g x σ' H'' fun σ2 H2=>tc σ2 H2 fun b H3=>
   if b=true then te σ2 H3 fun y H4=>∃xs,H4 p=some (.lst xs)/\xs.length<sizeLine/\∃m',m'<m/\W (i+1) m' σ2 (upd H4 p (.lst (xs++[y])))
   else ∃m',m'<m/\W (i+1) m' σ2 H3)
def qde(wi:TI)(cap:List (Option Nat))(g:TG)(tc:TT)(te:TE): TE:=fun σ H Q=>wi σ H fun J H1=>∀p,H1 p=none->qm8 J cap g tc te σ H1 p (Q (.ref p))
section
variable{X:Cx}{N':List Str}{scope:Scope}{cap:List (Option Nat)}{tg iter elt:Expr}{ifs:List Expr}{wi:TI}{g:TG}{tc:TT}{te:TE}{pos:Pos}
theorem q7y{cl:List (Str×Addr)}{pins:List (Addr×Obj)}{s:Shared}{σ : St}{H:Hp}{it:Addr}{fp:List Addr}{tn:Nat->Heap->Prop}{J:It}{E:Value->Shared->Prop}{K:Addr->Hp->Prop}
  {RR:Value->Addr->Result->Shared->Prop} (hc:X.calm=true) (co:CapOk X N' scope cap)
  (h1:∀x c,cl.lookup x=some c->X.env.cells.lookup x=some c) (h2:∀y∈scope.names,y.2=.free->∃c,cl.lookup y.1=some c)
  (hg:∀cl C s₀ H₀ fp,PG (j8 X N' scope cl C s₀ H₀ fp) tg g) (hcs:∀cl C s₀ H₀ fp,q0u (j8 X N' scope cl C s₀ H₀ fp) ifs tc) (he:∀cl C s₀ H₀ fp,PE (j8 X N' scope cl C s₀ H₀ fp) elt te)
  (I:Inv X pins σ H s) (T:Turn X.prog X.w X.K tg J fp it tn) (st:tn 0 s.heap) (hf:∀b∈fp,ko X pins H b) (h:∀p,H p=none->qm8 J cap g tc te σ H p (K p))
  (hRR:∀(D C:Addr) (s':Shared) (H':Hp),s.heap.objs.size<=C->(∃m,s'.heap.Ns C m)->(∀h',Heap.SameBut C s'.heap h'->Inv X pins σ H' {s' with heap:=h'})->H' C=none->K D H'->RR (.ref D) C (.ok .next) s') :
  wpAny (model X.prog X.w) X.A (newList []) (fun acc s₃=>wpAny (model X.prog X.w) X.A (newFunctionEnv scope X.env.globals cl [] X.env.qual none .none (some X.env)) (fun cenv s₄=>
   codeAny (model X.prog X.w) X.A (.compStart (.ListComp elt [⟨tg,iter,ifs,0⟩] scope pos) 0 (.ref it) acc {cenv with scope:=relabel scope X.env}) (RR acc cenv.locals) s₄) E s₃) E s:=by
 refine uz (wpAny_newFunctionEnv co.cell (by intro y hy;simp at hy) (fun hh hns hsb=>?_) co.kind);have hD:H s.heap.objs.size=none:=I.fresh;have I3:Inv X pins σ (upd H s.heap.objs.size (.lst [])) {s with heap:=s.heap.push {cls:=.type "list",dict:=none,data:=.seq ([]:List Value).toArray} }:=I.lnew (ys:=[]) (its:=[]) (t':=s.toks) .nil (g0b _);obtain⟨W,⟨m0,w0⟩,turn⟩:=h s.heap.objs.size hD;have fobj:∀b∈fp,∃o,s.heap.get? b=some o:=fun b hb=>let⟨o,e,_⟩:=T.obj 0 _ st b hb; ⟨o,e⟩
 generalize e3:({s with heap:=s.heap.push {cls:=.type "list",dict:=none,data:=.seq ([]:List Value).toArray} }:Shared)=s3 at I3;have es3:s3.heap=s.heap.push {cls:=.type "list",dict:=none,data:=.seq ([]:List Value).toArray}:=by rw [<- e3]
 have eC:(s.heap.push {cls:=.type "list",dict:=none,data:=.seq ([]:List Value).toArray}).objs.size=s3.heap.objs.size:=by rw [es3]
 have hf3:∀b∈fp,ko X pins (upd H s.heap.objs.size (.lst [])) b:=fun b hb=>by
  obtain⟨f0,f1⟩:=hf b hb;obtain⟨o,e⟩:=fobj b hb;exact⟨by rw [qh (mn (m8 e))];exact f0,f1⟩
 have kp:∀b o,s3.heap.get? b=some o->hh.get? b=some o:=fun b o e=>by
  refine hsb.extBut b o ?_ (g9 _ (by rw [<- es3];exact e));show b≠(s.heap.push {cls:=.type "list",dict:=none,data:=.seq ([]:List Value).toArray}).objs.size;rw [eC];exact mn (m8 e)
 have hle:s.heap.objs.size<=s3.heap.objs.size:=by rw [es3,g0g];exact g1e _
 have s3e:∀t:Nat,({s with heap:=hh,toks:=t}:Shared) = {s3 with heap:=hh,toks:=t}:=fun t=>by rw [<- e3]
 have I4:Inv (j8 X N' scope cl s3.heap.objs.size s3 (upd H s.heap.objs.size (.lst [])) fp) [] (q7a cap σ) (upd H s.heap.objs.size (.lst [])) {s3 with heap:=hh,toks:=s.toks+([]:List (Str×Value)).length}:=
  qgs I3 co h1 h2 hf3 (fun b hb=>let⟨o,e⟩:=fobj b hb; ⟨o,by rw [es3];exact g9 _ e⟩) (by rw [<- eC];exact hns) kp
 have st4:tn 0 hh:=T.keep 0 _ _ st fun b hb o e=>kp b o (by rw [es3];exact g9 _ e);have etk:s3.toks+([]:List (Str×Value)).length=s.toks+([]:List (Str×Value)).length:=by rw [<- e3]
 show codeAny (model X.prog X.w) X.A (.compStart (.ListComp elt [⟨tg,iter,ifs,0⟩] scope pos) 0 (.ref it) (.ref s.heap.objs.size) (compEnvC scope cl s3.heap.objs.size X.env)) (RR (.ref s.heap.objs.size) s3.heap.objs.size)
  {s3 with heap:=hh,toks:=s3.toks+([]:List (Str×Value)).length}
 rw [etk];generalize eX:j8 X N' scope cl s3.heap.objs.size s3 (upd H s.heap.objs.size (.lst [])) fp=X' at I4;have hg':PG X' tg g:=by rw [<- eX];exact hg _ _ _ _ _
 have hcs':q0u X' ifs tc:=by rw [<- eX];exact hcs _ _ _ _ _
 have he':PE X' elt te:=by rw [<- eX];exact he _ _ _ _ _
 have eenv:X'.env=compEnvC scope cl s3.heap.objs.size X.env:=by rw [<- eX]
 have exe:X'.xe=fun _ _=>False:=by rw [<- eX]
 have eex:X'.ex=fp:=by rw [<- eX]
 have eprog:X'.prog=X.prog:=by rw [<- eX]
 have ew:X'.w=X.w:=by rw [<- eX]
 have eK:X'.K=X.K:=by rw [<- eX]
 have eA:X'.A=X.A:=by rw [<- eX]
 have ecalm:X'.calm=true:=by rw [<- eX];exact hc
 have epn:X'.pn=[]:=by rw [<- eX]
 have eloc:X'.env.locals=s3.heap.objs.size:=by rw [eenv];rfl
 have ok':=I4.ok;have stat:∀ {H':Hp},(∀b∈fp,H' b=none)->∀b∈fp,ko X' [] H' b:=fun hn b hb=>by
  have hbx:b∈X'.ex:=by rw [eex];exact hb
  exact⟨hn b hb,(ok'.exf b hbx).1,ok'.exfs b hbx,.inl hbx,(ok'.exf b hbx).2,fun p hp=>by rw [epn] at hp;cases hp⟩
 have back:∀ {σ':St} {H':Hp} {s':Shared},Inv X' [] σ' H' s'->K s.heap.objs.size H'->RR (.ref s.heap.objs.size) s3.heap.objs.size (.ok .next) s':=fun {σ' H' s'} J' k=>by
  refine hRR _ _ _ H' hle ?_ (fun h' hs'=>?_) ?_ k
  ·obtain⟨m,hm,_⟩:=J'.loc
   exact⟨m,by rw [<- eloc];exact hm⟩
  ·rw [<- eX] at J'
   exact qdd I3 hf3 J' hs'
  ·rw [<- eloc];exact J'.free
 have loop:codeAny (model X.prog X.w) X.A (.compLoop (.ListComp elt [⟨tg,iter,ifs,0⟩] scope pos) 0 (.ref it) (.ref s.heap.objs.size) (compEnvC scope cl s3.heap.objs.size X.env)) (RR (.ref s.heap.objs.size) s3.heap.objs.size)
   {s3 with heap:=hh,toks:=s.toks+([]:List (Str×Value)).length}:=by
  refine qb4 (fun n s'=>∃i σ' H',Inv X' [] σ' H' s'/\tn i s'.heap/\(∀b∈fp,H' b=none)/\W i n σ' H') ?_ m0 ⟨0,_,_,I4,st4,fun b hb=>(hf3 b hb).1,w0⟩
  rintro n s5 ⟨i, σ5,H5,I5,st5,fr5,w5⟩
  rw [<- eenv];rcases turn i n σ5 H5 w5 with⟨stop,qn⟩|⟨go,step⟩
  ·have:=T.done X' eprog ew eK ecalm i [] s5 σ5 H5 (fun _ _=>False) I5 (stat fr5) st5 stop
   rw [eA] at this;refine thn this fun r s6 ⟨hr,I6⟩=>?_;subst hr;exact back I6 qn
  ·have:=T.item X' eprog ew eK ecalm i [] s5 σ5 H5 (fun _ _=>False) I5 (stat fr5) st5 go
   rw [eA] at this;refine thn this fun r s6 ⟨u,hr,h6⟩=>?_;subst hr;refine thn h6 fun _ s7 ⟨x,H7,I7,r7,y7,st7,fr7⟩=>?_;have I7':=I7.pinned (stat fr7) (T.obj _ _ st7);have hg2:=hg' _ s7 σ5 H7 x u _ I7' r7 (step x H7 y7);rw [exe,eprog,ew,eA] at hg2;refine thn hg2 fun _ s8 ⟨σ8,H8,I8,q8⟩=>?_;have hc2:=hcs' _ s8 σ8 H8 _ I8 q8;rw [exe,eprog,ew,eA] at hc2;refine thn hc2 fun ok s9 ⟨H9,I9,q9⟩=>?_;have again:∀ {H':Hp} {s':Shared} {m':Nat},Inv X' ([]++q24 fp s7.heap) σ8 H' s'->m'<n->W (i+1) m' σ8 H'->∃m,m<n/\∃i σ' H',Inv X' [] σ' H' s'/\tn i s'.heap/\(∀b∈fp,H' b=none)/\W i m σ' H':=fun {H' s' m'} J' hm w'=>by
    refine⟨m',hm,i+1, σ8,H',J'.unpinned,T.keep _ _ _ st7 fun b hb o e=>(J'.pin (b,o) (nj _ (nj _ (q0x hb e)))).1,fun b hb=>?_,w'⟩;obtain⟨o,e,d⟩:=T.obj _ _ st7 b hb;exact(J'.pin (b,o) (nj _ (nj _ (q0x hb e)))).2.1
   cases ok with
   | false=>
    rw [m9 gz] at q9 ⊢;obtain⟨m',hm,w'⟩:=q9;exact again I9 hm w'
   | true=>
    rw [m4 rfl] at q9 ⊢;have he2:=he' _ s9 σ8 H9 _ I9 q9;rw [exe,eprog,ew,eA] at he2;refine thn he2 fun y s10 ⟨yv,H10,I10,r10,xs,hp,hz,m',hm,w'⟩=>?_;have ha2:=q3b (X:=X') ([]++q24 fp s7.heap) s10 σ8 H10 (.ref s.heap.objs.size) [yv] (.ref s.heap.objs.size) [y] (fun _ H'=>H'=upd H10 s.heap.objs.size (.lst (xs++[yv]))) I10 rfl (.cons r10 .nil) ⟨_,xs,yv,rfl,rfl,hp,hz,rfl⟩;rw [exe,eprog,ew,eA] at ha2;refine thn ha2 fun _ s11 ⟨_,H11,I11,_,e11⟩=>?_;subst e11;exact again I11 hm w'
 exact codeAny_compStart_list loop (T.self _ 0 _ _ _ st4 loop)
theorem qjd(hc:X.calm=true)(co:CapOk X N' scope cap)(hi:PI X tg iter wi)
  (hg:∀cl C s₀ H₀ fp,PG (j8 X N' scope cl C s₀ H₀ fp) tg g) (hcs:∀cl C s₀ H₀ fp,q0u (j8 X N' scope cl C s₀ H₀ fp) ifs tc) (he:∀cl C s₀ H₀ fp,PE (j8 X N' scope cl C s₀ H₀ fp) elt te)
  (hs:∀x,foldedSetIterable iter X.env x=pure x:=by intro _;rfl):PE X (.ListComp elt [⟨tg,iter,ifs,0⟩] scope pos) (qde wi cap g tc te):=by
 intro pins s σ H Q I h;obtain⟨cl,ecl,c1,c2⟩:=q60 (scope:=scope) (env:=X.env) fun y hy hf=>I.ok.has y.1 (co.frees y hy hf);rw [eval_ListComp];refine wpAny_comprehension_free (use:=none) rfl hs ecl co.kind co.names (t7 (hi pins s σ H _ I h) (fun v s1 h1=>t7 h1 (fun itv s2 h2=>?_) fun _ _ e=>e) fun _ _ e=>e);obtain⟨it,fp,tn,J,H2,rfl,I2,T,st2,f2,h2⟩:=h2;refine q7y (K:=fun p=>Q (.ref p)) (RR:=fun acc C=>compPost (model X.prog X.w) X.A X.xe none (EP X pins σ Q) acc C) hc co c1 c2 hg hcs he I2 T st2 f2 h2 ?_;intro D C s' H' hle ⟨m,hm⟩ hI hC q;exact⟨m,hm,fun h' hs'=>⟨.ref D,H',hI h' hs',rfl,q⟩⟩
end
section
variable{X:Cx}{N':List Str}{scope:Scope}{cap:List (Option Nat)}{tg iter elt:Expr}{ifs:List Expr}{wi:TI}{g:TG}{tc:TT}{te:TE}{pos:Pos}
theorem qdf{i:Nat}{x:Str}{px pe:Pos}(hc:X.calm=true)(hN:X.N.Nodup)(hx0:X.N[i]? = some x)(hx:X.env.scope.names.lookup x=some .local)(co:CapOk X N' scope cap)(hi:PI X tg iter wi)
  (hg:∀cl C s₀ H₀ fp,PG (j8 X N' scope cl C s₀ H₀ fp) tg g) (hcs:∀cl C s₀ H₀ fp,q0u (j8 X N' scope cl C s₀ H₀ fp) ifs tc) (he:∀cl C s₀ H₀ fp,PE (j8 X N' scope cl C s₀ H₀ fp) elt te)
  (hsw:swapsWith (.ListComp elt [⟨tg,iter,ifs,0⟩] scope pe) (some (.Name x px)) pos.line X.env=pure true:=by rfl)
  (hs:∀x,foldedSetIterable iter X.env x=pure x:=by intro _;rfl):PS X (.Assign [.Name x px] (.ListComp elt [⟨tg,iter,ifs,0⟩] scope pe) pos) (qlo (qde wi cap g tc te) (q4h i)):=by
 intro pins s σ H D I h;obtain⟨cl,ecl,c1,c2⟩:=q60 (scope:=scope) (env:=X.env) fun y hy hf=>I.ok.has y.1 (co.frees y hy hf);rw [exec_Assign_Name_used _ _ _ _ hsw];refine g0 (wpAny_standAt (g0 ?_));show wpAny _ X.A (do let _ <- comprehension (.ListComp elt [⟨tg,iter,ifs,0⟩] scope pe) scope X.env _ (newList []) false (eval iter X.env) (some (assign (.Name x px) X.env))) _ _ s;refine g0 (t7 (wpAny_comprehension_free (use:=some (assign (.Name x px) X.env)) (Q:=fun _ s'=>SP X pins D .next s') rfl hs ecl co.kind co.names
  (t7 (hi pins s σ H _ I h) (fun v s1 h1=>t7 h1 (fun itv s2 h2=>?_) fun _ _ e=>e) fun _ _ e=>e)) (fun _ s' hq=>gh (gh hq)) fun _ _ e=>e)
 obtain⟨it,fp,tn,J,H2,rfl,I2,T,st2,f2,h2⟩:=h2;refine q7y (K:=fun p H'=>q4h i (.ref p) σ H' D.nx) (RR:=fun acc C=>compPost (model X.prog X.w) X.A X.xe (some (assign (.Name x px) X.env)) (fun _ s'=>SP X pins D .next s') acc C) hc co c1 c2 hg hcs he I2 T st2 f2 h2 ?_;intro Da C s' H' hle ⟨m,hm⟩ hI hC q;have I':Inv X pins σ H' s':=hI s'.heap (Heap.SameBut.refl ..);obtain⟨o,es,ep,ho,hd,hk⟩:=id hm;have hCL:C≠X.env.locals:=g03 (mf I2.lt hle);have hCf:C∉X.fs:=I2.nofs hle;have I'':Inv X (pins++[(C,o)]) σ H' s':=I'.pins_of fun p hp=>(pb.mp hp).elim (fun z=>I'.pin p (nj _ z)) fun z=>by
  obtain rfl:p=(C,o):=by simpa using z
  exact⟨ho,hC,hCL,hCf,fun v z=>by rw [hd] at z;cases z⟩
 show wpAny (model X.prog X.w) X.A (assign (.Name x px) X.env (.ref Da)) _ _ _;refine wpAny_assign_Name (q59 I'' hN hx0 (.inl hx) (v:=.ref Da) rfl (fun s'' J=>?_) (.inr hx));have hC2:s''.heap.get? C=some o:=(J.pin (C,o) (nj _ (nj _ gw))).1;refine⟨m,⟨o,es,ep,hC2,hd,hk⟩,fun h' hs'=>?_⟩;have J2:Inv X pins (σ.set i (some (.ref Da))) H' {s'' with heap:=h'}:=J.unpinned.turned (t':=s''.toks) (it:=C) (fun b ob hb e=>(hs'.2 b hb).trans e) hC hCL
  (.inr (ml I2.sz hle)) (fun y c e z=>by
   obtain⟨v,q2⟩:=I2.cell y c e;exact absurd (mf q2.lt (by rw [z];exact hle)) (g0d _)) fun p hp z=>by
   exact absurd (mf (m8 (I2.pin p hp).1) (by rw [z];exact hle)) (g0d _)
 exact⟨_,H',J2,q⟩
end
end L2
namespace DL
open PySem PySem.Spec PyProof.Rows L2
structure ExcC(K:PySem.W.Frag)(D:Addr): Prop where
 ga:PySem.W.findIn K (.ref D) "__getattribute__" = some (some (.builtin "BaseException.__getattribute__"))
 gk:PySem.W.findIn K (.ref D) "__getattr__" = some none
 cc:PySem.W.findIn K (.ref D) "__class__" = some (some (.builtin "object.__class__"))
 cs:PySem.W.specialIn K (.builtin "object.__class__") "__get__" = some (some (.builtin "getset_descriptor.__get__"))
 ct:PySem.W.takesIn K (.builtin "object.__class__")=some true
 cm:PySem.W.mroIn K D (.type "object")=some true
 cb:PySem.W.mroIn K D (.type "BaseException")=some true
section
variable{prog:Program}{w:World}{A:Around}{E:Value->Shared->Prop}{K:PySem.W.Frag}{s:Shared}{x D:Addr}{ox:Obj}
open PySem.W in
theorem qbx(c:ExcC K D): (clsIn K D).isSome=true:=by
 have:=c.cm;unfold mroIn at this;cases q:clsIn K D with
 | none=>rw [q] at this;cases this
 | some cd=>rfl
def XE(a C:Addr)(h:Heap): Prop:=∃o vs,h.get? a=some o/\o.cls=.ref C/\o.data=.fields vs
open PySem.W in
theorem q25{M:Model}{a C:Addr}{h:Heap}(e:XE a C h): Looks M h (typeOf (.ref a)) (.ref C):=by
 obtain⟨o,vs,e1,e2,e3⟩:=e;exact e2 ▸ (Looks.ld e1).andThen .now
open PySem.W Builtin.ObjectAttr in
theorem qje{M:Model}{h:Heap}(c:ExcC K D)(X:K.In h): Looks M h (find (.ref x) (.ref D) "__class__") (.bind (.builtin "getset_descriptor.__get__") (.builtin "object.__class__")):=by
 refine(looks_findIn (M:=M) X c.cc).andThen ((looks_specialIn (M:=M) X c.cs).andThen ?_);exact(show Looks M h (dataDescriptor? (some (.builtin "object.__class__")) (some (.builtin "getset_descriptor.__get__"))) (some (.builtin "getset_descriptor.__get__",.builtin "object.__class__")) from(looks_takesIn (M:=M) X c.ct).andThen .now).andThen (Looks.tag .now)
open PySem.W Builtin Builtin.ObjectAttr Builtin.Getset_descriptor in
theorem qm9{tp:Value}{R:Result->Shared->Prop}(c:ExcC K D)(X:K.In s.heap)(I:XE x D s.heap)(h:R (.ok (.ret (.ref D))) s):
  codeAny (model prog w) A (.call (.builtin "getset_descriptor.__get__") ⟨[.builtin "object.__class__",.ref x,tp],[]⟩) R s:=by
 obtain⟨hh,g,dr,t,os⟩:=s;have L0:=q25 (M:=model prog w) I;have L1:=looks_mroIn (M:=model prog w) X c.cm;refine g2g KF.slot_gs.plain KF.entry_gs (KF.slot_gs.check _ _ _ _ _ _ _ _ KF.type_class (KF.args_gs _ _ _) ?_);unfold Builtin.«getset_descriptor.__get__» descrGet;rw [dga_obj];refine g0 (gh ?_);unfold descrGetter descrCheckInstance descrNameAndClass isInstance;simp only [KF.owner_class]
 repeat lk
 refine⟨Code.quiet_builtin _ (by decide +kernel),g3z KF.entry_class ?_⟩;unfold Builtin.«object.__class__» shownTypeOf
 repeat lk
 exact h
open PySem.W in
theorem qgt{tk:Tok}{Q:Fin->Shared->Prop}(c:ExcC K D)(X:K.In s.heap)(I:XE x D s.heap)(hq:Q (.done (.ret (.ref D))) s):
  wpAny (model prog w) A (Builtin.«object.__getattribute__» ⟨[.ref x,.str "__class__" tk],[]⟩) Q E s:=by
 obtain⟨hh,g,dr,t,os⟩:=s;have L0:=q25 (M:=model prog w) I;have L1:=qje (x:=x) (M:=model prog w) c X;unfold Builtin.«object.__getattribute__»;refine g0 (gh (g0 (gh (g0 (L0.at (g0 (L1.at ?_)))))));show wpAny _ _ (Builtin.ObjectAttr.bindTo _ _ _ _) _ _ _;unfold Builtin.ObjectAttr.bindTo;refine g0 (g05 (g3h (qm9 c X I ?_)));exact gh hq
open PySem.W in
theorem qgu{M:Model}{nameV:Value}{Q:Unit->Shared->Prop}(c:ExcC K D)(X:K.In s.heap)(I:XE x D s.heap)(hq:Q () s): wpAny M A (checkBuiltinCall "BaseException.__getattribute__" ⟨[.ref x,nameV],[]⟩) Q E s:=by
 obtain⟨hh,g,dr,t,os⟩:=s;have L0:=q25 (M:=M) I;have L1:=looks_mroIn (M:=M) X c.cb;have hk:builtinKind "BaseException.__getattribute__" = some .slot:=by decide +kernel
 have hsplit:splitId "BaseException.__getattribute__" = some ("BaseException","__getattribute__"):=by decide +kernel
 have ha:=F.args_bexc_ga (.ref x) nameV;simp only [checkBuiltinCall,hk,hsplit];refine g0 ?_;unfold isInstance;refine g0 (L0.at (L1.at ?_))
 repeat (first|wp_step)
 exact hq
open PySem.W in
theorem qgv{Q:Option Value->Shared->Prop}(c:ExcC K D)(X:K.In s.heap)(I:XE x D s.heap)(h:Q (some (.ref D)) {s with toks:=s.toks+1}): wpAny (model prog w) A (getAttr? (.ref x) "__class__") Q E s:=by
 obtain⟨hh,g,dr,t,os⟩:=s;have L0:=q25 (M:=model prog w) I;have L1:=looks_findIn (M:=model prog w) X c.ga;have L2:=looks_findIn (M:=model prog w) X c.gk;have f3:=g32.ga.bind (.ref x);unfold getAttr? getAttrBy? getAttrBy;refine g0 (wpAny_mkText (g0 (g1d (g05 (g0 (L0.at (g0 (L1.at ?_))))))));show wpAny _ _ (getAttrByItsOwn _ _ _ _ _ _) _ _ _;unfold getAttrByItsOwn hookBefore;rw [m4 (show onTheHeap (Value.ref D)=true from rfl)];refine g0 (L2.at ?_);refine g0 (g1d (g05 ?_));unfold callGetattribute boundAndCalled;rw [m9 (by decide)];rw [f3];refine g0 (gh ?_);refine g3h (g2g g32.ga.plain F.entry_bexc_ga (qgu c X I (qgt c X I ?_)));dsimp only;exact handed_on rfl (gh h)
theorem qgw(c:ExcC K D): PySem.W.KitX K (.ref x) (.ref D) (XE x D) where
 ty:=fun M h _ e=>q25 e
 it:=fun _ _ X _=>by
  obtain⟨cdD,hcD⟩:=g0u.mp (qbx c);unfold PySem.W.clsIn at hcD
  split at hcD
  ·rename_i c' d' cd' sl' ho
   intro A' Q' E' s' k q;unfold isType loadHead;exact g0 (wpAny_loadPart (k _ _ (X _ _ ho)) (gh q))
  ·cases hcD
 ne:=fun h tp dd its n sl X htp=>by
  obtain⟨cdD,hcD⟩:=g0u.mp (qbx c);refine Bool.eq_false_iff.mpr fun q=>?_;have e:D=tp:=Value.ref.inj (g2d.mp q);subst e;unfold PySem.W.clsIn at hcD
  split at hcD
  ·rename_i c' d' cd' sl' ho
   have z:=(X _ _ ho).symm.trans htp;cases z
  ·cases hcD
 ca:=fun X e k=>qgv c X e k
end
def qma(K:PySem.W.Frag)(C:Addr): Prop:=ExcC K C/\∀T:String,T∈["int","bool","tuple","list","str","dict"]->PySem.W.kitOne K (.ref C) (.type T)=some false
inductive D where
 | non
 | bl (b:Bool)
 | int (i:Int)
 | str (x:Str)
 | tup (ds:List D)
 | lst (ds:List D)
 | dct (ks:List Key) (vs:List D)
 | dtt (ks:List (List Int)) (vs:List D)
 | obj (x:Str)
 | exc (x:Str)
abbrev Frag:=PySem.W.Frag
abbrev St:=L2.St
def qgx(K:Frag)(C:Addr): Prop:=PySem.W.plainGet K C "__class__" = true/\PySem.W.hasDictIn K C=true/\PySem.W.findIn K (.ref C) "__class__" = some (some (.builtin "object.__class__")) /\
 PySem.W.specialIn K (.builtin "object.__class__") "__get__" = some (some (.builtin "getset_descriptor.__get__"))/\PySem.W.takesIn K (.builtin "object.__class__")=some true/\PySem.W.mroIn K C (.type "object")=some true /\
 ∀T:String,T∈["int","bool","tuple","list","str","dict"]->PySem.W.kitOne K (.ref C) (.type T)=some false
def qp8(x:List Int×Addr×Value): DictEntry:=⟨reduceHash (Builtin.Tuple.tupleHashOf (x.1.map hashInt)),.ref x.2.1,x.2.2⟩
def DE(a:Addr)(xs:List (List Int×Addr×Value))(ep:Nat)(h:Heap): Prop:=∃o es,h.get? a=some o/\o.ExactDict/\o.data=.dict es ep/\es.toList=xs.map qp8
mutual
/-- v stands for the datum in the heap H -/
def Rep(K:Frag)(H:Hp): D->V->Prop
 | .non,v=>v=.non
 | .bl b,v=>v=.bl b
 | .int i,v=>v=.int i
 | .str x,v=>v=.str x
 | .tup ds,v=>∃a xs,v=.ref a/\SqT K H a xs/\RepL K H ds xs
 | .lst ds,v=>∃a xs,v=.ref a/\SqL K H a xs/\RepL K H ds xs
 | .dct ks vs,v=>∃a xs,v=.ref a/\H a=some (.dK (ks.zip xs))/\ks.length=xs.length/\RepL K H vs xs
 | .dtt ks vs,v=>∃a xs ys ep,v=.ref a/\H a=some (.ext (DE a xs ep))/\xs.map (·.1)=ks/\ks.Nodup/\xs.length<=sizeLine/\(a==sysModules)=false/\(∀x∈xs,SqT K H x.2.1 (x.1.map V.int))/\Vals ys (xs.map fun x=>x.2.2)/\RepL K H vs ys
 | .obj x,v=>∃a dx C,v=.ref a/\H a=some (.ins C dx [])/\PySem.W.nsIn K mainGlobals x=some (some (.ref C))/\qgx K C
 | .exc x,v=>∃a C,v=.ref a/\H a=some (.ext (XE a C))/\PySem.W.nsIn K mainGlobals x=some (some (.ref C))/\qma K C
def RepL(K:Frag)(H:Hp): List D->List V->Prop
 | [],xs=>xs=[]
 | d :: ds,xs=>∃x r,xs=x :: r/\Rep K H d x/\RepL K H ds r
end
theorem ql{K:Frag}{H H':Hp}{a:Addr}{xs:List V}(e:Same H H')(h:SqT K H a xs): SqT K H' a xs:=by
 rcases h with(h|⟨o,h⟩)|h
 ·exact .inl (.inl (e _ _ h))
 ·exact .inl (.inr ⟨o,e _ _ h⟩)
 ·exact .inr h
mutual
theorem Rep.mono{K:Frag}{H H':Hp}(e:Same H H'): ∀ {d:D} {v:V},Rep K H d v->Rep K H' d v
 | .non,v,h=>by simpa only [Rep] using h
 | .bl b,v,h=>by simpa only [Rep] using h
 | .int i,v,h=>by simpa only [Rep] using h
 | .str x,v,h=>by simpa only [Rep] using h
 | .tup ds,v,h=>by
  simp only [Rep] at h ⊢;obtain⟨a,xs,e1,e2,e3⟩:=h;exact⟨a,xs,e1,ql e e2,RepL.mono e e3⟩
 | .lst ds,v,h=>by
  simp only [Rep] at h ⊢;obtain⟨a,xs,e1,e2,e3⟩:=h;exact⟨a,xs,e1,e.seq e2,RepL.mono e e3⟩
 | .dct ks vs,v,h=>by
  simp only [Rep] at h ⊢;obtain⟨a,xs,e1,e2,e3,e4⟩:=h;exact⟨a,xs,e1,e _ _ e2,e3,RepL.mono e e4⟩
 | .dtt ks vs,v,h=>by
  simp only [Rep] at h ⊢;obtain⟨a,xs,ys,ep,e1,e2,e3,e4,e5,e6,e7,e8,e9⟩:=h;exact⟨a,xs,ys,ep,e1,e _ _ e2,e3,e4,e5,e6,fun x hx=>ql e (e7 x hx),e8,RepL.mono e e9⟩
 | .obj x,v,h=>by
  simp only [Rep] at h ⊢;obtain⟨a,dx,C,e1,e2,e3⟩:=h;exact⟨a,dx,C,e1,e _ _ e2,e3⟩
 | .exc x,v,h=>by
  simp only [Rep] at h ⊢;obtain⟨a,C,e1,e2,e3⟩:=h;exact⟨a,C,e1,e _ _ e2,e3⟩
theorem RepL.mono{K:Frag}{H H':Hp}(e:Same H H'): ∀ {ds:List D} {xs:List V},RepL K H ds xs->RepL K H' ds xs
 | [],xs,h=>by simpa only [RepL] using h
 | d :: ds,xs,h=>by
  simp only [RepL] at h ⊢;obtain⟨x,r,e1,e2,e3⟩:=h;exact⟨x,r,e1,Rep.mono e e2,RepL.mono e e3⟩
end
section
variable{K:Frag}{H:Hp}
theorem RepL.nil:RepL K H [] []:=by simp only [RepL]
theorem RepL.cons{d:D}{ds:List D}{x:V}{xs:List V}(h:Rep K H d x)(t:RepL K H ds xs): RepL K H (d :: ds) (x :: xs):=by
 simp only [RepL];exact⟨x,xs,rfl,h,t⟩
theorem RepL.nil_inv{xs:List V}(h:RepL K H [] xs): xs=[]:=by simpa only [RepL] using h
theorem RepL.cons_inv{d:D}{ds:List D}{xs:List V}(h:RepL K H (d :: ds) xs): ∃x r,xs=x :: r/\Rep K H d x/\RepL K H ds r:=by simpa only [RepL] using h
theorem RepL.length:∀ {ds:List D} {xs:List V},RepL K H ds xs->ds.length=xs.length
 | [],xs,h=>by rw [h.nil_inv];rfl
 | d :: ds,xs,h=>by
  obtain⟨x,r,rfl,_,t⟩:=h.cons_inv;simp [RepL.length t]
theorem RepL.append:∀ {ds es:List D} {xs ys:List V},RepL K H ds xs->RepL K H es ys->RepL K H (ds++es) (xs++ys)
 | [],es,xs,ys,h,t=>by rw [h.nil_inv];exact t
 | d :: ds,es,xs,ys,h,t=>by
  obtain⟨x,r,rfl,h1,h2⟩:=h.cons_inv;exact .cons h1 (RepL.append h2 t)
theorem RepL.get:∀ {ds:List D} {xs:List V} {i:Nat} {d:D},RepL K H ds xs->ds[i]? = some d->∃x,xs[i]? = some x/\Rep K H d x
 | [],xs,i,d,h,e=>by simp at e
 | d :: ds,xs,0,d',h,e=>by
  obtain⟨x,r,rfl,h1,h2⟩:=h.cons_inv;simp at e;subst e;exact⟨x,rfl,h1⟩
 | d :: ds,xs,i+1,d',h,e=>by
  obtain⟨x,r,rfl,h1,h2⟩:=h.cons_inv;obtain⟨y,e1,e2⟩:=RepL.get (i:=i) h2 (by simpa using e);exact⟨y,by simpa using e1,e2⟩
theorem RepL.take:∀ {ds:List D} {xs:List V} (n:Nat),RepL K H ds xs->RepL K H (ds.take n) (xs.take n)
 | _,_,0,_=>by simp only [List.take_zero];exact .nil
 | [],xs,n+1,h=>by rw [h.nil_inv];exact .nil
 | d :: ds,xs,n+1,h=>by
  obtain⟨x,r,rfl,h1,h2⟩:=h.cons_inv;exact .cons h1 (RepL.take n h2)
theorem RepL.drop:∀ {ds:List D} {xs:List V} (n:Nat),RepL K H ds xs->RepL K H (ds.drop n) (xs.drop n)
 | ds,xs,0,h=>by simpa only [g2v] using h
 | [],xs,n+1,h=>by rw [h.nil_inv];exact .nil
 | d :: ds,xs,n+1,h=>by
  obtain⟨x,r,rfl,h1,h2⟩:=h.cons_inv;exact RepL.drop n h2
theorem RepL.ints:∀ {ns:List Int} {xs:List V},RepL K H (ns.map D.int) xs↔xs=ns.map V.int
 | [],xs=>by simp only [g04,RepL]
 | n :: ns,xs=>by
  simp only [gd,RepL]
  constructor
  ·rintro⟨x,r,rfl,h1,h2⟩
   simp only [Rep] at h1;rw [h1,RepL.ints.mp h2]
  ·rintro rfl
   exact⟨_,_,rfl,by simp only [Rep],RepL.ints.mpr rfl⟩
theorem rep_int{i:Int}{v:V}: Rep K H (.int i) v↔v=.int i:=by simp only [Rep]
theorem rep_bl{i:Bool}{v:V}: Rep K H (.bl i) v↔v=.bl i:=by simp only [Rep]
theorem rep_str{i:Str}{v:V}: Rep K H (.str i) v↔v=.str i:=by simp only [Rep]
theorem rep_non{v:V}: Rep K H .non v↔v=.non:=by simp only [Rep]
theorem rep_tup{ds:List D}{v:V}: Rep K H (.tup ds) v↔∃a xs,v=.ref a/\SqT K H a xs/\RepL K H ds xs:=by simp only [Rep]
theorem rep_lst{ds:List D}{v:V}: Rep K H (.lst ds) v↔∃a xs,v=.ref a/\SqL K H a xs/\RepL K H ds xs:=by simp only [Rep]
theorem rep_dct{ks:List Key}{vs:List D}{v:V}: Rep K H (.dct ks vs) v↔∃a xs,v=.ref a/\H a=some (.dK (ks.zip xs))/\ks.length=xs.length/\RepL K H vs xs:=by simp only [Rep]
theorem rep_dtt{ks:List (List Int)}{vs:List D}{v:V}: Rep K H (.dtt ks vs) v↔∃a xs ys ep,v=.ref a/\H a=some (.ext (DE a xs ep))/\xs.map (·.1)=ks/\ks.Nodup/\xs.length<=sizeLine/\(a==sysModules)=false/\(∀x∈xs,SqT K H x.2.1 (x.1.map V.int))/\Vals ys (xs.map fun x=>x.2.2)/\RepL K H vs ys:=by simp only [Rep]
theorem rep_exc{x:Str}{v:V}: Rep K H (.exc x) v↔∃a C,v=.ref a/\H a=some (.ext (XE a C))/\PySem.W.nsIn K mainGlobals x=some (some (.ref C))/\qma K C:=by simp only [Rep]
theorem rep_obj{x:Str}{v:V}: Rep K H (.obj x) v↔∃a dx C,v=.ref a/\H a=some (.ins C dx [])/\PySem.W.nsIn K mainGlobals x=some (some (.ref C))/\qgx K C:=by simp only [Rep]
end
class Lam where
 tab:List (Addr×Str)
class Pin where
 pin:Option Addr
instance (priority:=low) pin0:Pin:=⟨none⟩
variable[Lam][Pin]
def Tab(H:Hp): Prop:=∀p∈Lam.tab,∃ps,H p.1=some (.tbl ps)/\TriplesOk ps.toList/\∀pos cv,codeAmong pos ps.toList=some cv->∃c φ,cv=.ref c/\H c=some (.ext φ)/\∀h, φ h->h.CodeRec (.ref c) p.2
def qgy(F:Hp): Prop:=∀p∈Lam.tab,F p.1=none
theorem Tab.updG{H:Hp}(t:Tab H){p:Addr}{o:HO}(h:∀u,H p=some u->(∀ps,u ≠ .tbl ps)/\∀ φ,u ≠ .ext φ): Tab (upd H p o):=fun q hq=>by
 obtain⟨ps,e,ht,k⟩:=t q hq;refine⟨ps,by rw [qh (fun z=>by subst z;exact(h _ e).1 ps rfl)];exact e,ht,fun pos cv z=>?_⟩;obtain⟨c, φ,e1,e2,e3⟩:=k pos cv z;exact⟨c, φ,e1,by rw [qh (fun z=>by subst z;exact(h _ e2).2 φ rfl)];exact e2,e3⟩
theorem Tab.upd{H:Hp}(t:Tab H){p:Addr}{o:HO}(h:H p=none\/∃xs,H p=some (.lst xs)): Tab (upd H p o):=t.updG fun u e=>by
 rcases h with h|⟨xs,h⟩
 ·rw [h] at e;cases e
 ·rw [h] at e;cases e;exact⟨nofun,nofun⟩
structure Kept(H H':Hp): Prop where
 lst:∀b xs,H b=some (.lst xs)->H' b=some (.lst xs)
 ext:∀b φ,H b=some (.ext φ)->H' b=some (.ext φ)
 free:∀ {b},H' b=none->H b=none
 tb:Tab H->Tab H'
 dk:∀b kvs,H b=some (.dK kvs)->H' b=some (.dK kvs)
theorem Kept.refl(H:Hp): Kept H H:=⟨fun _ _ e=>e,fun _ _ e=>e,fun e=>e,fun t=>t,fun _ _ e=>e⟩
theorem Kept.trans{H H1 H2:Hp}(a:Kept H H1)(b:Kept H1 H2): Kept H H2:=⟨fun c xs e=>b.lst c xs (a.lst c xs e),fun c φ e=>b.ext c φ (a.ext c φ e),fun e=>a.free (b.free e),fun t=>b.tb (a.tb t),fun c kvs e=>b.dk c kvs (a.dk c kvs e)⟩
theorem Kept.new{H:Hp}{p:Addr}{o:HO}(hp:H p=none): Kept H (upd H p o):=⟨fun b xs e=>by rw [qh (ji e hp)];exact e,fun b φ e=>by rw [qh (ji e hp)];exact e,fun {b} e=>by
 by_cases z:b=p
 ·subst z;exact hp
 ·rw [qh z] at e;exact e,fun t=>t.upd (.inl hp),fun b kvs e=>by rw [qh (ji e hp)];exact e⟩
structure SameT(F H:Hp): Prop where
 s:Same F H
 t:Tab H
 f:qgy F
structure Grow(F H F' H':Hp): Prop where
 ff:Same F F'
 hh:Kept H H'
 fh:Same F' H'
 nw:∀b,F' b≠none->F b≠none\/H b=none
theorem Grow.refl{F H:Hp}(h:Same F H): Grow F H F H:=⟨.refl _,.refl _,h,fun _ h=>.inl h⟩
theorem Grow.trans{F H F1 H1 F2 H2:Hp}(a:Grow F H F1 H1)(b:Grow F1 H1 F2 H2): Grow F H F2 H2:=
 ⟨a.ff.trans b.ff,a.hh.trans b.hh,b.fh,fun c h=>(b.nw c h).elim (fun z=>a.nw c z) fun z=>.inr (a.hh.free z)⟩
theorem q2i{H:Hp}{p:Addr}{o:HO}(h:H p=none): Same H (upd H p o):=fun b u q=>by rw [qh (ji q h)];exact q
theorem qey{F H:Hp}{p:Addr}{o:HO}(h:Same F H): Same (upd F p o) (upd H p o):=fun b u q=>by
 unfold upd at q ⊢
 split
 ·rename_i z;rw [m4 z] at q;exact q
 ·rename_i z;rw [m9 z] at q;exact h _ _ q
theorem Grow.new{F H:Hp}{p:Addr}{o:HO}(h:Same F H)(hp:H p=none): Grow F H (upd F p o) (upd H p o):=
 ⟨q2i (h.free hp),.new hp,qey h,fun b hb=>by
  by_cases e:b=p
  ·subst e;exact .inr hp
  ·rw [qh e] at hb;exact .inl hb⟩
theorem Grow.own{F H:Hp}{p:Addr}{o:HO}(h:Same F H)(hp:H p=none): Grow F H F (upd H p o):=
 ⟨.refl _,.new hp,h.trans (q2i hp),fun _ h=>.inl h⟩
inductive B where
 | fz (d:D)
 | ow (ds:List D)
 | od (kvs:List (Int×List D))
abbrev Rho:=List (Option B)
def q3d(ks:List Int)(bs:List Addr): List (Key×V):=(ks.map Sum.inl).zip (bs.map V.ref)
structure ODt(K:Frag)(F H H0:Hp)(a:Addr)(bs:List Addr)(kvs:List (Int×List D)): Prop where
 h:H a=some (.dK (q3d (kvs.map (·.1)) bs))
 f:F a=none
 z:H0 a=none
 len:bs.length=kvs.length
 nd:bs.Nodup
 pn:∀p,Pin.pin=some p->a=p
 b:∀(j:Nat) (b:Addr) (k:Int) (ds:List D),bs[j]? = some b->kvs[j]? = some (k,ds)->∃xs,H b=some (.lst xs)/\F b=none/\H0 b=none/\RepL K F ds xs
structure RS(K:Frag)(F0 H0 F H:Hp)(σ : St)(ρ : Rho): Prop where
 t0:Tab H0/\qgy F0
 g:Grow F0 H0 F H
 len : σ.length = ρ.length
 fz:∀(i:Nat) (d:D), ρ[i]? = some (some (.fz d))->∃v, σ[i]? = some (some v)/\Rep K F d v
 ow:∀(i:Nat) (ds:List D), ρ[i]? = some (some (.ow ds))->∃a xs, σ[i]? = some (some (.ref a))/\H a=some (.lst xs)/\F a=none/\H0 a=none/\RepL K F ds xs
 dj:∀(i j:Nat) (ds es:List D) (a:Addr),i≠j -> ρ[i]? = some (some (.ow ds)) -> ρ[j]? = some (some (.ow es)) -> σ[i]? = some (some (.ref a)) -> σ[j]? ≠ some (some (.ref a))
 od:∀(i:Nat) (kvs:List (Int×List D)), ρ[i]? = some (some (.od kvs))->∃a bs, σ[i]? = some (some (.ref a))/\ODt K F H H0 a bs kvs/\∀(j:Nat) (es:List D) (b:Addr), ρ[j]? = some (some (.ow es))->b∈bs -> σ[j]? ≠ some (some (.ref b))
 o1:∀(i j:Nat) (k1 k2:List (Int×List D)), ρ[i]? = some (some (.od k1)) -> ρ[j]? = some (some (.od k2))->i=j
theorem q7b{F H F' H':Hp}{a:Addr}{o:HO}(g:Grow F H F' H')(h1:F a=none)(h2:H a=some o): F' a=none:=by
 cases q:F' a with
 | none=>rfl
 | some o=>
  rcases g.nw a (by rw [q];simp) with z|z
  ·exact absurd h1 z
  ·rw [h2] at z;cases z
theorem ODt.mem{K:Frag}{F H H0:Hp}{a:Addr}{bs:List Addr}{kvs:List (Int×List D)}(o:ODt K F H H0 a bs kvs){b:Addr}(h:b∈bs): ∃xs,H b=some (.lst xs)/\F b=none/\H0 b=none:=by
 obtain⟨j,hj⟩:=g4a.mp h;have hl:j<kvs.length:=by rw [<- o.len];exact(mq.mp hj).1
 obtain⟨xs,e1,e2,e3,_⟩:=o.b j b _ _ hj (tj hl);exact⟨xs,e1,e2,e3⟩
theorem ODt.grow{K:Frag}{F H F' H' H0:Hp}{a:Addr}{bs:List Addr}{kvs:List (Int×List D)}(o:ODt K F H H0 a bs kvs)(g:Grow F H F' H'): ODt K F' H' H0 a bs kvs where
 h:=g.hh.dk _ _ o.h
 f:=q7b g o.f o.h
 z:=o.z
 len:=o.len
 nd:=o.nd
 pn:=o.pn
 b:=fun j b k ds e1 e2=>by
  obtain⟨xs,z1,z2,z3,z4⟩:=o.b j b k ds e1 e2;exact⟨xs,g.hh.lst _ _ z1,q7b g z2 z1,z3,z4.mono g.ff⟩
theorem ODt.other{K:Frag}{F H H0:Hp}{a p:Addr}{bs:List Addr}{kvs:List (Int×List D)}{u:HO}(o:ODt K F H H0 a bs kvs)(h1:p≠a)(h2:p∉bs): ODt K F (upd H p u) H0 a bs kvs where
 h:=by rw [qh (mi h1)];exact o.h
 f:=o.f
 z:=o.z
 len:=o.len
 nd:=o.nd
 pn:=o.pn
 b:=fun j b k ds e1 e2=>by
  obtain⟨xs,z1,z2,z3,z4⟩:=o.b j b k ds e1 e2;have ne:b≠p:=fun q=>h2 (by rw [<- q];exact p6 e1);exact⟨xs,by rw [qh ne];exact z1,z2,z3,z4⟩
theorem ODt.otherF{K:Frag}{F H H0:Hp}{a p:Addr}{bs:List Addr}{kvs:List (Int×List D)}{u:HO}(o:ODt K F H H0 a bs kvs)(hs:Same F (upd F p u))(h1:p≠a)(h2:p∉bs): ODt K (upd F p u) H H0 a bs kvs where
 h:=o.h
 f:=by rw [qh (mi h1)];exact o.f
 z:=o.z
 len:=o.len
 nd:=o.nd
 pn:=o.pn
 b:=fun j b k ds e1 e2=>by
  obtain⟨xs,z1,z2,z3,z4⟩:=o.b j b k ds e1 e2;have ne:b≠p:=fun q=>h2 (by rw [<- q];exact p6 e1);exact⟨xs,z1,by rw [qh ne];exact z2,z3,z4.mono hs⟩
section
variable{K:Frag}{F0 H0 F H F' H':Hp}{σ : St}{ρ : Rho}
theorem RS.fh(r:RS K F0 H0 F H σ ρ): Same F H:=r.g.fh
theorem RS.tab(r:RS K F0 H0 F H σ ρ): Tab H:=r.g.hh.tb r.t0.1
theorem RS.tabF(r:RS K F0 H0 F H σ ρ): qgy F:=fun p hp=>by
 cases q:F p.1 with
 | none=>rfl
 | some o=>
  rcases r.g.nw p.1 (by rw [q];simp) with z|z
  ·exact absurd (r.t0.2 p hp) z
  ·obtain⟨ps,e,_⟩:=r.t0.1 p hp
   rw [e] at z;cases z
theorem RS.grow(r:RS K F0 H0 F H σ ρ)(g:Grow F H F' H'): RS K F0 H0 F' H' σ ρ where
 t0:=r.t0
 g:=r.g.trans g
 len:=r.len
 fz:=fun i d e=>let⟨v,e1,e2⟩:=r.fz i d e; ⟨v,e1,e2.mono g.ff⟩
 ow:=fun i ds e=>by
  obtain⟨a,xs,e1,e2,e3,e4,e5⟩:=r.ow i ds e;refine⟨a,xs,e1,g.hh.lst _ _ e2,?_,e4,e5.mono g.ff⟩;cases q:F' a with
  | none=>rfl
  | some o=>
   rcases g.nw a (by rw [q];simp) with z|z
   ·exact absurd e3 z
   ·rw [e2] at z;cases z
 dj:=r.dj
 od:=fun i kvs e=>let⟨a,bs,e1,e2,e3⟩:=r.od i kvs e; ⟨a,bs,e1,e2.grow g,e3⟩
 o1:=r.o1
theorem RS.sameT(r:RS K F0 H0 F H σ ρ)(g:Grow F H F' H'): SameT F' H':=⟨g.fh,(r.grow g).tab,(r.grow g).tabF⟩
theorem qi{α : Type}{l:List α}{i:Nat}{x y : α}(h:(l.set i x)[i]? = some y): y=x/\i<l.length:=by
 rw [g00] at h;simp only [ny] at h
 split at h
 ·exact⟨(m6 h).symm,by assumption⟩
 ·cases h
theorem RS.set(r:RS K F0 H0 F H σ ρ){d:D}{v:V}(i:Nat)(h:Rep K F d v): RS K F0 H0 F H (σ.set i (some v)) (ρ.set i (some (.fz d))) where
 t0:=r.t0
 g:=r.g
 len:=by rw [t5,t5];exact r.len
 fz:=fun j e h1=>by
  by_cases q:j=i
  ·subst q
   obtain⟨z,l⟩:=qi h1;cases z;exact⟨v,by rw [g00];simp [r.len,l],h⟩
  ·rw [gc (mi q)] at h1 ⊢
   exact r.fz j e h1
 ow:=fun j ds h1=>by
  by_cases q:j=i
  ·subst q
   obtain⟨z,l⟩:=qi h1;cases z
  ·rw [gc (mi q)] at h1 ⊢
   exact r.ow j ds h1
 dj :=fun j k ds es a hjk h1 h2 h3=>by
  by_cases q:j=i
  ·subst q
   obtain⟨z,l⟩:=qi h1;cases z
  ·by_cases q2:k=i
   ·subst q2
    obtain⟨z,l⟩:=qi h2;cases z
   ·rw [gc (mi q)] at h1 h3
    rw [gc (mi q2)] at h2 ⊢;exact r.dj j k ds es a hjk h1 h2 h3
 od :=fun j kvs h1=>by
  by_cases q:j=i
  ·subst q
   obtain⟨z,l⟩:=qi h1;cases z
  ·rw [gc (mi q)] at h1 ⊢
   obtain⟨a,bs,e1,e2,e3⟩:=r.od j kvs h1;refine⟨a,bs,e1,e2,fun k es b h2 h3=>?_⟩
   by_cases q2:k=i
   ·subst q2
    obtain⟨z,l⟩:=qi h2;cases z
   ·rw [gc (mi q2)] at h2 ⊢
    exact e3 k es b h2 h3
 o1 :=fun j k k1 k2 h1 h2=>by
  by_cases q:j=i
  ·subst q
   obtain⟨z,l⟩:=qi h1;cases z
  ·by_cases q2:k=i
   ·subst q2
    obtain⟨z,l⟩:=qi h2;cases z
   ·rw [gc (mi q)] at h1
    rw [gc (mi q2)] at h2;exact r.o1 j k k1 k2 h1 h2
theorem RS.setO(r:RS K F0 H0 F H σ ρ){ds:List D}{xs:List V}{a:Addr}(i:Nat)(h1:H a=some (.lst xs))(h2:F a=none)(h3:H0 a=none)(h4:RepL K F ds xs)
  (h5:∀(j:Nat) (es:List D), ρ[j]? = some (some (.ow es)) -> σ[j]? ≠ some (some (.ref a)))
  (h6:∀(j:Nat) (kvs:List (Int×List D)), ρ[j]? = some (some (.od kvs))->∃a' bs, σ[j]? = some (some (.ref a'))/\ODt K F H H0 a' bs kvs/\a∉bs/\∀(j':Nat) (es:List D) (b:Addr), ρ[j']? = some (some (.ow es))->b∈bs -> σ[j']? ≠ some (some (.ref b))):RS K F0 H0 F H (σ.set i (some (.ref a))) (ρ.set i (some (.ow ds))) where
 t0:=r.t0
 g:=r.g
 len:=by rw [t5,t5];exact r.len
 fz:=fun j e q1=>by
  by_cases q:j=i
  ·subst q
   obtain⟨z,l⟩:=qi q1;cases z
  ·rw [gc (mi q)] at q1 ⊢
   exact r.fz j e q1
 ow:=fun j es q1=>by
  by_cases q:j=i
  ·subst q
   obtain⟨z,l⟩:=qi q1;cases z;exact⟨a,xs,by rw [g00];simp [r.len,l],h1,h2,h3,h4⟩
  ·rw [gc (mi q)] at q1 ⊢
   exact r.ow j es q1
 dj :=fun j k ds' es b hjk q1 q2 q3=>by
  by_cases q:j=i
  ·subst q
   have e3:=qi q3;have eb:b=a:=by have:=e3.1;simpa using this
   subst eb;rw [gc hjk] at q2 ⊢;exact h5 k es q2
  ·rw [gc (mi q)] at q1 q3
   by_cases q4:k=i
   ·subst q4
    intro z;have eb:b=a:=by have:=(qi z).1;simpa using this
    subst eb;exact h5 j ds' q1 q3
   ·rw [gc (mi q4)] at q2 ⊢
    exact r.dj j k ds' es b hjk q1 q2 q3
 od :=fun j kvs q1=>by
  by_cases q:j=i
  ·subst q
   obtain⟨z,l⟩:=qi q1;cases z
  ·rw [gc (mi q)] at q1 ⊢
   obtain⟨a',bs,e1,e2,e3,e4⟩:=h6 j kvs q1;refine⟨a',bs,e1,e2,fun k es b p1 p2 p3=>?_⟩
   by_cases q2:k=i
   ·subst q2
    have eb:b=a:=by have:=(qi p3).1;simpa using this
    exact e3 (eb ▸ p2)
   ·rw [gc (mi q2)] at p1 p3
    exact e4 k es b p1 p2 p3
 o1 :=fun j k k1 k2 p1 p2=>by
  by_cases q:j=i
  ·subst q
   obtain⟨z,l⟩:=qi p1;cases z
  ·by_cases q2:k=i
   ·subst q2
    obtain⟨z,l⟩:=qi p2;cases z
   ·rw [gc (mi q)] at p1
    rw [gc (mi q2)] at p2;exact r.o1 j k k1 k2 p1 p2
theorem RS.wrt(r:RS K F0 H0 F H σ ρ){ds es:List D}{ys:List V}{a:Addr}{i:Nat}(h1 : ρ[i]? = some (some (.ow ds)))(h2 : σ[i]? = some (some (.ref a)))(h4:RepL K F es ys):
  RS K F0 H0 F (upd H a (.lst ys)) σ (ρ.set i (some (.ow es))):=by
 obtain⟨a',xs,e1,e2,e3,e4,e5⟩:=r.ow i ds h1;rw [h2] at e1;obtain rfl:a=a':=by simpa using e1
 have nF:∀b o,F b=some o->b≠a:=fun b o e z=>by subst z;rw [e3] at e;cases e
 exact {
  t0:=r.t0
  g :=⟨r.g.ff,⟨fun b o e=>by rw [qh (fun z=>by subst z;rw [e4] at e;cases e)];exact r.g.hh.lst b o e,fun b o e=>by rw [qh (fun z=>by subst z;rw [e4] at e;cases e)];exact r.g.hh.ext b o e,fun {b} e=>by
    by_cases z:b=a
    ·subst z;exact e4
    ·rw [qh z] at e;exact r.g.hh.free e,fun t=>(r.g.hh.tb t).upd (.inr ⟨_,e2⟩),fun b o e=>by rw [qh (fun z=>by subst z;rw [e4] at e;cases e)];exact r.g.hh.dk b o e⟩,fun b o e=>by rw [qh (nF b o e)];exact r.g.fh b o e,r.g.nw⟩
  len:=by rw [t5];exact r.len
  fz:=fun j e q1=>by
   by_cases q:j=i
   ·subst q
    obtain⟨z,l⟩:=qi q1;cases z
   ·rw [gc (mi q)] at q1
    exact r.fz j e q1
  ow :=fun j es' q1=>by
   by_cases q:j=i
   ·subst q
    obtain⟨z,l⟩:=qi q1;cases z;exact⟨a,ys,h2,qq,e3,e4,h4⟩
   ·rw [gc (mi q)] at q1
    obtain⟨b,zs,f1,f2,f3,f4,f5⟩:=r.ow j es' q1;have hb:b≠a:=fun z=>by
     subst z;exact r.dj i j ds es' b (mi q) h1 q1 h2 f1
    exact⟨b,zs,f1,by rw [qh hb];exact f2,f3,f4,f5⟩
  dj:=fun j k ds' es' b hjk q1 q2 q3=>by
   have back:∀(l:Nat) (us:List D),(ρ.set i (some (.ow es)))[l]? = some (some (.ow us))->∃ws, ρ[l]? = some (some (.ow ws)):=fun l us z=>by
    by_cases q:l=i
    ·subst q;exact⟨ds,h1⟩
    ·rw [gc (mi q)] at z;exact⟨us,z⟩
   obtain⟨w1,z1⟩:=back j ds' q1;obtain⟨w2,z2⟩:=back k es' q2;exact r.dj j k w1 w2 b hjk z1 z2 q3
  od:=fun j kvs q1=>by
   by_cases q:j=i
   ·subst q
    obtain⟨z,l⟩:=qi q1;cases z
   ·rw [gc (mi q)] at q1
    obtain⟨a',bs,f1,f2,f3⟩:=r.od j kvs q1;refine⟨a',bs,f1,f2.other (fun z=>by subst z;have:=f2.h;rw [e2] at this;cases this) fun z=>f3 i ds a h1 z h2,fun k es' b p1 p2=>?_⟩
    by_cases q2:k=i
    ·subst q2;exact f3 k ds b h1 p2
    ·rw [gc (mi q2)] at p1;exact f3 k es' b p1 p2
  o1 :=fun j k k1 k2 p1 p2=>by
   have back:∀(l:Nat) (us),(ρ.set i (some (.ow es)))[l]? = some (some (.od us)) -> ρ[l]? = some (some (.od us)):=fun l us z=>by
    by_cases q:l=i
    ·subst q
     obtain⟨z',_⟩:=qi z;cases z'
    ·rw [gc (mi q)] at z;exact z
   exact r.o1 j k k1 k2 (back _ _ p1) (back _ _ p2)}
theorem RS.freeze(r:RS K F0 H0 F H σ ρ){ds:List D}{i:Nat}(h1 : ρ[i]? = some (some (.ow ds))): ∃F',Same F F'/\RS K F0 H0 F' H σ (ρ.set i (some (.fz (.lst ds)))):=by
 obtain⟨a,xs,e1,e2,e3,e4,e5⟩:=r.ow i ds h1;have sF:Same F (upd F a (.lst xs)):=q2i e3;refine⟨upd F a (.lst xs),sF,?_⟩;exact {
  t0:=r.t0
  g :=⟨r.g.ff.trans sF,r.g.hh,fun b o e=>by
    by_cases q:b=a
    ·subst q;rw [qq] at e;cases e;exact e2
    ·rw [qh q] at e;exact r.g.fh b o e,fun b hb=>by
    by_cases q:b=a
    ·subst q;exact .inr e4
    ·rw [qh q] at hb;exact r.g.nw b hb⟩
  len:=by rw [t5];exact r.len
  fz:=fun j e q1=>by
   by_cases q:j=i
   ·subst q
    obtain⟨z,l⟩:=qi q1;cases z;exact⟨_,e1,rep_lst.mpr ⟨a,xs,rfl,SqL.of qq,e5.mono sF⟩⟩
   ·rw [gc (mi q)] at q1
    obtain⟨v,z1,z2⟩:=r.fz j e q1;exact⟨v,z1,z2.mono sF⟩
  ow :=fun j es' q1=>by
   by_cases q:j=i
   ·subst q
    obtain⟨z,l⟩:=qi q1;cases z
   ·rw [gc (mi q)] at q1
    obtain⟨b,zs,f1,f2,f3,f4,f5⟩:=r.ow j es' q1;have hb:b≠a:=fun z=>by
     subst z;exact r.dj i j ds es' b (mi q) h1 q1 e1 f1
    exact⟨b,zs,f1,f2,by rw [qh hb];exact f3,f4,f5.mono sF⟩
  dj :=fun j k ds' es' b hjk q1 q2 q3=>by
   have back:∀(l:Nat) (us:List D),(ρ.set i (some (.fz (.lst ds))))[l]? = some (some (.ow us)) -> ρ[l]? = some (some (.ow us)):=fun l us z=>by
    by_cases q:l=i
    ·subst q
     obtain⟨z',_⟩:=qi z;cases z'
    ·rw [gc (mi q)] at z;exact z
   exact r.dj j k ds' es' b hjk (back _ _ q1) (back _ _ q2) q3
  od:=fun j kvs q1=>by
   by_cases q:j=i
   ·subst q
    obtain⟨z,l⟩:=qi q1;cases z
   ·rw [gc (mi q)] at q1
    obtain⟨a',bs,f1,f2,f3⟩:=r.od j kvs q1;refine⟨a',bs,f1,f2.otherF sF (fun z=>by subst z;have:=f2.h;rw [e2] at this;cases this) fun z=>f3 i ds a h1 z e1,fun k es' b p1 p2=>?_⟩
    by_cases q2:k=i
    ·subst q2;exact f3 k ds b h1 p2
    ·rw [gc (mi q2)] at p1;exact f3 k es' b p1 p2
  o1 :=fun j k k1 k2 p1 p2=>by
   have back:∀(l:Nat) (us),(ρ.set i (some (.fz (.lst ds))))[l]? = some (some (.od us)) -> ρ[l]? = some (some (.od us)):=fun l us z=>by
    by_cases q:l=i
    ·subst q
     obtain⟨z',_⟩:=qi z;cases z'
    ·rw [gc (mi q)] at z;exact z
   exact r.o1 j k k1 k2 (back _ _ p1) (back _ _ p2)}
end
end DL
namespace DL
open PySem PySem.Spec PyProof.Rows L2
variable[Lam][Pin]
abbrev lim:Nat:=1000000
theorem vf{n:Nat}(h:n<=lim): n<=sizeLine:=ml h (by decide)
theorem q1l{n:Nat}(h:n<lim): n<sizeLine:=mf h (by decide)
abbrev FE:=Rho->Option D
abbrev FT:=Rho->Option Bool
abbrev FA:=Rho->Option (List D)
inductive Fl where
 | nx|bk|ct
 | rt (d:D)
abbrev FS:=Rho->Option (Fl×Rho)
def tD(K:Frag)(f:FE): TE:=fun σ H Q=>∃F0 H0 F ρ d,RS K F0 H0 F H σ ρ /\ f ρ = some d/\∀v F' H',Grow F H F' H'->Rep K F' d v->Q v H'
def tL(K:Frag)(f:FA): TE:=fun σ H Q=>∃F0 H0 F ρ ds,RS K F0 H0 F H σ ρ /\ f ρ = some ds/\∀a xs F' H',Grow F H F' H'->F' a=none->H a=none->H' a=some (.lst xs)->RepL K F' ds xs->Q (.ref a) H'
def tDT(K:Frag)(f:FT): TT:=fun σ H Q=>∃F0 H0 F ρ b,RS K F0 H0 F H σ ρ /\ f ρ = some b/\∀F' H',Grow F H F' H'->Q b H'
def tDA(K:Frag)(f:FA): TA:=fun σ H Q=>∃F0 H0 F ρ ds,RS K F0 H0 F H σ ρ /\ f ρ = some ds/\∀vs F' H',Grow F H F' H'->RepL K F' ds vs->Q vs H'
def qdg(K:Frag)(F0 H0 F:Hp)(D:Ends)(fl:Fl)(ρ':Rho): Prop:=match fl with
 | .nx=>∀ σ' F' H',Same F F'->RS K F0 H0 F' H' σ' ρ'->D.nx σ' H'
 | .bk=>∀ σ' F' H',Same F F'->RS K F0 H0 F' H' σ' ρ'->D.bk σ' H'
 | .ct=>∀ σ' F' H',Same F F'->RS K F0 H0 F' H' σ' ρ'->D.ct σ' H'
 | .rt d=>∀v F' H',Grow F0 H0 F' H'->Rep K F' d v->D.rt v H'
def tDS(K:Frag)(f:FS): TS:=fun D σ H=>∃F0 H0 F ρ fl ρ',RS K F0 H0 F H σ ρ /\ f ρ = some (fl, ρ')/\qdg K F0 H0 F D fl ρ'
section
variable{X:Cx}{e:Expr}{pos:Pos}
theorem zv{t t':TE}(h:PE X e t)(i:∀ σ H Q,t' σ H Q->t σ H Q): PE X e t':=fun pins s σ H Q I q=>h pins s σ H Q I (i σ H Q q)
theorem q94{t t':TT}(h:PT X e t)(i:∀ σ H Q,t' σ H Q->t σ H Q): PT X e t':=fun pins s σ H Q I q=>h pins s σ H Q I (i σ H Q q)
theorem qez{es:List Expr}{t t':TA}(h:PA X es t)(i:∀ σ H Q,t' σ H Q->t σ H Q): PA X es t':=fun pos pins s σ H Q I q=>h pos pins s σ H Q I (i σ H Q q)
theorem yn{st:Stmt}{t t':TS}(h:PS X st t)(i:∀D σ H,t' D σ H->t D σ H): PS X st t':=fun pins s σ H D I q=>h pins s σ H D I (i D σ H q)
theorem q4i{st:List Stmt}{t t':TS}(h:PSs X st t)(i:∀D σ H,t' D σ H->t D σ H): PSs X st t':=fun pins s σ H D I q=>h pins s σ H D I (i D σ H q)
def eV(i:Nat): FE:=fun ρ =>match ρ[i]? with
 | some (some (.fz d))=>some d
 | _=>none
def eC(d:D): FE:=fun _=>some d
theorem qjf{i:Nat}{ρ : Rho}{d:D}(h:eV i ρ = some d): ρ[i]? = some (some (.fz d)):=by
 unfold eV at h
 split at h
 ·rename_i e;rw [e,m6 h]
 ·cases h
theorem qc{K:Frag}{i:Nat}(h:PE X e (q5a i)): PE X e (tD K (eV i)):=zv h fun σ H Q ⟨F0,H0,F, ρ,d,r,hf,q⟩=>by
 obtain⟨v,e1,e2⟩:=r.fz i d (qjf hf);exact⟨v,e1,q v F H (.refl r.fh) e2⟩
theorem q95{K:Frag}{v:V}{d:D}(h:PE X e (tC v))(hd:∀H,Rep K H d v): PE X e (tD K (eC d)):=zv h fun σ H Q ⟨F0,H0,F, ρ,d',r,hf,q⟩=>by
 cases hf;exact q v F H (.refl r.fh) (hd F)
theorem qg{K:Frag}{i j}: PE X (.Constant (.int i) j pos) (tD K (eC (.int i))):=q95 qlg fun _=>rep_int.mpr rfl
theorem q1m{K:Frag}{b j}: PE X (.Constant (.bool b) j pos) (tD K (eC (.bl b))):=q95 qno fun _=>rep_bl.mpr rfl
def rD(K:Frag)(op:D->D->Option D): R2:=fun x y H Q=>∃F d1 d2 d,Same F H/\Rep K F d1 x/\Rep K F d2 y/\op d1 d2=some d/\∀v F' H',Grow F H F' H'->Rep K F' d v->Q v H'
def eOp(op:D->D->Option D)(f g:FE): FE:=fun ρ =>(f ρ).bind fun x=>(g ρ).bind fun y=>op x y
theorem two{K:Frag}{f g:FE}{op:D->D->Option D}{σ : St}{H:Hp}{Q:VK}(h:tD K (eOp op f g) σ H Q): tD K f σ H fun x H1=>tD K g σ H1 fun y H2=>rD K op x y H2 Q:=by
 obtain⟨F0,H0,F, ρ,d,r,hf,q⟩:=h;obtain⟨d1,h1,hf⟩:=g6.mp hf;obtain⟨d2,h2,h3⟩:=g6.mp hf;refine⟨F0,H0,F, ρ,d1,r,h1,fun v F1 H1 g1 r1=>⟨F0,H0,F1, ρ,d2,r.grow g1,h2,fun u F2 H2 g2 r2=>?_⟩⟩;exact⟨F2,d1,d2,d,g2.fh,r1.mono g2.ff,r2,h3,fun w F3 H3 g3 r3=>q w F3 H3 (g1.trans (g2.trans g3)) r3⟩
variable{a b:Expr}{f g:FE}
theorem qo{op:Operator}{o:D->D->Option D}(ho:OpR X (binaryOp op) (rD X.K o))(ha:PE X a (tD X.K f))(hb:PE X b (tD X.K g)): PE X (.BinOp a op b pos) (tD X.K (eOp o f g)):=
 zv (qnx ho ha hb) fun σ H Q h=>two h
theorem q26{f:Value->Value->Sem Value}{r r':R2}(h:OpR X f r)(i:∀x y H Q,r' x y H Q->r x y H Q): OpR X f r':=fun pins s σ H x y v u Q I rx ry q=>h pins s σ H x y v u Q I rx ry (i x y H Q q)
theorem q61{f:Value->Value->Sem Value}{K:Frag}{o o':D->D->Option D}(h:OpR X f (rD K o))(h':OpR X f (rD K o')): OpR X f (rD K fun x y=>(o x y).or (o' x y)):=fun pins s σ H x y v u Q I rx ry q=>by
 obtain⟨F,d1,d2,d,q1,q2,q3,q4,q5⟩:=q;have q4:(o d1 d2).or (o' d1 d2)=some d:=q4;cases e:o d1 d2 with
 | some d'=>rw [e] at q4;cases q4;exact h pins s σ H x y v u Q I rx ry ⟨F,d1,d2,_,q1,q2,q3,e,q5⟩
 | none=>rw [e] at q4;exact h' pins s σ H x y v u Q I rx ry ⟨F,d1,d2,d,q1,q2,q3,q4,q5⟩
def oI(C:Int->Int->Bool)(z:Int->Int->Int): D->D->Option D
 | .int i,.int j=>if C i j then some (.int (z i j)) else none
 | _,_=>none
def oB(z:Int->Int->Bool): D->D->Option D
 | .int i,.int j=>some (.bl (z i j))
 | _,_=>none
theorem qby{C:Int->Int->Bool}{z:Int->Int->Int}{d1 d2 d:D}(h:oI C z d1 d2=some d): ∃i j,d1=.int i/\d2=.int j/\C i j=true/\d=.int (z i j):=by
 cases d1 <;> cases d2 <;> simp only [oI] at h <;> first|(cases h;done)|skip
 split at h
 ·exact⟨_,_,rfl,rfl,by assumption,(m6 h).symm⟩
 ·cases h
theorem qjg{z:Int->Int->Bool}{d1 d2 d:D}(h:oB z d1 d2=some d): ∃i j,d1=.int i/\d2=.int j/\d=.bl (z i j):=by
 cases d1 <;> cases d2 <;> simp only [oB] at h <;> first|(cases h;done)|skip
 exact⟨_,_,rfl,rfl,(m6 h).symm⟩
theorem q4j{fv:Value->Value->Sem Value}{P:Int->Int->Prop}{C:Int->Int->Bool}{z:Int->Int->Int}(h:OpR X fv (rI P fun i j=>.int (z i j)))(hC:∀i j,C i j=true->P i j): OpR X fv (rD X.K (oI C z)):=
 q26 h fun x y H Q ⟨F,d1,d2,d,q1,q2,q3,q4,q5⟩=>by
  obtain⟨i,j,rfl,rfl,c,rfl⟩:=qby q4;exact⟨i,j,rep_int.mp q2,rep_int.mp q3,hC i j c,q5 _ F H (.refl q1) (rep_int.mpr rfl)⟩
theorem q62{fv:Value->Value->Sem Value}{z:Int->Int->Int}(h:OpR X fv (rI0 fun i j=>.int (z i j))): OpR X fv (rD X.K (oI (fun _ _=>true) z)):=
 q26 h fun x y H Q ⟨F,d1,d2,d,q1,q2,q3,q4,q5⟩=>by
  obtain⟨i,j,rfl,rfl,c,rfl⟩:=qby q4;exact⟨i,j,rep_int.mp q2,rep_int.mp q3,q5 _ F H (.refl q1) (rep_int.mpr rfl)⟩
theorem q96{fv:Value->Value->Sem Value}{z:Int->Int->Bool}(h:OpR X fv (rI0 fun i j=>.bl (z i j))): OpR X fv (rD X.K (oB z)):=
 q26 h fun x y H Q ⟨F,d1,d2,d,q1,q2,q3,q4,q5⟩=>by
  obtain⟨i,j,rfl,rfl,rfl⟩:=qjg q4;exact⟨i,j,rep_int.mp q2,rep_int.mp q3,q5 _ F H (.refl q1) (rep_bl.mpr rfl)⟩
abbrev oAdd:=oI (fun _ _=>true) fun i j=>i+j
abbrev oSub:=oI (fun _ _=>true) fun i j=>i-j
abbrev oMul:=oI (fun i j=>(decide (-(2 ^ 64)<i)&&decide (i<2 ^ 64)) || (decide (-(2 ^ 64)<j)&&decide (j<2 ^ 64))) fun i j=>i*j
abbrev oDiv:=oI (fun _ j=>decide (0<j)&&decide (j<1073741824)) fun i j=>i / j
abbrev oMod:=oI (fun _ j=>decide (0<j)) fun i j=>i%j
abbrev oShr:=oI (fun _ j=>decide (0<=j)) fun i j=>i / 2 ^ j.toNat
theorem q12{p q:Prop}[Decidable p][Decidable q](h:(decide p&&decide q)=true): p/\q:=by simpa using h
theorem qmb:OpR X (binaryOp .Add) (rD X.K oAdd):=q62 qlr
theorem qmc:OpR X (binaryOp .Sub) (rD X.K oSub):=q62 qls
theorem qmd:OpR X (binaryOp .Mult) (rD X.K oMul):=q4j qlt fun i j h=>by
 rcases g0m _ _ ▸ h with z|z
 ·exact .inl (q12 z)
 ·exact .inr (q12 z)
theorem q27:OpR X (binaryOp .FloorDiv) (rD X.K oDiv):=q4j qj6 fun i j h=>q12 h
theorem j9:OpR X (binaryOp .Mod) (rD X.K oMod):=q4j qlu fun i j h=>ue h
theorem qme:OpR X (binaryOp .RShift) (rD X.K oShr):=q4j qlx fun i j h=>ue h
abbrev oShl:=oI (fun i j=>decide (0<=j)&&(decide (j<=1000000)&&decide (i.natAbs<2 ^ 64))) fun i j=>i*2 ^ j.toNat
abbrev oPow:=oI (fun i j=>decide (0<=j)&&(decide (j<=1000000)&&decide (i.natAbs<2 ^ 64))) fun i j=>i ^ j.toNat
theorem q97{p q r:Prop}[Decidable p][Decidable q][Decidable r](h:(decide p&&(decide q&&decide r))=true): p/\q/\r:=by simpa using h
theorem q63:OpR X (binaryOp .LShift) (rD X.K oShl):=q4j qlw fun i j h=>q97 h
theorem qf0:OpR X (binaryOp .Pow) (rD X.K oPow):=q4j qlv fun i j h=>q97 h
abbrev oLt:=oB fun i j=>decide (i<j)
abbrev oLe:=oB fun i j=>decide (i<=j)
abbrev oGt:=oB fun i j=>decide (j<i)
abbrev oGe:=oB fun i j=>decide (j<=i)
theorem qoa:OpR X (compareOp .Lt) (rD X.K oLt):=q96 qo1
theorem qil:OpR X (compareOp .Gt) (rD X.K oGt):=q96 qo2
theorem qob:OpR X (compareOp .GtE) (rD X.K oGe):=q96 qo3
def flD:D->Option V
 | .non=>some .non
 | .bl b=>some (.bl b)
 | .int i=>some (.int i)
 | .str x=>some (.str x)
 | _=>none
theorem q4k{K:Frag}{H:Hp}{d:D}{v u:V}(h:flD d=some u)(r:Rep K H d v): v=u:=by
 cases d <;> simp only [flD] at h <;> first|(cases h;done)|skip
 ·cases h;exact rep_non.mp r
 ·cases h;exact rep_bl.mp r
 ·cases h;exact rep_int.mp r
 ·cases h;exact rep_str.mp r
def qgz:D->D->Option D:=fun d e=>(flD d).bind fun x=>(flD e).bind fun y=>if q77 x y then some (.bl (decide (x=y))) else none
def q5b:D->D->Option D:=fun d e=>(flD d).bind fun x=>(flD e).bind fun y=>if q77 x y then some (.bl (!decide (x=y))) else none
theorem qmf:OpR X (compareOp .Eq) (rD X.K qgz):=q26 qnz fun x y H Q ⟨F,d1,d2,d,q1,q2,q3,q4,q5⟩=>by
 obtain⟨u,h1,q4⟩:=g6.mp q4;obtain⟨w,h2,q4⟩:=g6.mp q4;cases q4k h1 q2;cases q4k h2 q3
 split at q4
 ·rename_i z
  cases q4;exact⟨z,q5 _ F H (.refl q1) (rep_bl.mpr rfl)⟩
 ·cases q4
theorem q64:OpR X (compareOp .NotEq) (rD X.K q5b):=q26 qo0 fun x y H Q ⟨F,d1,d2,d,q1,q2,q3,q4,q5⟩=>by
 obtain⟨u,h1,q4⟩:=g6.mp q4;obtain⟨w,h2,q4⟩:=g6.mp q4;cases q4k h1 q2;cases q4k h2 q3
 split at q4
 ·rename_i z
  cases q4;exact⟨z,q5 _ F H (.refl q1) (rep_bl.mpr rfl)⟩
 ·cases q4
theorem qmg{op:CmpOp}{o:D->D->Option D}(ho:OpR X (compareOp op) (rD X.K o))(ha:PE X a (tD X.K f))(hb:PE X b (tD X.K g))(hm:behindInMarks op b=false:=by first|exact q8z _ (by decide) (by decide)|rfl):
  PE X (.Compare a [op] [b] pos) (tD X.K (eOp o f g)):=zv (qj7 ho ha hb hm) fun σ H Q h=>two h
def qdh:D->Option Bool
 | .non=>some false
 | .bl b=>some b
 | .int i=>some (i != 0)
 | .tup ds=>some (!ds.isEmpty)
 | .lst ds=>some (!ds.isEmpty)
 | .str x=>if x.length<=lim then some ((x.length:Int) != 0) else none
 | _=>none
def bT(f:FE): FT:=fun ρ =>(f ρ).bind qdh
theorem qmh{K:Frag}{F H:Hp}{d:D}{b:Bool}{v:V}(h:qdh d=some b)(fh:Same F H)(r:Rep K F d v): qgj K v H b:=by
 cases d with
 | non=>cases h;rw [rep_non.mp r];rfl
 | bl c=>cases h;rw [rep_bl.mp r];rfl
 | int i=>cases h;rw [rep_int.mp r];rfl
 | str x=>
  simp only [qdh] at h
  split at h
  ·rename_i z
   cases h;rw [rep_str.mp r];exact⟨vf z,rfl⟩
  ·cases h
 | tup ds=>
  cases h;obtain⟨p,xs,rfl,q1,q2⟩:=rep_tup.mp r;refine .inr (.inl ⟨xs,ql fh q1,?_⟩);cases ds with
  | nil=>rw [q2.nil_inv];rfl
  | cons d ds=>obtain⟨y,r',rfl,_⟩:=q2.cons_inv;rfl
 | lst ds=>
  cases h;obtain⟨p,xs,rfl,q1,q2⟩:=rep_lst.mp r;refine .inl ⟨xs,fh.seq q1,?_⟩;cases ds with
  | nil=>rw [q2.nil_inv];rfl
  | cons d ds=>obtain⟨y,r',rfl,_⟩:=q2.cons_inv;rfl
 | dct _ _=>cases h
 | dtt _ _=>cases h
 | obj _=>cases h
 | exc _=>cases h
theorem wg(ha:PE X a (tD X.K f))(he:∀whole,isTrue a X.env whole=(do let v <- whole;standAt a.pos;holding [v] (truthy v)):=by intro _;rfl): PT X a (tDT X.K (bT f)):=
 q94 (qgk ha he) fun σ H Q ⟨F0,H0,F, ρ,b,r,hf,q⟩=>by
  obtain⟨d,h1,h2⟩:=g6.mp hf;exact⟨F0,H0,F, ρ,d,r,h1,fun v F' H' g' r'=>⟨b,qmh h2 g'.fh r',q F' H' g'⟩⟩
def isB:D->Option Bool
 | .bl b=>some b
 | _=>none
def jr(o:D->D->Option D)(f g:FE): FT:=fun ρ =>(eOp o f g ρ).bind isB
theorem x8{op:CmpOp}{o:D->D->Option D}(ho:OpR X (compareOp op) (rD X.K o))(ha:PE X a (tD X.K f))(hb:PE X b (tD X.K g))(hm:behindInMarks op b=false:=by first|exact q8z _ (by decide) (by decide)|rfl):
  PT X (.Compare a [op] [b] pos) (tDT X.K (jr o f g)):=q94 (qj8 ho ha hb hm) fun σ H Q ⟨F0,H0,F, ρ,c,r,hf,q⟩=>by
 obtain⟨d,h1,h2⟩:=g6.mp hf;refine two ⟨F0,H0,F, ρ,d,r,h1,fun v F' H' g' r'=>?_⟩;cases d <;> simp only [isB] at h2 <;> first|(cases h2;done)|skip
 cases h2;exact⟨_,rep_bl.mp r',q F' H' g'⟩
def q1w(t:FT): FT:=fun ρ =>(t ρ).map not
def qp9(t u:FT): FT:=fun ρ =>(t ρ).bind fun c=>if c then u ρ else some false
def bOr(t u:FT): FT:=fun ρ =>(t ρ).bind fun c=>if c then some true else u ρ
variable{t u:FT}{rest:List Expr}
theorem q0l(ha:PT X a (tDT X.K t)): PT X (.UnaryOp .Not a pos) (tDT X.K (q1w t)):=q94 (qli ha) fun σ H Q ⟨F0,H0,F, ρ,c,r,hf,q⟩=>by
 obtain⟨d,h1,h2⟩:=md.mp hf;subst h2;exact⟨F0,H0,F, ρ,d,r,h1,fun F' H' g'=>q F' H' g'⟩
theorem qmi{t t':TT}(h:PW X a t)(i:∀ σ H Q,t' σ H Q->t σ H Q): PW X a t':=fun wh pins s σ H Q I q=>h wh pins s σ H Q I (i σ H Q q)
theorem q3e(ha:PT X a (tDT X.K t)): PW X (.BoolOp .Or [a] pos) (tDT X.K t):=qlh ha
theorem q4l(ha:PT X a (tDT X.K t))(hb:PW X (.BoolOp .Or (b :: rest) pos) (tDT X.K u)): PW X (.BoolOp .Or (a :: b :: rest) pos) (tDT X.K (bOr t u)):=qmi (qnp ha hb) fun σ H Q ⟨F0,H0,F, ρ,c,r,hf,q⟩=>by
 obtain⟨d,h1,h2⟩:=g6.mp hf;refine⟨F0,H0,F, ρ,d,r,h1,fun F' H' g'=>?_⟩;cases d with
 | false=>rw [m9 gz] at h2 ⊢;exact⟨F0,H0,F', ρ,c,r.grow g',h2,fun F2 H2 g2=>q F2 H2 (g'.trans g2)⟩
 | true=>rw [m4 rfl] at h2 ⊢;cases h2;exact q F' H' g'
def qdi(f g:FE): FE:=fun ρ =>(f ρ).bind fun x=>(isB x).bind fun c=>if c then g ρ else some (.bl false)
def eOr(f g:FE): FE:=fun ρ =>(f ρ).bind fun x=>(isB x).bind fun c=>if c then some (.bl true) else g ρ
def qh0(f:FE): FE:=fun ρ =>(f ρ).bind fun x=>(isB x).map fun c=>.bl (!c)
def eIf(t:FT)(f g:FE): FE:=fun ρ =>(t ρ).bind fun c=>if c then f ρ else g ρ
theorem q98{d:D}{c:Bool}(h:isB d=some c): d=.bl c:=by
 cases d <;> simp only [isB] at h <;> first|(cases h;done)|skip
 rw [m6 h]
theorem qmj{op}(h:PE X a (tD X.K f)): PE X (.BoolOp op [a] pos) (tD X.K f):=qlj h
theorem qf1(ha:PE X a (tD X.K f))(hb:PE X (.BoolOp .And (b :: rest) pos) (tD X.K g)): PE X (.BoolOp .And (a :: b :: rest) pos) (tD X.K (qdi f g)):=zv (qlk ha hb) fun σ H Q ⟨F0,H0,F, ρ,d,r,hf,q⟩=>by
 obtain⟨x,h1,hf⟩:=g6.mp hf;obtain⟨c,h2,h3⟩:=g6.mp hf;refine⟨F0,H0,F, ρ,x,r,h1,fun v F' H' g' r'=>?_⟩;rw [q98 h2] at r';refine⟨c,rep_bl.mp r',?_⟩;cases c with
 | true=>rw [m4 rfl] at h3 ⊢;exact⟨F0,H0,F', ρ,d,r.grow g',h3,fun w F2 H2 g2 r2=>q w F2 H2 (g'.trans g2) r2⟩
 | false=>rw [m9 gz] at h3 ⊢;cases h3;exact q _ F' H' g' (rep_bl.mpr rfl)
theorem qmk(ha:PE X a (tD X.K f)): PE X (.UnaryOp .Not a pos) (tD X.K (qh0 f)):=zv (qll ha) fun σ H Q ⟨F0,H0,F, ρ,d,r,hf,q⟩=>by
 obtain⟨x,h1,hf⟩:=g6.mp hf;obtain⟨c,h2,h3⟩:=md.mp hf;subst h3;refine⟨F0,H0,F, ρ,x,r,h1,fun v F' H' g' r'=>?_⟩;rw [q98 h2] at r';exact⟨c,rep_bl.mp r',q _ F' H' g' (rep_bl.mpr rfl)⟩
theorem qoc{c:Expr}(hc:PT X c (tDT X.K t))(ha:PE X a (tD X.K f))(hb:PE X b (tD X.K g)): PE X (.IfExp c a b pos) (tD X.K (eIf t f g)):=zv (qge hc ha hb) fun σ H Q ⟨F0,H0,F, ρ,d,r,hf,q⟩=>by
 obtain⟨x,h1,h2⟩:=g6.mp hf;refine⟨F0,H0,F, ρ,x,r,h1,fun F' H' g'=>?_⟩;cases x with
 | true=>rw [m4 rfl] at h2 ⊢;exact⟨F0,H0,F', ρ,d,r.grow g',h2,fun w F2 H2 g2 r2=>q w F2 H2 (g'.trans g2) r2⟩
 | false=>rw [m9 gz] at h2 ⊢;exact⟨F0,H0,F', ρ,d,r.grow g',h2,fun w F2 H2 g2 r2=>q w F2 H2 (g'.trans g2) r2⟩
end
section
variable{X:Cx}{e:Expr}{es:List Expr}{pos:Pos}{f g:FE}{fa:FA}
def notStar:Expr->Bool
 | .Starred _ _=>false
 | _=>true
theorem qbz{e:Expr}{es:List Expr}{env:Env}(h:notStar e=true): starEach (e :: es) env=(false,eval e env) :: starEach es env:=by
 cases e <;> first|rfl|cases h
def qf:FA:=fun _=>some []
def qa(f:FE)(fa:FA): FA:=fun ρ =>(f ρ).bind fun d=>(fa ρ).map fun ds=>d :: ds
theorem qe:PA X [] (tDA X.K qf):=qez wd fun σ H Q ⟨F0,H0,F, ρ,ds,r,hf,q⟩=>by
 cases hf;exact q [] F H (.refl r.fh) .nil
theorem qjh(ha:PE X e (tD X.K f))(hr:PA X es (tDA X.K fa))(hs:starEach (e :: es) X.env=(false,eval e X.env) :: starEach es X.env:=by first|exact qbz rfl|rfl): PA X (e :: es) (tDA X.K (qa f fa)):=
 qez (xt ha hr hs) fun σ H Q ⟨F0,H0,F, ρ,ds,r,hf,q⟩=>by
  obtain⟨d,h1,hf⟩:=g6.mp hf;obtain⟨ds',h2,h3⟩:=md.mp hf;subst h3;refine⟨F0,H0,F, ρ,d,r,h1,fun v F1 H1 g1 r1=>⟨F0,H0,F1, ρ,ds',r.grow g1,h2,fun vs F2 H2 g2 r2=>?_⟩⟩;exact q _ F2 H2 (g1.trans g2) (.cons (r1.mono g2.ff) r2)
def za(fa:FA): FE:=fun ρ =>(fa ρ).bind fun ds=>if ds.length<=lim then some (.tup ds) else none
def yo(fa:FA): FA:=fun ρ =>(fa ρ).bind fun ds=>if ds.length<=lim then some ds else none
theorem qz{x1}(h:PA X es (tDA X.K fa)): PE X (.Tuple es x1 pos) (tD X.K (za fa)):=zv (qm0 h) fun σ H Q ⟨F0,H0,F, ρ,d,r,hf,q⟩=>by
 obtain⟨ds,h1,h2⟩:=g6.mp hf
 split at h2
 ·rename_i hl
  cases h2;refine⟨F0,H0,F, ρ,ds,r,h1,fun vs F1 H1 g1 r1=>⟨vf (by rw [<- r1.length];exact hl),fun p hp=>?_⟩⟩;have gn:Grow F1 H1 (upd F1 p (.tup vs)) (upd H1 p (.tup vs)):=Grow.new g1.fh hp;exact q _ _ _ (g1.trans gn) (rep_tup.mpr ⟨p,vs,rfl,SqT.of qq,r1.mono gn.ff⟩)
 ·cases h2
theorem yp(h:PA X es (tDA X.K fa)): PE X (.List es pos) (tL X.K (yo fa)):=zv (qes h) fun σ H Q ⟨F0,H0,F, ρ,ds,r,hf,q⟩=>by
 obtain⟨ds',h1,h2⟩:=g6.mp hf
 split at h2
 ·rename_i hl
  cases h2;refine⟨F0,H0,F, ρ,ds,r,h1,fun vs F1 H1 g1 r1=>⟨vf (by rw [<- r1.length];exact hl),fun p hp=>?_⟩⟩;exact q p vs F1 (upd H1 p (.lst vs)) (g1.trans (Grow.own g1.fh hp)) (g1.fh.free hp) (g1.hh.free hp) qq r1
 ·cases h2
def eL(fa:FA): FE:=fun ρ =>(fa ρ).map .lst
theorem xo(h:PE X e (tL X.K fa)): PE X e (tD X.K (eL fa)):=zv h fun σ H Q ⟨F0,H0,F, ρ,d,r,hf,q⟩=>by
 obtain⟨ds,h1,h2⟩:=md.mp hf;subst h2;refine⟨F0,H0,F, ρ,ds,r,h1,fun a xs F1 H1 g1 fa' ha' hl r1=>?_⟩;have sF:Same F1 (upd F1 a (.lst xs)):=q2i fa';refine q _ (upd F1 a (.lst xs)) H1 ⟨g1.ff.trans sF,g1.hh,fun b o z=>?_,fun b hb=>?_⟩ (rep_lst.mpr ⟨a,xs,rfl,SqL.of qq,r1.mono sF⟩)
 ·by_cases q':b=a
  ·subst q';rw [qq] at z;cases z;exact hl
  ·rw [qh q'] at z;exact g1.fh b o z
 ·by_cases q':b=a
  ·subst q';exact .inr ha'
  ·rw [qh q'] at hb;exact g1.nw b hb
def rC(K:Frag)(op:List D->Option D): List V->Hp->VK->Prop:=fun xs H Q=>∃F ds d,Same F H/\RepL K F ds xs/\op ds=some d/\∀v F' H',Grow F H F' H'->Rep K F' d v->Q v H'
def qk(op:List D->Option D)(fa:FA): FE:=fun ρ =>(fa ρ).bind op
theorem q3f{f:Value}{r r':List V->Hp->VK->Prop}(h:xf X f r)(i:∀xs H Q,r' xs H Q->r xs H Q): xf X f r':=fun pins s σ H xs us Q I rv q=>h pins s σ H xs us Q I rv (i xs H Q q)
theorem qf2{K:Frag}{op:List D->Option D}{σ : St}{H:Hp}{Q:VK}(h:tD K (qk op fa) σ H Q): tDA K fa σ H fun vs H1=>rC K op vs H1 Q:=by
 obtain⟨F0,H0,F, ρ,d,r,hf,q⟩:=h;obtain⟨ds,h1,h2⟩:=g6.mp hf;exact⟨F0,H0,F, ρ,ds,r,h1,fun vs F1 H1 g1 r1=>⟨F1,ds,d,g1.fh,r1,h2,fun v F2 H2 g2 r2=>q v F2 H2 (g1.trans g2) r2⟩⟩
theorem zk{x:Str}{p:Pos}{id:String}{op:List D->Option D}(hc:xf X (.builtin id) (rC X.K op))(hg:Gl X x)(hm:X.mg x=none)(hv:bootBuiltins x=some (.builtin id))(ha:PA X (e :: es) (tDA X.K fa))
  (hn:x≠"__name__" :=by decide) (hdb:(x==("__debug__" : Str))=false:=by decide)
  (he:starEach (e :: es) X.env=(false,eval e X.env) :: starEach es X.env:=by rfl) (hpl:(backTo pos (starEach es X.env)).any (·.1)=false:=by rfl):PE X (.Call (.Name x p) (e :: es) [] pos) (tD X.K (qk op fa)):=
 zv (q2h hc hg hm hv ha hn hdb he hpl) fun σ H Q h=>qf2 h
theorem q1n{x:Str}{p:Pos}{T:String}{op:List D->Option D}(hc:xf X (.type T) (rC X.K op))(hg:Gl X x)(hm:X.mg x=none)(hv:bootBuiltins x=some (.type T))(ha:PA X (e :: es) (tDA X.K fa))
  (hn:x≠"__name__" :=by decide) (hdb:(x==("__debug__" : Str))=false:=by decide)
  (he:starEach (e :: es) X.env=(false,eval e X.env) :: starEach es X.env:=by rfl) (hpl:(backTo pos (starEach es X.env)).any (·.1)=false:=by rfl):PE X (.Call (.Name x p) (e :: es) [] pos) (tD X.K (qk op fa)):=
 zv (qeu hc hg hm hv ha hn hdb he hpl) fun σ H Q h=>qf2 h
def spD(K:Frag)(ar:Nat)(op:List D->Option D): Sp:=fun vs H Q _=>∃F ds d,SameT F H/\RepL K F ds vs/\ds.length=ar/\op ds=some d/\∀v F' H',Grow F H F' H'->Rep K F' d v->Q v H'
theorem SameT.grow{F H F' H':Hp}(s:SameT F H)(g:Grow F H F' H'): SameT F' H':=⟨g.fh,g.hh.tb s.t,fun p hp=>by
 cases q:F' p.1 with
 | none=>rfl
 | some o=>
  rcases g.nw p.1 (by rw [q];simp) with z|z
  ·exact absurd (s.f p hp) z
  ·obtain⟨ps,e,_⟩:=s.t p hp
   rw [e] at z;cases z⟩
def qt(ar:Nat)(dds:List D)(op:List D->Option D): List D->Option D:=fun ds=>if(ds++dds).length=ar then op (ds++dds) else none
theorem qji{k ar:Nat}{fn:Addr}{fd:FuncData}{ps:List Str}{op:List D->Option D}{x:Str}{p:Pos}{dvs:List V}{dds:List D}{dv:List Value}(F:FnOk X.prog X.w X.K X.mg X.base CX0 k fn fd ps (spD X.K ar op))(hr:Room k X.A)(hg:Gl X x)(hm:X.mg x=some (.ref fn))(hk:PySem.W.keepIn X.K (.ref fn)=true)
  (hb:Binds X.K fd ps dv) (hd:Vals dvs dv) (hdd:∀H,RepL X.K H dds dvs) (ha:PA X (e :: es) (tDA X.K fa)) (hdb:(x==("__debug__" : Str))=false:=by decide)
  (he:starEach (e :: es) X.env=(false,eval e X.env) :: starEach es X.env:=by rfl) (hpl:(backTo pos (starEach es X.env)).any (·.1)=false:=by rfl) :
  PE X (.Call (.Name x p) (e :: es) [] pos) (tD X.K (qk (qt ar dds op) fa)):=
 zv (qbv F hr hg hm hk hb hd qdc ha hdb he hpl) fun σ H Q ⟨F0,H0,Fz, ρ,d,r,hf,q⟩=>by
  obtain⟨ds,h1,h2⟩:=g6.mp hf;unfold qt at h2
  split at h2
  ·rename_i hl
   exact⟨F0,H0,Fz, ρ,ds,r,h1,fun vs F1 H1 g1 r1=>⟨F1,ds++dds,d,r.sameT g1,r1.append (hdd F1),hl,h2,fun v F2 H2 g2 r2=>q v F2 H2 (g1.trans g2) r2⟩⟩
  ·cases h2
end
section
variable{X:Cx}{st:Stmt}{rest:List Stmt}{e:Expr}{pos:Pos}{f:FE}{fa:FA}{t:FT}{u w:FS}
def kq:FS:=fun ρ =>some (.nx, ρ)
def z6(u w:FS): FS:=fun ρ =>(u ρ).bind fun r=>match r with
 | (.nx, ρ')=>w ρ'
 | (fl, ρ')=>some (fl, ρ')
def sIf(t:FT)(u w:FS): FS:=fun ρ =>(t ρ).bind fun c=>if c then u ρ else w ρ
def j7(i:Nat)(f:FE): FS:=fun ρ =>(f ρ).map fun d=>(.nx, ρ.set i (some (.fz d)))
def q18(i:Nat)(fa:FA): FS:=fun ρ =>(fa ρ).map fun ds=>(.nx, ρ.set i (some (.ow ds)))
def zi(f:FE): FS:=fun ρ =>(f ρ).map fun d=>(.rt d, ρ)
def qod:FS:=fun ρ =>some (.rt .non, ρ)
def qpa:FS:=fun ρ =>some (.bk, ρ)
def qpb:FS:=fun ρ =>some (.ct, ρ)
def qoe(f:FE): FS:=fun ρ =>(f ρ).map fun _=>(.nx, ρ)
theorem xv:PSs X [] (tDS X.K kq):=q4i qj2 fun D σ H ⟨F0,H0,F, ρ,fl, ρ',r,hf,q⟩=>by
 cases hf;exact q σ F H (.refl _) r
theorem q19{K:Frag}{F0 H0 F F':Hp}{D:Ends}{fl:Fl}{ρ':Rho}(s:Same F F')(h:qdg K F0 H0 F D fl ρ'): qdg K F0 H0 F' D fl ρ':=by
 cases fl with
 | nx=>exact fun σ' F2 H2 s2 r=>h σ' F2 H2 (s.trans s2) r
 | bk=>exact fun σ' F2 H2 s2 r=>h σ' F2 H2 (s.trans s2) r
 | ct=>exact fun σ' F2 H2 s2 r=>h σ' F2 H2 (s.trans s2) r
 | rt d=>exact h
theorem qm(h1:PS X st (tDS X.K u))(h2:PSs X rest (tDS X.K w)): PSs X (st :: rest) (tDS X.K (z6 u w)):=q4i (qgf h1 h2) fun D σ H ⟨F0,H0,F, ρ,fl, ρ',r,hf,q⟩=>by
 obtain⟨⟨fl1, ρ1⟩,h3,h4⟩:=g6.mp hf;refine⟨F0,H0,F, ρ,fl1, ρ1,r,h3,?_⟩;cases fl1 with
 | nx=>exact fun σ' F' H' s r'=>⟨F0,H0,F', ρ1,fl, ρ',r',h4,q19 s q⟩
 | bk=>cases h4;exact q
 | ct=>cases h4;exact q
 | rt d=>cases h4;exact q
theorem qp(h1:PS X st (tDS X.K u)): PSs X [st] (tDS X.K u):=qj3 h1
theorem yi{c:Expr}{a b:List Stmt}(hc:PT X c (tDT X.K t))(ha:PSs X a (tDS X.K u))(hb:PSs X b (tDS X.K w)): PS X (.If c a b pos) (tDS X.K (sIf t u w)):=yn (qnt hc ha hb) fun D σ H ⟨F0,H0,F, ρ,fl, ρ',r,hf,q⟩=>by
 obtain⟨c,h1,h2⟩:=g6.mp hf;refine⟨F0,H0,F, ρ,c,r,h1,fun F' H' g'=>?_⟩;cases c with
 | true=>rw [m4 rfl] at h2 ⊢;exact⟨F0,H0,F', ρ,fl, ρ',r.grow g',h2,q19 g'.ff q⟩
 | false=>rw [m9 gz] at h2 ⊢;exact⟨F0,H0,F', ρ,fl, ρ',r.grow g',h2,q19 g'.ff q⟩
theorem zc(he:PE X e (tD X.K f)): PS X (.Return (some e) pos) (tDS X.K (zi f)):=yn (qlm he) fun D σ H ⟨F0,H0,F, ρ,fl, ρ',r,hf,q⟩=>by
 obtain⟨d,h1,h2⟩:=md.mp hf;cases h2;exact⟨F0,H0,F, ρ,d,r,h1,fun v F' H' g' r'=>q v F' H' (r.g.trans g') r'⟩
theorem qof{K:Frag}{i:Nat}{D:Ends}{σ : St}{H:Hp}(h:tDS K (j7 i f) D σ H): tD K f σ H fun x H1=>q4h i x σ H1 D.nx:=by
 obtain⟨F0,H0,F, ρ,fl, ρ',r,hf,q⟩:=h;obtain⟨d,h1,h2⟩:=md.mp hf;cases h2;exact⟨F0,H0,F, ρ,d,r,h1,fun v F' H' g' r'=>q _ F' H' g'.ff ((r.grow g').set i r')⟩
theorem qim{K:Frag}{i:Nat}{D:Ends}{σ : St}{H:Hp}(h:tDS K (q18 i fa) D σ H): tL K fa σ H fun x H1=>q4h i x σ H1 D.nx:=by
 obtain⟨F0,H0,F, ρ,fl, ρ',r,hf,q⟩:=h;obtain⟨ds,h1,h2⟩:=md.mp hf;cases h2;refine⟨F0,H0,F, ρ,ds,r,h1,fun a xs F' H' g' fa' ha' hl r'=>q _ F' H' g'.ff ((r.grow g').setO i hl fa' (r.g.hh.free ha') r' (fun j es z1 z2=>?_) fun j kvs z1=>?_)⟩
 ·obtain⟨b,ys,e1,e2,_⟩:=r.ow j es z1
  rw [z2] at e1;obtain rfl:a=b:=by simpa using e1
  rw [ha'] at e2;cases e2
 ·obtain⟨b,bs,e1,e2,e3⟩:=r.od j kvs z1
  refine⟨b,bs,e1,e2.grow g',fun z=>?_,e3⟩;obtain⟨xs,f,_⟩:=e2.mem z;rw [ha'] at f;cases f
theorem zw{i:Nat}{x:Str}{px:Pos}(hN:X.N.Nodup)(hi:X.N[i]? = some x)(hx:Loc X.env.scope x)(he:PE X e (tD X.K f))(hs:swapsWith e (some (.Name x px)) pos.line X.env=pure false:=by rfl)(hf:X.fn x=true\/X.env.scope.names.lookup x=some .local:=by first|exact .inl rfl|exact .inr rfl|assumption):
  PS X (.Assign [.Name x px] e pos) (tDS X.K (j7 i f)):=yn (q90 hN hi hx he hs hf) fun D σ H h=>qof h
theorem q99{i:Nat}{x:Str}{px:Pos}(hN:X.N.Nodup)(hi:X.N[i]? = some x)(hx:Loc X.env.scope x)(he:PE X e (tL X.K fa))(hs:swapsWith e (some (.Name x px)) pos.line X.env=pure false:=by rfl)(hf:X.fn x=true\/X.env.scope.names.lookup x=some .local:=by first|exact .inl rfl|exact .inr rfl|assumption):
  PS X (.Assign [.Name x px] e pos) (tDS X.K (q18 i fa)):=yn (q90 hN hi hx he hs hf) fun D σ H h=>qim h
def q3g(i:Nat)(ρ : Rho): Option (List D):=match ρ[i]? with
 | some (some (.ow ds))=>some ds
 | _=>none
theorem q7z{i:Nat}{ρ : Rho}{ds:List D}(h:q3g i ρ = some ds): ρ[i]? = some (some (.ow ds)):=by
 unfold q3g at h
 split at h
 ·rename_i e;rw [e,m6 h]
 ·cases h
def q2j(i:Nat)(f:FE): FS:=fun ρ =>(q3g i ρ).bind fun ds=>(f ρ).bind fun d=>if ds.length<lim then some (.nx, ρ.set i (some (.ow (ds++[d])))) else none
theorem q9a{i:Nat}{x:Str}{px apos cpos:Pos}(hv:PE X (.Name x px) (q5a i))(he:PE X e (tD X.K f))
  (hbase:attributeBase (.Name x px) "append" X.env (eval (.Name x px) X.env)=eval (.Name x px) X.env:=by rfl)
  (hfew:((backTo cpos (starEach [e] X.env)).all (fun x=> !x.1)&&(backToKw cpos (keywordEach [] X.env)).all (fun x=>x.1.isSome)&&decide ([e].length+([]:List Keyword).length+(if([]:List Keyword).isEmpty then 0 else 1)<30))=true:=by rfl)
  (hline:(apos.endLine==cpos.line)=true:=by rfl) (hse:starEach [e] X.env=(false,eval e X.env) :: starEach [] X.env:=by rfl)
  (hs:swapsWith (.Call (.Attribute (.Name x px) "append" apos) [e] [] cpos) none pos.line X.env=pure false:=by rfl):PS X (.Expr (.Call (.Attribute (.Name x px) "append" apos) [e] [] cpos) pos) (tDS X.K (q2j i f)):=
 yn (q4g (q5y g1t g3m g3n q3b hv (xt he wd hse) hbase hfew hline hse rfl) hs) fun D σ H ⟨F0,H0,F, ρ,fl, ρ',r,hf,q⟩=>by
  obtain⟨ds,h1,hf⟩:=g6.mp hf;obtain⟨d,h2,h3⟩:=g6.mp hf;have h1:=q7z h1
  split at h3
  ·rename_i hl
   cases h3;obtain⟨a,xs,e1,e2,e3,e4,e5⟩:=r.ow i ds h1;refine⟨.ref a,e1,.inl ⟨rfl,xs,SqL.of e2⟩,F0,H0,F, ρ,d,r,h2,fun v F' H' g' r'=>?_⟩;have r2:=r.grow g';refine⟨a,xs,v,rfl,rfl,g'.hh.lst _ _ e2,q1l (by rw [<- e5.length];exact hl),?_⟩;exact q _ F' _ g'.ff (r2.wrt h1 e1 ((e5.mono g'.ff).append (.cons r' .nil)))
  ·cases h3
def frz(i:Nat)(ρ : Rho): Rho:=match ρ[i]? with
 | some (some (.ow ds))=> ρ.set i (some (.fz (.lst ds)))
 | _=> ρ
def q2k(i:Nat)(u:FS): FS:=fun ρ =>u (frz i ρ)
theorem qml{K:Frag}{F0 H0 F H:Hp}{σ : St}{ρ : Rho}(i:Nat)(r:RS K F0 H0 F H σ ρ): ∃F',Same F F'/\RS K F0 H0 F' H σ (frz i ρ):=by
 unfold frz
 split
 ·rename_i ds h
  exact r.freeze h
 ·exact⟨F,.refl _,r⟩
theorem q3h(i:Nat){sts:List Stmt}(h:PSs X sts (tDS X.K u)): PSs X sts (tDS X.K (q2k i u)):=q4i h fun D σ H ⟨F0,H0,F, ρ,fl, ρ',r,hf,q⟩=>by
 obtain⟨F',s',r'⟩:=qml i r;exact⟨F0,H0,F',frz i ρ,fl, ρ',r',hf,q19 s' q⟩
end
def ze(n:Nat)(u:FS)(ds:List D): Option D:=match u (ds.map (fun d=>some (.fz d))++List.replicate (n-ds.length) none) with
 | some (.rt d,_)=>some d
 | some (.nx,_)=>some .non
 | _=>none
theorem qf3{N:List Str}{vs:List V}{i:Nat}{v:V}(h:vs[i]? = some v): (L2.start N vs)[i]? = some (some v):=by
 unfold L2.start;have hi:i<vs.length:=(mq.mp h).1;rw [nh (by simpa using hi),mh,h];rfl
theorem qf4{P:Program}{w:World}{K:Frag}{H:Hp}{vs:List V}{Q:VK}{N:List Str}{u:FS}{ar:Nat}{E:XK}(hl:ar<=N.length)(h:spD K ar (ze N.length u) vs H Q E): tDS K u {nx:=fun _ H'=>Q .non H',rt:=Q} (L2.start N vs) H:=by
 obtain⟨F,ds,d,fh,rl,el,hd,q⟩:=h;have hlen:=rl.length;have r:RS K F H F H (L2.start N vs) (ds.map (fun d=>some (.fz d))++List.replicate (N.length-ds.length) none):={
  t0:=⟨fh.t,fh.f⟩
  g:=.refl fh.s
  len:=by unfold L2.start;simp only [n9,gr,g49];omega
  fz :=fun i e h1=>by
   by_cases hi:i<ds.length
   ·rw [nh (by simpa using hi),mh] at h1
    cases z:ds[i]? with
    | none=>rw [z] at h1;cases h1
    | some d'=>
     rw [z] at h1;cases h1;obtain⟨v,e1,e2⟩:=rl.get z;exact⟨v,qf3 e1,e2⟩
   ·rw [nq (by simpa using hi),uj] at h1
    split at h1 <;> cases h1
  ow:=fun i es h1=>by
   by_cases hi:i<ds.length
   ·rw [nh (by simpa using hi),mh] at h1
    cases z:ds[i]? with
    | none=>rw [z] at h1;cases h1
    | some d'=>rw [z] at h1;cases h1
   ·rw [nq (by simpa using hi),uj] at h1
    split at h1 <;> cases h1
  dj:=fun i j us es a _ h1=>by
   by_cases hi:i<ds.length
   ·rw [nh (by simpa using hi),mh] at h1
    cases z:ds[i]? with
    | none=>rw [z] at h1;cases h1
    | some d'=>rw [z] at h1;cases h1
   ·rw [nq (by simpa using hi),uj] at h1
    split at h1 <;> cases h1
  od:=fun i kvs h1=>by
   by_cases hi:i<ds.length
   ·rw [nh (by simpa using hi),mh] at h1
    cases z:ds[i]? with
    | none=>rw [z] at h1;cases h1
    | some d'=>rw [z] at h1;cases h1
   ·rw [nq (by simpa using hi),uj] at h1
    split at h1 <;> cases h1
  o1:=fun i j k1 k2 h1=>by
   by_cases hi:i<ds.length
   ·rw [nh (by simpa using hi),mh] at h1
    cases z:ds[i]? with
    | none=>rw [z] at h1;cases h1
    | some d'=>rw [z] at h1;cases h1
   ·rw [nq (by simpa using hi),uj] at h1
    split at h1 <;> cases h1}
 unfold ze at hd;cases z:u (ds.map (fun d=>some (.fz d))++List.replicate (N.length-ds.length) none) with
 | none=>rw [z] at hd;cases hd
 | some p=>
  obtain⟨fl, ρ'⟩:=p;rw [z] at hd;refine⟨F,H,F,_,fl, ρ',r,z,?_⟩;cases fl with
  | nx=>cases hd;exact fun σ' F' H' s' r'=>q .non F' H' r'.g (rep_non.mpr rfl)
  | bk=>cases hd
  | ct=>cases hd
  | rt d'=>cases hd;exact fun v F' H' g' r'=>q v F' H' g' r'
theorem qin{P:Program}{w:World}{K:Frag}{mg:Str->Option Value}{base:Heap}{k:Nat}{f:Addr}{name qual:Str}{params:Arguments}{body:List Stmt}{scope:Scope}{dV kV doc pm cdv ct oc:Value}{an od:Option Addr}
  {osl:Array (Option Value)} {N ps:List Str} {u:FS} (lk:K.lookup f=some ⟨oc,od,.func (PySem.W.fnOf name qual params body scope dV kV doc pm an cdv ct),osl⟩) (hcd:PySem.W.codeIn K cdv qual=true) (S:FnScope N ps scope)
  (hb:∀(A:Around) (outer:List Env) (s:Shared) (H:Hp) (E:XK),Room k (A.deeper (envOfC qual scope s.heap.objs.size f cdv))->PSs (zq CX0 P w K mg base N qual scope f cdv A outer s H E).nox body (tDS K u)) :
  FnOk P w K mg base CX0 (k+1) f (PySem.W.fnOf name qual params body scope dV kV doc pm an cdv ct) ps (spD K ps.length (ze N.length u)):=by
 have hpl:ps.length<=N.length:=by have:=uy List.length S.pre;rw [tf] at this;omega
 refine qij lk hcd S (fun vs H Q E h=>?_) fun A outer s H vs Q E hr hsp=>⟨_,(hb A outer s H E hr).nox,qf4 (P:=P) (w:=w) hpl hsp⟩
 obtain⟨F,ds,d,_,rl,el,_⟩:=h;rw [<- rl.length];exact el
structure ItD(K:Frag)(F:Hp)(ds:List D)(J:It): Prop where
 go:∀(i:Nat) (F' H:Hp),Same F F'->Same F' H->i<ds.length->J.go i H
 yld:∀(i:Nat) (d:D) (F' H:Hp) (x:V) (H':Hp),Same F F'->Same F' H->ds[i]? = some d->J.yld i H x H'->∃F'',Grow F' H F'' H'/\Rep K F'' d x
 stop:∀(i:Nat) (F' H:Hp),Same F F'->Same F' H->ds.length<=i->J.stop i H
def tDI(K:Frag)(f:FA): TI:=fun σ H R=>∃F0 H0 F ρ ds,RS K F0 H0 F H σ ρ /\ f ρ = some ds/\∀J F' H',Grow F H F' H'->ItD K F' ds J->R J H'
abbrev FB:=D->Rho->Option Rho
abbrev FBs:=List D->Rho->Option Rho
def tDG(K:Frag)(b:FB): TG:=fun v σ H Q=>∃F0 H0 F ρ d ρ',RS K F0 H0 F H σ ρ /\ Rep K F d v/\b d ρ = some ρ'/\∀ σ',RS K F0 H0 F H σ' ρ'->Q σ' H
def qdj(K:Frag)(b:FBs): TGs:=fun vs σ H Q=>∃F0 H0 F ρ ds ρ',RS K F0 H0 F H σ ρ /\ RepL K F ds vs/\b ds ρ = some ρ'/\∀ σ',RS K F0 H0 F H σ' ρ'->Q σ' H
section
variable{X:Cx}{tg e:Expr}{es:List Expr}{pos:Pos}
theorem q65{t t':TI}(h:PI X tg e t)(i:∀ σ H R,t' σ H R->t σ H R): PI X tg e t':=fun pins s σ H R I q=>h pins s σ H R I (i σ H R q)
theorem qf5{t t':TG}(h:PG X e t)(i:∀v σ H Q,t' v σ H Q->t v σ H Q): PG X e t':=fun pins s σ H v u Q I r q=>h pins s σ H v u Q I r (i v σ H Q q)
theorem qc0{t t':TGs}(h:PGs X es t)(i:∀v σ H Q,t' v σ H Q->t v σ H Q): PGs X es t':=fun pins s σ H v u Q I r q=>h pins s σ H v u Q I r (i v σ H Q q)
def bN(i:Nat): FB:=fun d ρ =>some (ρ.set i (some (.fz d)))
def xw:FBs:=fun ds ρ =>if ds.isEmpty then some ρ else none
def zg(b:FB)(bs:FBs): FBs:=fun ds ρ =>match ds with
 | d :: r=>(b d ρ).bind fun ρ'=>bs r ρ'
 | []=>none
def xx(n:Nat)(bs:FBs): FB:=fun d ρ =>match d with
 | .tup ds=>if ds.length=n then bs ds ρ else none
 | _=>none
theorem z9{i:Nat}{x:Str}(hN:X.N.Nodup)(hi:X.N[i]? = some x)(hx:Loc X.env.scope x)(hf:X.fn x=true\/X.env.scope.names.lookup x=some .local:=by first|exact .inl rfl|exact .inr rfl|assumption): PG X (.Name x pos) (tDG X.K (bN i)):=
 qf5 (qj4 hN hi hx hf) fun v σ H Q ⟨F0,H0,F, ρ,d, ρ',r,hr,hb,q⟩=>by
  cases hb;exact q _ (r.set i hr)
theorem q28:PGs X [] (qdj X.K xw):=qc0 qj5 fun vs σ H Q ⟨F0,H0,F, ρ,ds, ρ',r,hr,hb,q⟩=>by
 unfold xw at hb
 split at hb
 ·rename_i z
  cases hb;have z':ds=[]:=by simpa using z
  subst z';exact⟨hr.nil_inv,q σ r⟩
 ·cases hb
theorem jw{b:FB}{bs:FBs}(h1:PG X e (tDG X.K b))(h2:PGs X es (qdj X.K bs))(hs:(assignEach (e :: es) X.env).map (·.2)=assign e X.env :: (assignEach es X.env).map (·.2):=by rfl): PGs X (e :: es) (qdj X.K (zg b bs)):=
 qc0 (qgg h1 h2 hs) fun vs σ H Q ⟨F0,H0,F, ρ,ds, ρ',r,hr,hb,q⟩=>by
  cases ds with
  | nil=>cases hb
  | cons d ds=>
   obtain⟨v,vr,rfl,h3,h4⟩:=hr.cons_inv;obtain⟨ρ1,h5,h6⟩:=g6.mp hb;exact⟨v,vr,rfl,F0,H0,F, ρ,d, ρ1,r,h3,h5,fun σ' r'=>⟨F0,H0,F, ρ1,ds, ρ',r',h4,h6,q⟩⟩
theorem q29{k n:Nat}{bs:FBs}(hc:X.calm=true)(h:PGs X es (qdj X.K bs))(hn:(assignEach es X.env).length=n:=by rfl)(hst:(assignEach es X.env).findIdx? (·.1)=none:=by rfl): PG X (.Tuple es k pos) (tDG X.K (xx n bs)):=
 qf5 (qln hc h hn hst) fun v σ H Q ⟨F0,H0,F, ρ,d, ρ',r,hr,hb,q⟩=>by
  cases d <;> simp only [xx] at hb <;> first|(cases hb;done)|skip
  rename_i ds
  split at hb
  ·rename_i hl
   obtain⟨a,xs,rfl,h1,h2⟩:=rep_tup.mp hr;exact⟨a,xs,rfl,ql r.fh h1,by rw [<- h2.length];exact hl,F0,H0,F, ρ,ds, ρ',r,h2,hb,q⟩
  ·cases hb
def qog(f:FE)(b:FB): FS:=fun ρ =>(f ρ).bind fun d=>(b d ρ).map fun ρ'=>(.nx, ρ')
theorem qh1{K:Frag}{F:Hp}{a:Addr}{xs:List V}{ds:List D}(h:SqL K F a xs)(hd:RepL K F ds xs): ItD K F ds (Itl K a) where
 go:=fun i F' H s1 s2 hi=>⟨xs,xs[i]'(by rw [<- hd.length];exact hi),(s1.trans s2).seq h,by simp⟩
 yld:=fun i d F' H x H' s1 s2 hi ⟨e,y⟩=>by
  subst e;obtain⟨z,h1,h2⟩:=hd.get hi;have:=y xs ((s1.trans s2).seq h);rw [h1] at this;cases this;exact⟨F',.refl s2,h2.mono s1⟩
 stop:=fun i F' H s1 s2 hi=>⟨xs,(s1.trans s2).seq h,by rw [<- hd.length];exact hi⟩
theorem qjj{K:Frag}{F:Hp}{a:Addr}{xs:List V}{ds:List D}(h:SqT K F a xs)(hd:RepL K F ds xs): ItD K F ds (Itt K a) where
 go:=fun i F' H s1 s2 hi=>⟨xs,xs[i]'(by rw [<- hd.length];exact hi),ql (s1.trans s2) h,by simp⟩
 yld:=fun i d F' H x H' s1 s2 hi ⟨e,y⟩=>by
  subst e;obtain⟨z,h1,h2⟩:=hd.get hi;have:=y xs (ql (s1.trans s2) h);rw [h1] at this;cases this;exact⟨F',.refl s2,h2.mono s1⟩
 stop:=fun i F' H s1 s2 hi=>⟨xs,ql (s1.trans s2) h,by rw [<- hd.length];exact hi⟩
def z0(lo:Int)(n:Nat): List D:=(List.range n).map fun i:Nat=>.int (lo+i)
theorem q80{K:Frag}{F:Hp}(lo:Int)(n:Nat): ItD K F (z0 lo n) (Itr lo n) where
 go:=fun i F' H s1 s2 hi=>by show i<n;simpa [z0] using hi
 yld:=fun i d F' H x H' s1 s2 hi ⟨e,y⟩=>by
  subst e y;simp only [z0,mh] at hi;cases q:(List.range n)[i]? with
  | none=>rw [q] at hi;cases hi
  | some j=>
   rw [q] at hi;cases hi;have:j=i:=by
    have h2:=mq.mp q;obtain⟨h3,h4⟩:=h2;rw [List.getElem_range] at h4;exact h4.symm
   subst this;exact⟨F',.refl s2,rep_int.mpr rfl⟩
 stop:=fun i F' H s1 s2 hi=>by show n<=i;simpa [z0] using hi
def q1x:D->Option (List D)
 | .tup ds=>some ds
 | .lst ds=>some ds
 | _=>none
def vg(f:FE): FA:=fun ρ =>(f ρ).bind q1x
theorem qoh{l:Expr}{tl:TE}(hl:PE X l tl): PI X tg l (fun σ H R=>tl σ H fun x H1=>(∃a,x=.ref a/\(∃xs,SqL X.K H1 a xs)/\R (Itl X.K a) H1)\/(∃a,x=.ref a/\(∃xs,SqT X.K H1 a xs)/\R (Itt X.K a) H1)):=by
 intro pins s σ H R I h;refine thn (hl pins s σ H _ I h) fun v s1 ⟨x,H1,I1,r1,q1⟩=>?_;rcases q1 with⟨a,e,⟨xs,hq⟩,q⟩|⟨a,e,⟨xs,hq⟩,q⟩
 ·subst e
  cases r1;obtain⟨its,rv,p,hz⟩:=I1.list hq;refine wpAny_pyIter_list p.isList ?_;refine⟨s1.heap.objs.size,[s1.heap.objs.size],_,_,H1,rfl,I1.kept (t':=s1.toks) fun b o e=>g9 _ e,qel a _,⟨_,ma _ rfl,rfl,rfl⟩,fun b hb=>?_,q⟩;have e:b=s1.heap.objs.size:=by simpa using hb
  subst e;exact I1.fpOk (gu _) (I1.hok.fresh (gu _))
 ·subst e
  cases r1;obtain⟨its,rv,p,hz⟩:=I1.tuple hq;refine wpAny_pyIter_tuple (show s1.heap.IsTuple a its.toArray from p) ?_;refine⟨s1.heap.objs.size,[s1.heap.objs.size],_,_,H1,rfl,I1.kept (t':=s1.toks) fun b o e=>g9 _ e,qd4 a _,⟨_,ma _ rfl,rfl,rfl⟩,fun b hb=>?_,q⟩;have e:b=s1.heap.objs.size:=by simpa using hb
  subst e;exact I1.fpOk (gu _) (I1.hok.fresh (gu _))
theorem xg{f:FE}(h:PE X e (tD X.K f)): PI X tg e (tDI X.K (vg f)):=q65 (qoh h) fun σ H R ⟨F0,H0,F, ρ,ds,r,hf,q⟩=>by
 obtain⟨d,h1,h2⟩:=g6.mp hf;refine⟨F0,H0,F, ρ,d,r,h1,fun v F' H' g' r'=>?_⟩;cases d <;> simp only [q1x] at h2 <;> first|(cases h2;done)|skip
 ·cases h2
  obtain⟨a,xs,rfl,h3,h4⟩:=rep_tup.mp r';exact .inr ⟨a,rfl,⟨xs,ql g'.fh h3⟩,q _ F' H' g' (qjj h3 h4)⟩
 ·cases h2
  obtain⟨a,xs,rfl,h3,h4⟩:=rep_lst.mp r';exact .inl ⟨a,rfl,⟨xs,g'.fh.seq h3⟩,q _ F' H' g' (qh1 h3 h4)⟩
def iR1(fa:FA): FA:=fun ρ =>(fa ρ).bind fun ds=>match ds with
 | [.int j]=>if decide (-(2 ^ 62)<=j)&&decide (j<2 ^ 62) then some (z0 0 j.toNat) else none
 | _=>none
def iR2(fa:FA): FA:=fun ρ =>(fa ρ).bind fun ds=>match ds with
 | [.int i,.int j]=>if(decide (-(2 ^ 62)<=i)&&decide (i<2 ^ 62))&&(decide (-(2 ^ 62)<=j)&&decide (j<2 ^ 62)) then some (z0 i (j-i).toNat) else none
 | _=>none
theorem q1o{a:Expr}{fa:FA}{p:Pos}(hg:Gl X "range")(hm:X.mg "range" = none)(ha:PA X [a] (tDA X.K fa))(hs:starEach [a] X.env=[(false,eval a X.env)]:=by rfl): PI X tg (.Call (.Name "range" p) [a] [] pos) (tDI X.K (iR1 fa)):=
 q65 (qem hg hm ha hs) fun σ H R ⟨F0,H0,F, ρ,ds,r,hf,q⟩=>by
  obtain⟨es,h1,h2⟩:=g6.mp hf;refine⟨F0,H0,F, ρ,es,r,h1,fun vs F' H' g' r'=>?_⟩
  split at h2
  ·rename_i j
   split at h2
   ·rename_i z
    cases h2;obtain⟨x,t,rfl,h3,h4⟩:=r'.cons_inv;cases h4.nil_inv;obtain⟨z1,z2⟩:=q12 z;exact⟨j,by rw [rep_int.mp h3],z1,z2,q _ F' H' g' (q80 0 _)⟩
   ·cases h2
  ·cases h2
theorem qf6{a b:Expr}{fa:FA}{p:Pos}(hg:Gl X "range")(hm:X.mg "range" = none)(ha:PA X [a,b] (tDA X.K fa))(hs:starEach [a,b] X.env=[(false,eval a X.env),(false,eval b X.env)]:=by rfl)(hs2:starEach [b] X.env=[(false,eval b X.env)]:=by rfl):
  PI X tg (.Call (.Name "range" p) [a,b] [] pos) (tDI X.K (iR2 fa)):=
 q65 (qen hg hm ha hs hs2) fun σ H R ⟨F0,H0,F, ρ,ds,r,hf,q⟩=>by
  obtain⟨es,h1,h2⟩:=g6.mp hf;refine⟨F0,H0,F, ρ,es,r,h1,fun vs F' H' g' r'=>?_⟩
  split at h2
  ·rename_i i j
   split at h2
   ·rename_i z
    cases h2;obtain⟨x,t,rfl,h3,h4⟩:=r'.cons_inv;obtain⟨x2,t2,rfl,h5,h6⟩:=h4.cons_inv;cases h6.nil_inv;rw [gv] at z;obtain⟨z1,z2⟩:=q12 z.1;obtain⟨z3,z4⟩:=q12 z.2;exact⟨i,j,by rw [rep_int.mp h3,rep_int.mp h5],⟨z1,z2,z3,z4⟩,q _ F' H' g' (q80 _ _)⟩
   ·cases h2
  ·cases h2
def runFor(b:FB)(body:FS): List D->Rho->Option (Fl×Rho)
 | [], ρ =>some (.nx, ρ)
 | d :: ds, ρ =>(b d ρ).bind fun ρ1=>(body ρ1).bind fun r=>match r with
  | (.nx, ρ2)=>runFor b body ds ρ2
  | (.ct, ρ2)=>runFor b body ds ρ2
  | (.bk, ρ2)=>some (.nx, ρ2)
  | (.rt v, ρ2)=>some (.rt v, ρ2)
def q0c(it:FA)(b:FB)(body:FS): FS:=fun ρ =>(it ρ).bind fun ds=>runFor b body ds ρ
theorem wj{iter:Expr}{body:List Stmt}{it:FA}{b:FB}{u:FS}(hp:PassesOwn (model X.prog X.w) X.A X.env X.xe)(hc:X.calm=true)(hi:PI X tg iter (tDI X.K it))(hg:PG X tg (tDG X.K b))(hb:PSs X body (tDS X.K u))
  (hs:∀x,foldedSetIterable iter X.env x=pure x:=by intro _;rfl):PS X (.For tg iter body [] pos) (tDS X.K (q0c it b u)):=yn (qlp hp hc hi hg hb hs) fun D σ H ⟨F0,H0,F, ρ,fl, ρ',r,hf,q⟩=>by
 obtain⟨ds,h1,h2⟩:=g6.mp hf;refine⟨F0,H0,F, ρ,ds,r,h1,fun J F1 H1 g1 itd=>?_⟩;refine⟨fun i m σ H=>m=ds.length-i/\i<=ds.length/\∃F' ρi,Same F1 F'/\RS X.K F0 H0 F' H σ ρi/\runFor b u (ds.drop i) ρi=some (fl, ρ'),⟨ds.length,by simp,g0b _,F1, ρ,.refl _,r.grow g1,by simpa using h2⟩,?_⟩
 rintro i m σ H ⟨rfl,hi,F', ρi,s1,r1,h3⟩
 by_cases hlt:i<ds.length
 ·have hd:ds.drop i=ds[i] :: ds.drop (i+1):=pd hlt
  rw [hd] at h3;obtain⟨ρ1,h4,h5⟩:=g6.mp h3;obtain⟨⟨fl1, ρ2⟩,h6,h7⟩:=g6.mp h5;refine .inr ⟨itd.go i F' H s1 r1.fh hlt,fun σ' H'=>∃F',Same F1 F'/\RS X.K F0 H0 F' H' σ' ρ2/\runFor b u (ds.drop (i+1)) ρ2=some (fl, ρ'),fun σ' H' ⟨F',z1,z2,z3⟩=>⟨ds.length-(i+1),by omega,rfl,hlt,F', ρ2,z1,z2,z3⟩,fun x H' y=>?_⟩;obtain⟨F2,g2,r2⟩:=itd.yld i ds[i] F' H x H' s1 r1.fh (by simp [hlt]) y;refine⟨F0,H0,F2, ρi,ds[i], ρ1,r1.grow g2,r2,h4,fun σ' r3=>⟨F0,H0,F2, ρ1,fl1, ρ2,r3,h6,?_⟩⟩;cases fl1 with
  | nx=>exact fun σ2 F3 H3 s3 r4=>⟨F3,(s1.trans g2.ff).trans s3,r4,h7⟩
  | ct=>exact fun σ2 F3 H3 s3 r4=>⟨F3,(s1.trans g2.ff).trans s3,r4,h7⟩
  | bk=>cases h7;exact fun σ2 F3 H3 s3 r4=>q σ2 F3 H3 ((g1.ff.trans (s1.trans g2.ff)).trans s3) r4
  | rt d=>cases h7;exact q
 ·have e:i=ds.length:=by omega
  subst e;rw [List.drop_length] at h3;cases h3;exact .inl ⟨itd.stop _ F' H s1 r1.fh (gu _),q σ F' H (g1.ff.trans s1) r1⟩
end
def qmm:Option B->Option B
 | some (.fz d)=>some (.fz d)
 | _=>none
def yq(cap:List (Option Nat))(ρ : Rho): Rho:=cap.map fun o=>o.bind fun j=>qmm (ρ[j]?).join
structure Sub(ρ ρ':Rho): Prop where
 len : ρ.length = ρ'.length
 sub:∀(i:Nat) (b:B), ρ[i]? = some (some b) -> ρ'[i]? = some (some b)
theorem RS.weak{K:Frag}{F0 H0 F H:Hp}{σ : St}{ρ ρ':Rho}(r:RS K F0 H0 F H σ ρ')(s:Sub ρ ρ'): RS K F0 H0 F H σ ρ where
 t0:=r.t0
 g:=r.g
 len:=by rw [s.len];exact r.len
 fz:=fun i d e=>r.fz i d (s.sub i _ e)
 ow:=fun i ds e=>r.ow i ds (s.sub i _ e)
 dj:=fun i j ds es a h e1 e2=>r.dj i j ds es a h (s.sub i _ e1) (s.sub j _ e2)
 od:=fun i kvs e=>let⟨a,bs,e1,e2,e3⟩:=r.od i kvs (s.sub i _ e); ⟨a,bs,e1,e2,fun j es b h=>e3 j es b (s.sub j _ h)⟩
 o1:=fun i j k1 k2 e1 e2=>r.o1 i j k1 k2 (s.sub i _ e1) (s.sub j _ e2)
def q0y(ρ : Rho): Prop:=∀(i:Nat) (b:B), ρ[i]? = some (some b)->∃d,b=.fz d
theorem q2l{ρ : Rho}(no:q0y ρ){i:Nat}{ds:List D}(h : ρ[i]? = some (some (.ow ds))): False:=let⟨_,e⟩:=no i _ h;nomatch e
theorem q2m{ρ : Rho}(no:q0y ρ){i:Nat}{ds}(h : ρ[i]? = some (some (.od ds))): False:=let⟨_,e⟩:=no i _ h;nomatch e
theorem vc(cap:List (Option Nat))(ρ : Rho): q0y (yq cap ρ):=fun i ds h=>by
 unfold yq at h;rw [mh] at h;cases q:cap[i]? with
 | none=>rw [q] at h;cases h
 | some o=>
  rw [q] at h;cases o with
  | none=>cases h
  | some j=>
   simp only [pf,gm,g3d] at h;generalize (ρ[j]?).join=z at h;cases z with
   | none=>cases h
   | some b=>cases b with
    | fz d=>cases h;exact⟨d,rfl⟩
    | ow _=>cases h
    | od _=>cases h
theorem qmn{K:Frag}{F0 H0 F H:Hp}{σ : St}{ρ : Rho}(cap:List (Option Nat))(r:RS K F0 H0 F H σ ρ): RS K F H F H (q7a cap σ) (yq cap ρ) where
 t0:=⟨r.tab,r.tabF⟩
 g:=.refl r.fh
 len:=by unfold q7a yq;rw [gr,gr]
 fz := fun i d h=>by
  unfold yq at h;rw [mh] at h;cases q:cap[i]? with
  | none=>rw [q] at h;cases h
  | some o=>
   rw [q] at h;cases o with
   | none=>cases h
   | some j=>
    simp only [pf,gm,g3d] at h;have e : ρ[j]? = some (some (.fz d)):=by
     cases z : ρ[j]? with
     | none=>rw [z] at h;cases h
     | some b=>
      rw [z] at h;cases b with
      | none=>cases h
      | some b=>cases b with
       | fz d'=>cases h;rfl
       | ow _=>cases h
       | od _=>cases h
    obtain⟨v,e1,e2⟩:=r.fz j d e;refine⟨v,?_,e2⟩;unfold q7a;rw [mh,q];simp only [pf,gm,e1,g26]
 ow:=fun i ds h=>(q2l (vc cap ρ) h).elim
 dj:=fun i j ds es a _ h=>(q2l (vc cap ρ) h).elim
 od:=fun i ds h=>(q2m (vc cap ρ) h).elim
 o1:=fun i j ds es h=>(q2m (vc cap ρ) h).elim
theorem RS.other{K:Frag}{F0 H0 F H:Hp}{σ : St}{ρ : Rho}(r:RS K F0 H0 F H σ ρ)(no:q0y ρ){p:Addr}{o:HO}(h1:F p=none)(h2:H0 p=none)(h3:H p=none\/∃xs,H p=some (.lst xs)): RS K F0 H0 F (upd H p o) σ ρ where
 t0:=r.t0
 g :=⟨r.g.ff,⟨fun b u e=>by rw [qh (fun z=>by subst z;rw [h2] at e;cases e)];exact r.g.hh.lst b u e,fun b u e=>by rw [qh (fun z=>by subst z;rw [h2] at e;cases e)];exact r.g.hh.ext b u e,fun {b} e=>by
   by_cases z:b=p
   ·subst z;exact h2
   ·rw [qh z] at e;exact r.g.hh.free e,fun t=>(r.g.hh.tb t).upd h3,fun b u e=>by rw [qh (fun z=>by subst z;rw [h2] at e;cases e)];exact r.g.hh.dk b u e⟩,fun b u e=>by rw [qh (fun z=>by subst z;rw [h1] at e;cases e)];exact r.g.fh b u e,r.g.nw⟩
 len:=r.len
 fz:=r.fz
 ow:=fun i ds h=>(q2l no h).elim
 dj:=fun i j ds es a _ h=>(q2l no h).elim
 od:=fun i ds h=>(q2m no h).elim
 o1:=fun i j ds es h=>(q2m no h).elim
theorem q3i{F H F' H':Hp}{p:Addr}(g:Grow F H F' H')(h1:F p=none){o:HO}(h2:H p=some o): F' p=none:=by
 cases q:F' p with
 | none=>rfl
 | some u=>
  rcases g.nw p (by rw [q];simp) with z|z
  ·exact absurd h1 z
  ·rw [h2] at z;cases z
def qw(b:FB)(c:FT)(f:FE)(ρ : Rho): List D->Option (List D)
 | []=>some []
 | d :: ds=>(b d ρ).bind fun ρ1=>(c ρ1).bind fun t=>if t then(f ρ1).bind fun y=>(qw b c f ρ ds).map fun ys=>y :: ys else qw b c f ρ ds
def zl:FT:=fun _=>some true
def zm(it:FA)(cap:List (Option Nat))(b:FB)(c:FT)(f:FE): FA:=fun ρ =>(it ρ).bind fun ds=>if ds.length<=lim then qw b c f (yq cap ρ) ds else none
def q66(b:FB)(cap:List (Option Nat)): Prop:=∀ ρ d ρ',b d (yq cap ρ)=some ρ'->Sub (yq cap ρ) ρ'/\q0y ρ'
section
variable{X:Cx}
theorem qh2{ifs:List Expr}{t t':TT}(h:q0u X ifs t)(i:∀ σ H Q,t' σ H Q->t σ H Q): q0u X ifs t':=fun pins s σ H Q I q=>h pins s σ H Q I (i σ H Q q)
theorem wk:q0u X [] (tDT X.K zl):=qh2 qgq fun σ H Q ⟨F0,H0,F, ρ,b,r,hf,q⟩=>by cases hf;exact q F H (.refl r.fh)
theorem q9b{c:Expr}{t:FT}(h:PT X c (tDT X.K t)): q0u X [c] (tDT X.K t):=qgr h
theorem qf7{K:Frag}{it:FA}{cap:List (Option Nat)}{b:FB}{c:FT}{f:FE}{σ : St}{H:Hp}{Q:VK}(fr:q66 b cap)(h:tL K (zm it cap b c f) σ H Q): qde (tDI K it) cap (tDG K b) (tDT K c) (tD K f) σ H Q:=by
 obtain⟨F0,H0,F, ρ,zs,r,hf,q⟩:=h;obtain⟨ds,h1,h2⟩:=g6.mp hf;have hlim:ds.length<=lim:=Decidable.byContradiction fun z=>by rw [m9 z] at h2;cases h2
 rw [m4 hlim] at h2;refine⟨F0,H0,F, ρ,ds,r,h1,fun J F1 H1 g1 itd p hp=>?_⟩;have rc:=qmn cap (r.grow g1);have hF1:F1 p=none:=g1.fh.free hp;refine⟨fun i m σ H=>m=ds.length-i/\i<=ds.length/\∃F' xs ys us,Same F1 F'/\RS K F1 H1 F' H σ (yq cap ρ)/\H p=some (.lst xs)/\F' p=none/\RepL K F' ys xs/\qw b c f (yq cap ρ) (ds.drop i)=some us/\ys++us=zs/\ys.length<=i,
  ⟨ds.length,by simp,g0b _,F1,[],[],zs,.refl _,rc.other (vc cap ρ) hF1 hp (.inl hp),qq,hF1,.nil,by simpa using h2,rfl,gu _⟩,?_⟩
 rintro i m σ' H' ⟨rfl,hi,F',xs,ys,us,s1,r1,hl,hn,ry,h3,h4,hyi⟩
 by_cases hlt:i<ds.length
 ·have hd:ds.drop i=ds[i] :: ds.drop (i+1):=pd hlt
  rw [hd] at h3;obtain⟨ρ1,h5,h3⟩:=g6.mp h3;obtain⟨t,h6,h3⟩:=g6.mp h3;obtain⟨sb,no1⟩:=fr ρ _ _ h5;refine .inr ⟨itd.go i F' H' s1 r1.fh hlt,fun x H'' y=>?_⟩;obtain⟨F2,g2,r2⟩:=itd.yld i ds[i] F' H' x H'' s1 r1.fh (by simp [hlt]) y;refine⟨F1,H1,F2,yq cap ρ,ds[i], ρ1,r1.grow g2,r2,h5,fun σ2 r3=>⟨F1,H1,F2, ρ1,t,r3,h6,fun F3 H3 g3=>?_⟩⟩;have r4:=r3.grow g3;have hl2:=g2.hh.lst _ _ hl;have hn2:=q3i g2 hn hl;have hl3:=g3.hh.lst _ _ hl2;have hn3:=q3i g3 hn2 hl2;cases t with
  | false=>
   rw [m9 gz] at h3;exact qp6 ⟨ds.length-(i+1),by omega,rfl,hlt,F3,xs,ys,us,(s1.trans g2.ff).trans g3.ff,r4.weak sb,hl3,hn3,ry.mono (g2.ff.trans g3.ff),h3,h4,Nat.le_succ_of_le hyi⟩
  | true=>
   rw [m4 rfl] at h3;obtain⟨yd,h7,h3⟩:=g6.mp h3;obtain⟨us',h8,h9⟩:=md.mp h3;refine qp7 ⟨F1,H1,F3, ρ1,yd,r4,h7,fun v F4 H4 g4 r5=>?_⟩;have hl4:=g4.hh.lst _ _ hl3;have hn4:=q3i g4 hn3 hl3;have ss:Same F' F4:=(g2.ff.trans g3.ff).trans g4.ff;refine⟨xs,hl4,q1l (by have:=ry.length;omega),ds.length-(i+1),by omega,rfl,hlt,F4,xs++[v],ys++[yd],us',(s1.trans ss),?_,qq,hn4,(ry.mono ss).append (.cons r5 .nil),h8,?_,?_⟩
   ·exact((r4.grow g4).weak sb).other (vc cap ρ) hn4 hp (.inr ⟨_,hl4⟩)
   ·rw [mj,List.singleton_append,h9];exact h4
   ·rw [n9,g0l];omega
 ·have e:i=ds.length:=by omega
  subst e;rw [List.drop_length] at h3;cases h3;rw [g12] at h4;subst h4;have gg:Grow F1 H1 F' H':=r1.g;exact .inl ⟨itd.stop _ F' H' s1 r1.fh (gu _),q p xs F' H' (g1.trans gg) hn (g1.hh.free hp) hl ry⟩
variable{N':List Str}{scope:Scope}{cap:List (Option Nat)}{tg iter elt:Expr}{ifs:List Expr}{it:FA}{b:FB}{c:FT}{f:FE}{pos:Pos}
theorem vz(hc:X.calm=true)(co:CapOk X N' scope cap)(fr:q66 b cap)(hi:PI X tg iter (tDI X.K it))
  (hg:∀cl C s₀ H₀ fp,PG (j8 X N' scope cl C s₀ H₀ fp) tg (tDG X.K b)) (hcs:∀cl C s₀ H₀ fp,q0u (j8 X N' scope cl C s₀ H₀ fp) ifs (tDT X.K c)) (he:∀cl C s₀ H₀ fp,PE (j8 X N' scope cl C s₀ H₀ fp) elt (tD X.K f))
  (hs:∀x,foldedSetIterable iter X.env x=pure x:=by intro _;rfl):PE X (.ListComp elt [⟨tg,iter,ifs,0⟩] scope pos) (tL X.K (zm it cap b c f)):=
 zv (qjd hc co hi hg hcs he hs) fun σ H Q h=>qf7 fr h
theorem qc1{i:Nat}{x:Str}{px pe:Pos}(hc:X.calm=true)(hN:X.N.Nodup)(hx0:X.N[i]? = some x)(hx:X.env.scope.names.lookup x=some .local)(co:CapOk X N' scope cap)(fr:q66 b cap)(hi:PI X tg iter (tDI X.K it))
  (hg:∀cl C s₀ H₀ fp,PG (j8 X N' scope cl C s₀ H₀ fp) tg (tDG X.K b)) (hcs:∀cl C s₀ H₀ fp,q0u (j8 X N' scope cl C s₀ H₀ fp) ifs (tDT X.K c)) (he:∀cl C s₀ H₀ fp,PE (j8 X N' scope cl C s₀ H₀ fp) elt (tD X.K f))
  (hsw:swapsWith (.ListComp elt [⟨tg,iter,ifs,0⟩] scope pe) (some (.Name x px)) pos.line X.env=pure true:=by rfl)
  (hs:∀x,foldedSetIterable iter X.env x=pure x:=by intro _;rfl):PS X (.Assign [.Name x px] (.ListComp elt [⟨tg,iter,ifs,0⟩] scope pe) pos) (tDS X.K (q18 i (zm it cap b c f))):=
 yn (qdf hc hN hx0 hx co hi hg hcs he hsw hs) fun D σ H h=>qf7 fr (qim h)
end
theorem q9c{cap:List (Option Nat)}{ρ : Rho}{i:Nat}(h:cap[i]? = some none): (yq cap ρ)[i]? = some none:=by
 unfold yq;rw [mh,h];rfl
theorem qc2{ρ ρ':Rho}{i:Nat}{b:Option B}(s:Sub ρ ρ')(h : ρ[i]? = some none): Sub ρ (ρ'.set i b):=
 ⟨by rw [t5];exact s.len,fun j c e=>by
  by_cases q:j=i
  ·subst q;rw [h] at e;cases e
  ·rw [gc (mi q)];exact s.sub j c e⟩
theorem q81{ρ : Rho}{i:Nat}{d:D}(h:q0y ρ): q0y (ρ.set i (some (.fz d))):=fun j ds e=>by
 by_cases q:j=i
 ·subst q
  obtain⟨z,_⟩:=qi e;cases z;exact⟨d,rfl⟩
 ·rw [gc (mi q)] at e;exact h j ds e
theorem Sub.refl(ρ : Rho): Sub ρ ρ :=⟨rfl,fun _ _ h=>h⟩
theorem jt{cap:List (Option Nat)}{i:Nat}(h:cap[i]? = some none): q66 (bN i) cap:=fun ρ d ρ' e=>by
 cases e;exact⟨qc2 (.refl _) (q9c h),q81 (vc cap ρ)⟩
def q67(bs:FBs)(cap:List (Option Nat)): Prop:=∀ ρ ds ρ1 ρ',Sub (yq cap ρ) ρ1->q0y ρ1->bs ds ρ1=some ρ'->Sub (yq cap ρ) ρ'/\q0y ρ'
theorem q2n{cap:List (Option Nat)}: q67 xw cap:=fun ρ ds ρ1 ρ' s n e=>by
 unfold xw at e
 split at e
 ·cases e;exact⟨s,n⟩
 ·cases e
theorem xp{cap:List (Option Nat)}{i:Nat}{bs:FBs}(h:cap[i]? = some none)(t:q67 bs cap): q67 (zg (bN i) bs) cap:=fun ρ ds ρ1 ρ' s n e=>by
 cases ds with
 | nil=>cases e
 | cons d ds=>exact t ρ ds _ ρ' (qc2 s (q9c h)) (q81 n) e
theorem q3j{cap:List (Option Nat)}{n:Nat}{bs:FBs}(t:q67 bs cap): q66 (xx n bs) cap:=fun ρ d ρ' e=>by
 cases d <;> simp only [xx] at e <;> first|(cases e;done)|skip
 split at e
 ·exact t ρ _ _ ρ' (.refl _) (vc cap ρ) e
 ·cases e
def qmo (outer:List (Str×NameKind)) (N N':List Str) (scope:Scope) (cap:List (Option Nat)):Bool:=
 scope.names.all (fun y=> !(y.2 == .cell))&&(scope.names.all (fun y=> !(y.2 == .local) || (scope.names.lookup y.1==some .local))&&(scope.names.all (fun y=> !(y.2 == .free) || (outer.lookup y.1==some .cell) || (outer.lookup y.1==some .free)) &&
  (cap.length==N'.length&&(List.range cap.length).all fun i=>match(cap[i]?).join with
   | none=>true
   | some j=>match N'[i]? with
    | none=>false
    | some x=>N[j]? == some x&&scope.names.lookup x==some .free)))
theorem jo{X:Cx}{N':List Str}{scope:Scope}{cap:List (Option Nat)}(hk:scope.kind=.function)(h:qmo X.env.scope.names X.N N' scope cap=true): CapOk X N' scope cap:=by
 unfold qmo at h;simp only [gv,mv] at h;obtain⟨h1,h2,h3,h4,h5⟩:=h;refine⟨hk,fun y hy e=>?_,fun y hy e=>?_,fun y hy e=>?_,by simpa using h4,fun i j e=>?_⟩
 ·have:=h1 y hy;rw [e] at this;cases this
 ·have:=h2 y hy;rw [e] at this;simpa using this
 ·have:=h3 y hy
  rw [e] at this;simp only [beq_self_eq_true,g10,g4g,g0m,g2d] at this;exact this
 ·have hi:i<cap.length:=(mq.mp e).1
  have:=h5 i (ur.mpr hi);rw [e] at this;simp only [g26] at this
  split at this
  ·cases this
  ·rename_i x hx
   simp only [gv,g2d] at this;exact⟨x,hx,this.1,this.2⟩
section
variable{X:Cx}{e:Expr}{es:List Expr}{pos:Pos}{f g:FE}{fa:FA}
inductive Ty where
 | int|bool|tuple|list|str|dict
def Ty.name:Ty->String
 | .int=>"int" | .bool=>"bool" | .tuple=>"tuple" | .list=>"list" | .str=>"str" | .dict=>"dict"
def z8:Ty->D->Bool
 | .int,.int _=>true
 | .int,.bl _=>true
 | .bool,.bl _=>true
 | .tuple,.tup _=>true
 | .list,.lst _=>true
 | .str,.str _=>true
 | .dict,.dct _ _=>true
 | .dict,.dtt _ _=>true
 | _,_=>false
theorem qh3{prog:Program}{w:World}{A:Around}{E:Value->Shared->Prop}{s:Shared}{Q:Value->Shared->Prop}{K:Frag}{T:String}{b:Bool}(hk:K.In s.heap)(h:∀tk,Q (.bool b) {s with toks:=tk})(hT:PySem.W.kitOne K (.type "NoneType") (.type T)=some b):
  wpAny (model prog w) A (call (.builtin "isinstance") [.none,.type T]) Q E s:=g40 PySem.W.kitx_none hk True.intro hT (fun z=>nomatch z) h
theorem qh4(T:Ty): xf X (.builtin "isinstance") (fun xs H Q=>∃x F d,xs=[x,.ty T.name]/\Same F H/\Rep X.K F d x/\Q (.bl (z8 T d)) H):=by
 intro pins s σ H xs us Q I r h;obtain⟨x,F,d,rfl,fh,rd,q⟩:=h;obtain⟨u,w',rfl,rx,rt⟩:=r.two;obtain rfl:w'=Value.type T.name:=rt;have fin:∀ {b:Bool},Q (.bl b) H->EP X pins σ Q (.bool b) s:=fun q=>⟨.bl _,H,I,rfl,q⟩
 have fin1:∀ {b:Bool},Q (.bl b) H->EP X pins σ Q (.bool b) {s with toks:=s.toks+1}:=fun q=>⟨.bl _,H,I.tok _,rfl,q⟩
 cases d with
 | non=>
  cases rep_non.mp rd;cases rx;cases T <;> exact qh3 I.kIn (fun tk=>⟨.bl _,H,I.tok _,rfl,q⟩) (by rfl)
 | bl b=>
  cases rep_bl.mp rd;cases rx;cases T
  ·exact IsiPair.bool_int (fin q)
  ·exact IsiPair.bool_bool (fin q)
  ·exact IsiPair.bool_tuple (fin1 q)
  ·exact IsiPair.bool_list (fin1 q)
  ·exact IsiPair.bool_str (fin1 q)
  ·exact IsiPair.bool_dict (fin1 q)
 | int i=>
  cases rep_int.mp rd;obtain⟨t,rfl⟩:=rx;cases T
  ·exact IsiPair.int_int (fin q)
  ·exact IsiPair.int_bool (fin1 q)
  ·exact IsiPair.int_tuple (fin1 q)
  ·exact IsiPair.int_list (fin1 q)
  ·exact IsiPair.int_str (fin1 q)
  ·exact IsiPair.int_dict (fin1 q)
 | str z=>
  cases rep_str.mp rd;obtain⟨t,rfl⟩:=rx;cases T
  ·exact IsiPair.str_int (fin1 q)
  ·exact IsiPair.str_bool (fin1 q)
  ·exact IsiPair.str_tuple (fin1 q)
  ·exact IsiPair.str_list (fin1 q)
  ·exact IsiPair.str_str (fin q)
  ·exact IsiPair.str_dict (fin1 q)
 | tup ds=>
  obtain⟨a,ys,rfl,h1,h2⟩:=rep_tup.mp rd;cases rx;obtain⟨its,_,⟨o,ho,hc,_⟩,_⟩:=I.tuple (ql fh h1);cases T
  ·exact IsiPair.tuple_int ho hc (fin1 q)
  ·exact IsiPair.tuple_bool ho hc (fin1 q)
  ·exact IsiPair.tuple_tuple ho hc (fin q)
  ·exact IsiPair.tuple_list ho hc (fin1 q)
  ·exact IsiPair.tuple_str ho hc (fin1 q)
  ·exact IsiPair.tuple_dict ho hc (fin1 q)
 | lst ds=>
  obtain⟨a,ys,rfl,h1,h2⟩:=rep_lst.mp rd;cases rx;obtain⟨its,_,⟨o,n,ho,hc,_⟩,_⟩:=I.list (fh.seq h1);cases T
  ·exact IsiPair.list_int ho hc (fin1 q)
  ·exact IsiPair.list_bool ho hc (fin1 q)
  ·exact IsiPair.list_tuple ho hc (fin1 q)
  ·exact IsiPair.list_list ho hc (fin q)
  ·exact IsiPair.list_str ho hc (fin1 q)
  ·exact IsiPair.list_dict ho hc (fin1 q)
 | dct ks vs=>
  obtain⟨a,ys,rfl,h1,h2,h3⟩:=rep_dct.mp rd;cases rx;obtain⟨_,_,vs',_,o,es',ep,ho,hc,_⟩:=(show ObjOk X.prog X.w H s.heap a _ from I.hok a _ (fh _ _ h1))
  cases T
  ·exact IsiPair.dict_int ho hc.1 (fin1 q)
  ·exact IsiPair.dict_bool ho hc.1 (fin1 q)
  ·exact IsiPair.dict_tuple ho hc.1 (fin1 q)
  ·exact IsiPair.dict_list ho hc.1 (fin1 q)
  ·exact IsiPair.dict_str ho hc.1 (fin1 q)
  ·exact IsiPair.dict_dict ho hc.1 (fin q)
 | dtt ks vs=>
  obtain⟨a,xs',ys,ep,rfl,h1,_⟩:=rep_dtt.mp rd;cases rx;obtain⟨⟨o,es',ho,hc,_⟩,_,_⟩:=(show ObjOk X.prog X.w H s.heap a _ from I.hok a _ (fh _ _ h1))
  cases T
  ·exact IsiPair.dict_int ho hc.1 (fin1 q)
  ·exact IsiPair.dict_bool ho hc.1 (fin1 q)
  ·exact IsiPair.dict_tuple ho hc.1 (fin1 q)
  ·exact IsiPair.dict_list ho hc.1 (fin1 q)
  ·exact IsiPair.dict_str ho hc.1 (fin1 q)
  ·exact IsiPair.dict_dict ho hc.1 (fin q)
 | obj x=>
  obtain⟨a,dx,C,rfl,h1,_,c1,c2,c3,c4,c5,c6,c7⟩:=rep_obj.mp rd;cases rx;obtain⟨mA,O,_⟩:=qbu I.hok (fh _ _ h1);obtain⟨od,J,_⟩:=O.look;cases T <;> exact g40 (PySem.W.kitx_own c1 c2 c3 c4 c5 c6) I.kIn J (c7 _ (by decide)) (fun z=>nomatch z) (fun tk=>⟨.bl _,H,I.tok _,rfl,q⟩)
 | exc x=>
  obtain⟨a,C,rfl,h1,_,c1,c2⟩:=rep_exc.mp rd;cases rx;obtain⟨J,_,_⟩:=(show ObjOk X.prog X.w H s.heap a _ from I.hok a _ (fh _ _ h1))
  cases T <;> exact g40 (qgw c1) I.kIn J (c2 _ (by decide)) (fun z=>nomatch z) (fun tk=>⟨.bl _,H,I.tok _,rfl,q⟩)
def q5c(T:Ty)(f:FE): FE:=fun ρ =>(f ρ).map fun d=>.bl (z8 T d)
theorem qh5:bootBuiltins "isinstance" = some (.builtin "isinstance"):=by decide +kernel
theorem q3k{x:Str}{p px:Pos}(T:Ty)(hg:Gl X "isinstance")(hm:X.mg "isinstance" = none)(hgT:Gl X x)(hmT:X.mg x=none)(hvT:bootBuiltins x=some (.type T.name))(ha:PE X e (tD X.K f))
  (hnT:x≠"__name__" :=by decide) (hdT:(x==("__debug__" : Str))=false:=by decide) (he2:starEach [e,.Name x px] X.env=(false,eval e X.env) :: starEach [.Name x px] X.env:=by rfl) :
  PE X (.Call (.Name "isinstance" p) [e,.Name x px] [] pos) (tD X.K (q5c T f)):=
 zv (q2h (qh4 T) hg hm qh5 (xt ha (xt (qj1 (v:=.ty T.name) hgT hmT hvT rfl hnT hdT) wd) he2) (by decide) (by decide) he2 rfl) fun σ H Q ⟨F0,H0,F, ρ,d,r,hf,q⟩=>by
  obtain⟨d',h1,h2⟩:=md.mp hf;subst h2;exact⟨F0,H0,F, ρ,d',r,h1,fun v F' H' g' r'=>⟨v,F',d',rfl,g'.fh,r',q _ F' H' g' (rep_bl.mpr rfl)⟩⟩
def q4m:List D->Option (List Int)
 | []=>some []
 | .int i :: r=>(q4m r).map fun is=>i :: is
 | _ :: _=>none
theorem q68:∀ {ds:List D} {ns:List Int},q4m ds=some ns->ds=ns.map D.int
 | [],ns,h=>by cases h;rfl
 | d :: r,ns,h=>by
  cases d <;> simp only [q4m] at h <;> first|(cases h;done)|skip
  obtain⟨is,h1,h2⟩:=md.mp h;subst h2;rw [q68 h1];rfl
omit [Lam] [Pin] in
theorem q82:∀(ns:List Int),q4m (ns.map D.int)=some ns
 | []=>rfl
 | n :: r=>by simp only [gd,q4m,q82 r,pf]
def o1L(z:List D->Option D): List D->Option D
 | [.lst ds]=>z ds
 | _=>none
theorem qh6{z:List D->Option D}{es:List D}{d:D}(h:o1L z es=some d): ∃ds,es=[.lst ds]/\z ds=some d:=by
 unfold o1L at h
 split at h
 ·exact⟨_,rfl,h⟩
 ·cases h
theorem rep1{K:Frag}{F:Hp}{d:D}{xs:List V}(h:RepL K F [d] xs): ∃x,xs=[x]/\Rep K F d x:=by
 obtain⟨x,r,rfl,h1,h2⟩:=h.cons_inv;cases h2.nil_inv;exact⟨x,rfl,h1⟩
abbrev q2o:List D->Option D:=o1L fun ds=>(q4m ds).map fun ns=>.int ns.sum
theorem q69(hc:X.calm=true): xf X (.builtin "sum") (rC X.K q2o):=by
 intro pins s σ H xs us Q I r h;obtain⟨F,ds,d,fh,rl,ho,q⟩:=h;obtain⟨es,rfl,h1⟩:=qh6 ho;obtain⟨ns,h2,h3⟩:=md.mp h1;subst h3;cases q68 h2;obtain⟨x,rfl,rx⟩:=rep1 rl;obtain⟨u,rfl,ru⟩:=r.one;obtain⟨a,ys,rfl,k1,k2⟩:=rep_lst.mp rx;cases ru;cases RepL.ints.mp k2;obtain⟨its,rv,pl,_⟩:=I.list (fh.seq k1);have hi:=intsAre_of rv;obtain⟨zs,hz⟩:=hi.allInts.items;have hl:s.heap.IsList a (intItems zs):=hz ▸ pl.isList;refine sum_intListG (I.ok.hd hc) hl fun h' tk t' hk=>?_;have e1:ns=zs.toList.map (·.1):=by
  rw [<- nums_intItems, <- hz];exact(show numsOf its.toArray.toList=ns from hi.numsOf).symm
 have e2:preSum (numAt zs) zs.size=ns.sum:=by
  rw [preSum_eq,g21 (by simp),e1]
 rw [e2];exact⟨.int ns.sum,H,I.kept hk,⟨_,rfl⟩,q _ F H (.refl fh) (rep_int.mpr rfl)⟩
theorem boot_sum:bootBuiltins "sum" = some (.builtin "sum"):=by decide +kernel
theorem boot_max:bootBuiltins "max" = some (.builtin "max"):=by decide +kernel
theorem zx:bootBuiltins "len" = some (.builtin "len"):=by decide +kernel
theorem boot_tuple:bootBuiltins "tuple" = some (.type "tuple"):=by decide +kernel
theorem boot_int:bootBuiltins "int" = some (.type "int"):=by decide +kernel
theorem boot_bool:bootBuiltins "bool" = some (.type "bool"):=by decide +kernel
def o2I(z:Int->Int->Int): List D->Option D
 | [.int i,.int j]=>some (.int (z i j))
 | _=>none
theorem qh7{z:Int->Int->Int}{es:List D}{d:D}(h:o2I z es=some d): ∃i j,es=[.int i,.int j]/\d=.int (z i j):=by
 unfold o2I at h
 split at h
 ·cases h;exact⟨_,_,rfl,rfl⟩
 ·cases h
theorem qoi{K:Frag}{F:Hp}{i j:Int}{xs:List V}(h:RepL K F [.int i,.int j] xs): xs=[.int i,.int j]:=RepL.ints (ns:=[i,j]).mp h
abbrev oMax:=o2I fun i j=>if j>i then j else i
theorem qmp(hc:X.calm=true): xf X (.builtin "max") (rC X.K oMax):=q3f (qeq hc) fun xs H Q ⟨F,ds,d,fh,rl,ho,q⟩=>by
 obtain⟨i,j,rfl,rfl⟩:=qh7 ho;exact⟨i,j,qoi rl,q _ F H (.refl fh) (rep_int.mpr rfl)⟩
def x9:List D->Option D
 | [.tup ds]=>some (.int ds.length)
 | [.lst ds]=>some (.int ds.length)
 | [.str x]=>if x.length<=lim then some (.int x.length) else none
 | _=>none
theorem xh:xf X (.builtin "len") (rC X.K x9):=q3f qgl fun xs H Q ⟨F,ds,d,fh,rl,ho,q⟩=>by
 unfold x9 at ho
 split at ho
 ·cases ho
  obtain⟨x,rfl,rx⟩:=rep1 rl;obtain⟨a,ys,rfl,k1,k2⟩:=rep_tup.mp rx;exact⟨_,ys.length,rfl,.inr ⟨ys,ql fh k1,rfl⟩,by rw [<- k2.length];exact q _ F H (.refl fh) (rep_int.mpr rfl)⟩
 ·cases ho
  obtain⟨x,rfl,rx⟩:=rep1 rl;obtain⟨a,ys,rfl,k1,k2⟩:=rep_lst.mp rx;exact⟨_,ys.length,rfl,.inl ⟨ys,fh.seq k1,rfl⟩,by rw [<- k2.length];exact q _ F H (.refl fh) (rep_int.mpr rfl)⟩
 ·split at ho
  ·rename_i z
   cases ho;obtain⟨x,rfl,rx⟩:=rep1 rl;cases rep_str.mp rx;exact⟨_,_,rfl,⟨vf z,rfl⟩,q _ F H (.refl fh) (rep_int.mpr rfl)⟩
  ·cases ho
 ·cases ho
def q0m:List D->Option D
 | [.tup ds]=>some (.tup ds)
 | [.lst ds]=>some (.tup ds)
 | _=>none
theorem q2p:xf X (.type "tuple") (rC X.K q0m):=q3f q8k fun xs H Q ⟨F,ds,d,fh,rl,ho,q⟩=>by
 unfold q0m at ho
 split at ho
 ·cases ho
  obtain⟨x,rfl,rx⟩:=rep1 rl;obtain⟨a,ys,rfl,k1,k2⟩:=rep_tup.mp rx;exact⟨a,ys,rfl,.inr ⟨ql fh k1,q _ F H (.refl fh) rx⟩⟩
 ·cases ho
  obtain⟨x,rfl,rx⟩:=rep1 rl;obtain⟨a,ys,rfl,k1,k2⟩:=rep_lst.mp rx;refine⟨a,ys,rfl,.inl ⟨fh.seq k1,fun l hl=>?_⟩⟩;have gn:Grow F H (upd F l (.tup ys)) (upd H l (.tup ys)):=Grow.new fh hl;exact q _ _ _ gn (rep_tup.mpr ⟨l,ys,rfl,SqT.of qq,k2.mono gn.ff⟩)
 ·cases ho
def rCL(K:Frag)(op:List D->Option (List D)): List V->Hp->VK->Prop:=fun xs H Q=>∃F ds es,Same F H/\RepL K F ds xs/\op ds=some es/\∀a ys F' H',Grow F H F' H'->F' a=none->H a=none->H' a=some (.lst ys)->RepL K F' es ys->Q (.ref a) H'
def q4n(op:List D->Option (List D))(fa:FA): FA:=fun ρ =>(fa ρ).bind op
theorem qjk{K:Frag}{op:List D->Option (List D)}{σ : St}{H:Hp}{Q:VK}(h:tL K (q4n op fa) σ H Q): tDA K fa σ H fun vs H1=>rCL K op vs H1 Q:=by
 obtain⟨F0,H0,F, ρ,d,r,hf,q⟩:=h;obtain⟨ds,h1,h2⟩:=g6.mp hf;exact⟨F0,H0,F, ρ,ds,r,h1,fun vs F1 H1 g1 r1=>⟨F1,ds,d,g1.fh,r1,h2,fun a ys F2 H2 g2 k1 k2 k3 k4=>q a ys F2 H2 (g1.trans g2) k1 (g1.hh.free k2) k3 k4⟩⟩
theorem qh8{x:Str}{p:Pos}{id:String}{op:List D->Option (List D)}(hc:xf X (.builtin id) (rCL X.K op))(hg:Gl X x)(hm:X.mg x=none)(hv:bootBuiltins x=some (.builtin id))(ha:PA X (e :: es) (tDA X.K fa))
  (hn:x≠"__name__" :=by decide) (hdb:(x==("__debug__" : Str))=false:=by decide)
  (he:starEach (e :: es) X.env=(false,eval e X.env) :: starEach es X.env:=by rfl) (hpl:(backTo pos (starEach es X.env)).any (·.1)=false:=by rfl):PE X (.Call (.Name x p) (e :: es) [] pos) (tL X.K (q4n op fa)):=
 zv (q2h hc hg hm hv ha hn hdb he hpl) fun σ H Q h=>qjk h
def qio:List D->Option (List D)
 | [.tup ds]=>some ds
 | [.lst ds]=>some ds
 | _=>none
theorem qc3{K:Frag}{H:Hp}{ds:List D}{xs:List V}{i:Int}{d:D}(h:RepL K H ds xs)(e:atI ds i=some d): ∃x,atI xs i=some x/\Rep K H d x:=by
 unfold atI at e ⊢;rw [<- h.length];cases q:ixN ds.length i with
 | none=>rw [q] at e;cases e
 | some j=>
  rw [q] at e;exact h.get e
def oIx:D->D->Option D
 | .tup ds,.int i=>atI ds i
 | .lst ds,.int i=>atI ds i
 | _,_=>none
theorem zt{a b:Expr}(ha:PE X a (tD X.K f))(hb:PE X b (tD X.K g))(hs:q79 b:=by intro _ _;rfl): PE X (.Subscript a b pos) (tD X.K (eOp oIx f g)):=zv (qik qm5 ha hb hs) fun σ H Q h=>by
 have h':=two h;obtain⟨F0,H0,F, ρ,d,r,hf,q⟩:=h';refine⟨F0,H0,F, ρ,d,r,hf,fun v F1 H1 g1 r1=>?_⟩;obtain⟨F0',H0',F', ρ',d',r',hf',q'⟩:=q v F1 H1 g1 r1;refine⟨F0',H0',F', ρ',d',r',hf',fun v2 F2 H2 g2 r2=>?_⟩;obtain⟨F3,d1,d2,d3,fh,k1,k2,k3,k4⟩:=q' v2 F2 H2 g2 r2;unfold oIx at k3
 split at k3
 ·obtain⟨p,ys,rfl,z1,z2⟩:=rep_tup.mp k1
  obtain⟨y,z3,z4⟩:=qc3 z2 k3;exact .inr (.inl ⟨p,ys,_,y,rfl,rep_int.mp k2,ql fh z1,z3,k4 y F3 H2 (.refl fh) z4⟩)
 ·obtain⟨p,ys,rfl,z1,z2⟩:=rep_lst.mp k1
  obtain⟨y,z3,z4⟩:=qc3 z2 k3;exact .inl ⟨p,ys,_,y,rfl,rep_int.mp k2,fh.seq z1,z3,k4 y F3 H2 (.refl fh) z4⟩
 ·cases k3
def eUn(o:D->Option D)(f:FE): FE:=fun ρ =>(f ρ).bind o
end
section
variable{prog:Program}{w:World}{A:Around}{E:Value->Shared->Prop}{s:Shared}
theorem q8l{t sl:Addr}{items:Array Value}{vl vu:Value}{lo hi:Option Int}{Q:Value->Shared->Prop}(ht:IsTup s.heap t items)(hs:s.heap.IsSliceOf sl vl vu .none)
  (pl:IsPart vl lo) (pu:IsPart vu hi) (w1:HT.sIx items.size 0 lo=0) (w2:HT.sIx items.size items.size hi=items.size) (h:Q (.ref t) s) :
  wpAny (model prog w) A (getItem (.ref t) (.ref sl)) Q E s:=by
 obtain⟨os,hos,hcs,hds⟩:=id hs;have hTs:s.TypeIs (.ref sl) "slice" :=⟨os,hos,hcs⟩
 unfold getItem
 try with_reducible refine g05 ?_
 first|refine g0 (gh ?_)|skip
 refine g0 (wpAny_sequenceKey ht.typeIs (by decide) (g0 (ux (name:=Str.ofString "__getitem__") ht.typeIs u0
  (g09 u0 ht.typeIs entry_tuple_getitem ?_ (args_tuple_getitem _ _)))))
 show wpAny _ _ (Builtin.Tuple.tupleItemsOf (.ref t) >>= _) _ _ s;refine g0 (tupleItemsOf_ ht (g0 (wpAny_typeOf hTs ?_)));rw [m4 (by decide)];refine g0 (HT.sliceApplied_gen hs pl pu ?_);rw [w1,w2];show wpAny _ _ (if(((0:Nat):Int)==0&&(1:Int)==1&&(items.size-0)==items.size)=true then _ else _) _ _ s;rw [m4 (by simp)];refine g0 ?_;unfold Builtin.Tuple.tupleIsExact;refine g0 (wpAny_typeOf ht.typeIs (gh ?_))
 first
  | rw [m4 (by decide)]
  | skip
 first
  | exact g0 (g06 (g0 (gh (gh ⟨_,rfl,gh h⟩))))
  | exact g0 (g06 (gh ⟨_,rfl,gh h⟩))
  | exact g0 (g0 (g06 (gh (gh ⟨_,rfl,gh h⟩))))
end
section
variable{X:Cx}{e:Expr}{es:List Expr}{pos:Pos}{f g:FE}{fa:FA}
def qpc(K:Frag): V->Option Int->Option Int->Hp->VK->Prop:=fun x lo hi H Q=>∃a xs,x=.ref a/\SqT K H a xs/\HT.sIx xs.length 0 lo=0/\HT.sIx xs.length xs.length hi=xs.length/\Q (.ref a) H
theorem qh9:SlR X (qpc X.K):=by
 intro pins s σ H x v vl vu lo hi sl Q I rx hs pl pu h;obtain⟨a,xs,rfl,hx,w1,w2,q⟩:=h;cases rx;obtain⟨its,r,ht,hz⟩:=I.tuple hx;have hlen:its.toArray.size=xs.length:=by rw [gf];exact r.length.symm
 exact⟨"tuple",_,u0.lookup,ht.typeIs,q8l ht hs pl pu (by rw [hlen];exact w1) (by rw [hlen];exact w2) ⟨.ref a,H,I,rfl,q⟩⟩
def cutD(ds:List D)(lo hi:Option Int): List D:=(ds.drop (HT.sIx ds.length 0 lo)).take (HT.sIx ds.length ds.length hi-HT.sIx ds.length 0 lo)
def oSl:D->Option Int->Option Int->Option D
 | .tup ds,lo,hi=>some (.tup (cutD ds lo hi))
 | .lst ds,lo,hi=>some (.lst (cutD ds lo hi))
 | _,_,_=>none
abbrev FO:=Rho->Option (Option Int)
def oNo:FO:=fun _=>some none
def oAt(f:FE): FO:=fun ρ =>(f ρ).bind fun d=>match d with
 | .int i=>some (some i)
 | _=>none
def tDO(K:Frag)(f:FO): TO:=fun σ H Q=>∃F0 H0 F ρ i,RS K F0 H0 F H σ ρ /\ f ρ = some i/\∀F' H',Grow F H F' H'->Q i H'
theorem qmq{o:Option Expr}{t t':TO}(h:PO X o t)(i:∀ σ H Q,t' σ H Q->t σ H Q): PO X o t':=fun pins s σ H Q I q=>h pins s σ H Q I (i σ H Q q)
theorem q9d(h:PE X e (tD X.K f)): PO X (some e) (tDO X.K (oAt f)):=qmq (qja h) fun σ H Q ⟨F0,H0,F, ρ,i,r,hf,q⟩=>by
 obtain⟨d,h1,h2⟩:=g6.mp hf;cases d <;> simp only at h2 <;> first|(cases h2;done)|skip
 cases h2;exact⟨F0,H0,F, ρ,_,r,h1,fun v F' H' g' r'=>⟨_,rep_int.mp r',q F' H' g'⟩⟩
def eSl(f:FE)(lo hi:FO): FE:=fun ρ =>(f ρ).bind fun d=>(lo ρ).bind fun l=>(hi ρ).bind fun h=>oSl d l h
theorem qha{a:Expr}{lo hi:Option Expr}{fl fh:FO}{p2:Pos}(ha:PE X a (tD X.K f))(hl:PO X lo (tDO X.K fl))(hh:PO X hi (tDO X.K fh)): PE X (.Subscript a (.Slice lo hi none p2) pos) (tD X.K (eSl f fl fh)):=
 zv (qgo (sl_list.or (sl_tup.or qh9)) ha hl hh) fun σ H Q ⟨F0,H0,F, ρ,d,r,hf,q⟩=>by
  obtain⟨x,h1,hf⟩:=g6.mp hf;obtain⟨l,h2,hf⟩:=g6.mp hf;obtain⟨u,h3,h4⟩:=g6.mp hf;refine⟨F0,H0,F, ρ,x,r,h1,fun v F1 H1 g1 r1=>⟨F0,H0,F1, ρ,l,r.grow g1,h2,fun F2 H2 g2=>⟨F0,H0,F2, ρ,u,(r.grow g1).grow g2,h3,fun F3 H3 g3=>?_⟩⟩⟩;have gg:=g1.trans (g2.trans g3);have r3:Rep X.K F3 x v:=r1.mono (g2.ff.trans g3.ff);cases x with
  | tup ds=>
   cases h4;obtain⟨p,xs,rfl,k1,k2⟩:=rep_tup.mp r3;have hlen:=k2.length
   by_cases wh:HT.sIx xs.length 0 l=0/\HT.sIx xs.length xs.length u=xs.length
   ·refine .inr (.inr ⟨p,xs,rfl,ql g3.fh k1,wh.1,wh.2,q _ F3 H3 gg ?_⟩)
    have e:cutD ds l u=ds:=by
     unfold cutD;rw [hlen,wh.1,wh.2,g2v,Nat.sub_zero, <- hlen,List.take_length]
    rw [e];exact r3
   ·refine .inr (.inl ⟨p,xs,rfl,ql g3.fh k1,wh,fun p' hp=>?_⟩)
    have gn:Grow F3 H3 (upd F3 p' (.tup (q0t xs l u))) (upd H3 p' (.tup (q0t xs l u))):=Grow.new g3.fh hp;refine q _ _ _ (gg.trans gn) (rep_tup.mpr ⟨p',_,rfl,SqT.of qq,?_⟩);unfold cutD q0t;rw [hlen];exact((k2.mono gn.ff).drop _).take _
  | lst ds=>
   cases h4;obtain⟨p,xs,rfl,k1,k2⟩:=rep_lst.mp r3;have hlen:=k2.length;refine .inl ⟨p,xs,rfl,g3.fh.seq k1,fun p' hp=>?_⟩;have gn:Grow F3 H3 (upd F3 p' (.lst (q0t xs l u))) (upd H3 p' (.lst (q0t xs l u))):=Grow.new g3.fh hp;refine q _ _ _ (gg.trans gn) (rep_lst.mpr ⟨p',_,rfl,SqL.of qq,?_⟩);unfold cutD q0t;rw [hlen];exact((k2.mono gn.ff).drop _).take _
  | _=>cases h4
def q9e:D->D->Option D
 | .tup xs,.tup ys=>if xs.length+ys.length<=lim then some (.tup (xs++ys)) else none
 | .lst xs,.lst ys=>if xs.length+ys.length<=lim then some (.lst (xs++ys)) else none
 | _,_=>none
theorem qmr:OpR X (binaryOp .Add) (rD X.K q9e):=by
 intro pins s σ H x y v u Q I rx ry h;obtain⟨F,d1,d2,d,fh,r1,r2,ho,q⟩:=h;unfold q9e at ho
 split at ho
 ·rename_i ds es
  split at ho
  ·rename_i hl
   cases ho;obtain⟨a,xs,rfl,k1,k2⟩:=rep_tup.mp r1;obtain⟨b,ys,rfl,k3,k4⟩:=rep_tup.mp r2
   by_cases hd:ds=[]
   ·subst hd
    cases k2.nil_inv;cases rx;cases ry;obtain⟨i1,v1,⟨⟨c1,dd1,dt1,sl1⟩,o1,e1,n1,t1⟩,_⟩:=I.tuple (ql fh k1);obtain⟨i2,v2,⟨⟨c2,dd2,dt2,sl2⟩,o2,e2,n2,t2⟩,_⟩:=I.tuple (ql fh k3);simp only at e1 t1 e2 t2;subst e1 t1 e2 t2;cases v1;exact g3k ⟨_,o1,rfl⟩ ⟨_,o2,rfl⟩ g3l seq_tuple_add g1z g1s (g1l _ _)
     (tuple_addW0 a b #[] i2.toArray n1 n2 dd1 dd2 sl1 sl2 rfl) ⟨o1,o2,⟨.ref b,H,I,rfl,q _ F H (.refl fh) (by simpa using r2)⟩⟩
   ·refine qjb pins s σ H _ _ v u Q I rx ry ⟨a,b,xs,ys,rfl,rfl,ql fh k1,ql fh k3,fun z=>hd ?_,vf (by rw [<- k2.length, <- k4.length];exact hl),fun z=>?_,fun z p hp=>?_⟩
    ·have:=k2.length;rw [z] at this;exact g2r this
    ·have e:es=[]:=by have:=k4.length;rw [z] at this;exact g2r this
     subst e;rw [g12] at q;exact q _ F H (.refl fh) r1
    ·have gn:Grow F H (upd F p (.tup (xs++ys))) (upd H p (.tup (xs++ys))):=Grow.new fh hp
     exact q _ _ _ gn (rep_tup.mpr ⟨p,_,rfl,SqT.of qq,(k2.mono gn.ff).append (k4.mono gn.ff)⟩)
  ·cases ho
 ·rename_i ds es
  split at ho
  ·rename_i hl
   cases ho;obtain⟨a,xs,rfl,k1,k2⟩:=rep_lst.mp r1;obtain⟨b,ys,rfl,k3,k4⟩:=rep_lst.mp r2;cases rx;cases ry;obtain⟨i1,v1,⟨⟨c1,dd1,dt1,sl1⟩,n1,o1,e1,g1,t1⟩,_⟩:=I.list (fh.seq k1);obtain⟨i2,v2,⟨⟨c2,dd2,dt2,sl2⟩,n2,o2,e2,g2,t2⟩,_⟩:=I.list (fh.seq k3);simp only at e1 t1 e2 t2;subst e1 t1 e2 t2;have hz:xs.length+ys.length<=sizeLine:=vf (by rw [<- k2.length, <- k4.length];exact hl);refine g3k ⟨_,o1,rfl⟩ ⟨_,o2,rfl⟩ noFill_list_add seq_list_add PySem.F.slot_list_add PySem.F.entry_list_add (PySem.F.args_list_add_2 _ _)
    (list_addW a b i1.toArray i2.toArray n1 n2 dd1 dd2 sl1 sl2 (by rw [gf,gf, <- v1.length, <- v2.length];exact hz)) ⟨o1,o2,?_⟩
   have ea:i1.toArray++i2.toArray=(i1++i2).toArray:=by simp
   rw [ea];have gn:Grow F H (upd F s.heap.objs.size (.lst (xs++ys))) (upd H s.heap.objs.size (.lst (xs++ys))):=Grow.new fh I.fresh;exact⟨.ref _,_,I.lnew (t':=s.toks) (v1.append v2) (by rw [n9];exact hz),rfl,q _ _ _ gn (rep_lst.mpr ⟨_,_,rfl,SqL.of qq,(k2.mono gn.ff).append (k4.mono gn.ff)⟩)⟩
  ·cases ho
 ·cases ho
abbrev zo:D->D->Option D:=fun x y=>(oAdd x y).or (q9e x y)
theorem j6:OpR X (binaryOp .Add) (rD X.K zo):=q61 qmb qmr
def flat(d:D): Bool:=(flD d).isSome
def eqF:D->D->Bool
 | .non,.non=>true
 | .bl a,.bl b=>a==b
 | .bl a,.int b=>(if a then 1 else 0)==b
 | .int a,.bl b=>a==(if b then 1 else 0)
 | .int a,.int b=>a==b
 | .str a,.str b=>a==b
 | _,_=>false
theorem qip{K:Frag}{H:Hp}{d e:D}{x y:V}(h1:flat d=true)(h2:flat e=true)(r1:Rep K H d x)(r2:Rep K H e y): eqV x y=eqF d e/\q8t x=true/\q8t y=true:=by
 cases d <;> first|(cases h1;done)|skip
 all_goals (cases e <;> first|(cases h2;done)|skip)
 all_goals (first|(cases rep_non.mp r1)|(cases rep_bl.mp r1)|(cases rep_int.mp r1)|(cases rep_str.mp r1))
 all_goals (first|(cases rep_non.mp r2)|(cases rep_bl.mp r2)|(cases rep_int.mp r2)|(cases rep_str.mp r2))
 all_goals exact⟨rfl,rfl,rfl⟩
end
mutual
def eqD:D->D->Bool
 | .tup ds,.tup es=>eqL ds es
 | .lst ds,.lst es=>eqL ds es
 | d,e=>eqF d e
def eqL:List D->List D->Bool
 | [],[]=>true
 | d :: ds,e :: es=>eqD d e&&eqL ds es
 | _,_=>false
end
mutual
def okE:D->D->Bool
 | .tup ds,.tup es=>xy ds es
 | .lst ds,.lst es=>xy ds es
 | d,e=>flat d&&flat e
def xy:List D->List D->Bool
 | d :: ds,e :: es=>okE d e&&xy ds es
 | _,_=>true
end
mutual
def vh:D->Nat
 | .tup ds=>ju ds+1
 | .lst ds=>ju ds+1
 | _=>0
def ju:List D->Nat
 | []=>0
 | d :: ds=>max (vh d) (ju ds)
end
def eqJ(ds es:List D)(j:Nat): Bool:=match ds[j]?,es[j]? with
 | some d,some e=>eqD d e
 | _,_=>true
theorem vd:∀(ds es:List D),((List.range (min ds.length es.length)).all (eqJ ds es)&&ds.length==es.length)=eqL ds es
 | [],[]=>by simp [eqL]
 | [],e :: es=>by simp [eqL]
 | d :: ds,[]=>by simp [eqL]
 | d :: ds,e :: es=>by
  have ih:=vd ds es;have e1:min (d :: ds).length (e :: es).length=min ds.length es.length+1:=by simp only [ph];lia
  rw [e1,g22,List.all_cons,uq];have e2:(eqJ (d :: ds) (e :: es) ∘ Nat.succ)=eqJ ds es:=by funext j;simp [eqJ]
  have e3:eqJ (d :: ds) (e :: es) 0=eqD d e:=by simp [eqJ]
  have e4:((d :: ds).length==(e :: es).length)=(ds.length==es.length):=by simp
  rw [e2,e3,e4,Bool.and_assoc,ih];simp only [eqL]
theorem q9f{d e:D}(h1:flat d=true)(h2:flat e=true): eqD d e=eqF d e:=by
 cases d <;> first|(cases h1;done)|skip
 all_goals (cases e <;> first|(cases h2;done)|skip)
 all_goals simp only [eqD]
section
variable{X:Cx}{pins:List (Addr×Obj)}{σ : St}{F H:Hp}{s:Shared}
theorem qf8{A:Around}{d e:D}{x y:V}{u v:Value}(h1:flat d=true)(h2:flat e=true)(r1:Rep X.K F d x)(r2:Rep X.K F e y)(q1:RelV x u)(q2:RelV y v): SeqAt.EqAt A s u v (eqD d e):=by
 obtain⟨z1,z2,z3⟩:=qip h1 h2 r1 r2;rw [q9f h1 h2, <- z1];exact qm6 q1 q2 z2 z3
theorem q9g{d e:D}(h:okE d e=true): (∃ds es,d=.tup ds/\e=.tup es/\xy ds es=true)\/(∃ds es,d=.lst ds/\e=.lst es/\xy ds es=true)\/(flat d=true/\flat e=true):=by
 cases d <;> cases e <;> simp only [okE,gv] at h <;> first
  | exact .inl ⟨_,_,rfl,rfl,h⟩
  | exact .inr (.inl ⟨_,_,rfl,rfl,h⟩)
  | exact .inr (.inr h)
theorem qc4(I:Inv X pins σ H s)(fh:Same F H): ∀ {d e:D} {x:V},okE d e=true->Rep X.K F d x->Rep X.K F e x->eqD d e=true:=by
 suffices hh:∀n,(∀d e x,sizeOf d<n->okE d e=true->Rep X.K F d x->Rep X.K F e x->eqD d e=true) from fun {d e x}=>hh (sizeOf d+1) d e x (uc _)
 intro n
 induction n with
 | zero=>intro d e x h;exact absurd h (ni _)
 | succ n ih=>
  intro d e x hn ok r1 r2;have seq:∀(ds es:List D) (xs:List V),sizeOf ds<n->xy ds es=true->RepL X.K F ds xs->RepL X.K F es xs->eqL ds es=true:=by
   intro ds
   induction ds with
   | nil=>
    intro es xs _ _ k1 k2;cases k1.nil_inv;cases es with
    | nil=>simp only [eqL]
    | cons e es=>obtain⟨_,_,z,_⟩:=k2.cons_inv;cases z
   | cons d ds ihd=>
    intro es xs hs ho k1 k2;obtain⟨x,r,rfl,a1,a2⟩:=k1.cons_inv;cases es with
    | nil=>cases k2.nil_inv
    | cons e es=>
     obtain⟨x',r',z,b1,b2⟩:=k2.cons_inv;cases z;simp only [xy,gv] at ho;have hs1:sizeOf d<n:=by simp only [g1a] at hs;lia
     have hs2:sizeOf ds<n:=by simp only [g1a] at hs;lia
     simp only [eqL,gv];exact⟨ih d e x hs1 ho.1 a1 b1,ihd es r hs2 ho.2 a2 b2⟩
  rcases q9g ok with⟨ds,es,rfl,rfl,ho⟩|⟨ds,es,rfl,rfl,ho⟩|⟨h1,h2⟩
  ·obtain⟨a,xs,rfl,k1,k2⟩:=rep_tup.mp r1
   obtain⟨b,ys,z,k3,k4⟩:=rep_tup.mp r2;cases z;cases I.tuple_inj (ql fh k1) (ql fh k3);simp only [eqD];exact seq ds es xs (by simp only [D.tup.sizeOf_spec] at hn;lia) ho k2 k4
  ·obtain⟨a,xs,rfl,k1,k2⟩:=rep_lst.mp r1
   obtain⟨b,ys,z,k3,k4⟩:=rep_lst.mp r2;cases z;cases I.list_inj (fh.seq k1) (fh.seq k3);simp only [eqD];exact seq ds es xs (by simp only [D.lst.sizeOf_spec] at hn;lia) ho k2 k4
  ·obtain⟨z1,_⟩:=qip h1 h2 r1 r2
   rw [q9f h1 h2, <- z1];cases d <;> first|(cases h1;done)|skip
   ·cases rep_non.mp r1;rfl
   ·cases rep_bl.mp r1;simp [eqV]
   ·cases rep_int.mp r1;simp [eqV]
   ·cases rep_str.mp r1;simp [eqV]
theorem q6a (I:Inv X pins σ H s) (fh:Same F H):∀ {d e:D} {x y:V} {u v:Value} (A:Around),okE d e=true->A.units+vh d<cLine->Rep X.K F d x->Rep X.K F e y->RelV x u->RelV y v->SeqAt.EqAt A s u v (eqD d e):=by
 suffices hh:∀n,(∀d e x y u v (A:Around),sizeOf d<n->okE d e=true->A.units+vh d<cLine->Rep X.K F d x->Rep X.K F e y->RelV x u->RelV y v->SeqAt.EqAt A s u v (eqD d e)) from
  fun {d e x y u v} A=>hh (sizeOf d+1) d e x y u v A (uc _)
 intro n
 induction n with
 | zero=>intro d e x y u v A h;exact absurd h (ni _)
 | succ n ih=>
  intro d e x y u v A hn ok hu r1 r2 q1 q2;have seq:∀(ds es:List D) (xs ys:List V) (us vs:List Value) (A:Around),sizeOf ds<n->xy ds es=true->A.units+ju ds<cLine->RepL X.K F ds xs->RepL X.K F es ys->Vals xs us->Vals ys vs ->
    ∀j (h1:j<us.length) (h2:j<vs.length),SeqAt.EqAt A s us[j] vs[j] (eqJ ds es j):=by
   intro ds
   induction ds with
   | nil=>
    intro es xs ys us vs A _ _ _ k1 _ w1 _ j h1;cases k1.nil_inv;cases w1;exact absurd h1 (ni _)
   | cons d ds ihd=>
    intro es xs ys us vs A hs ho hu k1 k2 w1 w2 j h1 h2;obtain⟨x,r,rfl,a1,a2⟩:=k1.cons_inv;cases w1 with
    | cons p1 p2=>
     cases es with
     | nil=>cases k2.nil_inv;cases w2;exact absurd h2 (ni _)
     | cons e es=>
      obtain⟨y,r',rfl,b1,b2⟩:=k2.cons_inv;cases w2 with
      | cons p3 p4=>
       simp only [xy,gv] at ho;have hs1:sizeOf d<n:=by simp only [g1a] at hs;lia
       have hs2:sizeOf ds<n:=by simp only [g1a] at hs;lia
       simp only [ju] at hu;cases j with
       | zero=>
        have e0:eqJ (d :: ds) (e :: es) 0=eqD d e:=by simp [eqJ]
        rw [e0];exact ih d e x y _ _ A hs1 ho.1 (by lia) a1 b1 p1 p3
       | succ j=>
        have e0:eqJ (d :: ds) (e :: es) (j+1)=eqJ ds es j:=by simp [eqJ]
        rw [e0];exact ihd es r r' _ _ A hs2 ho.2 (by lia) a2 b2 p2 p4 j (by simpa using h1) (by simpa using h2)
  rcases q9g ok with⟨ds,es,rfl,rfl,ho⟩|⟨ds,es,rfl,rfl,ho⟩|⟨h1,h2⟩
  ·have rr:=qc4 I fh ok r1
   obtain⟨a,xs,rfl,k1,k2⟩:=rep_tup.mp r1;obtain⟨b,ys,rfl,k3,k4⟩:=rep_tup.mp r2;cases q1;cases q2
   by_cases hab:a=b
   ·subst hab
    rw [rr r2];exact g3y _
   ·obtain⟨i1,v1,t1,_⟩:=I.tuple (ql fh k1)
    obtain⟨i2,v2,t2,_⟩:=I.tuple (ql fh k3);simp only [vh] at hu;refine SeqAt.EqAt.of_refs hab ?_;have hq:=seq ds es xs ys i1 i2 A.in1 (by simp only [D.tup.sizeOf_spec] at hn;lia) ho (by show A.units+1+ju ds<cLine;lia) k2 k4 v1 v2;have:=SeqAt.RcAt.tuples (A:=A) (e:=eqJ ds es) (show s.heap.IsTuple a i1.toArray from t1) (show s.heap.IsTuple b i2.toArray from t2) (by lia) (fun j h1 h2=>by simpa using hq j (by simpa using h1) (by simpa using h2));simp only [gf, <- v1.length, <- v2.length, <- k2.length, <- k4.length,vd] at this
    simpa only [eqD] using this
  ·have rr:=qc4 I fh ok r1
   obtain⟨a,xs,rfl,k1,k2⟩:=rep_lst.mp r1;obtain⟨b,ys,rfl,k3,k4⟩:=rep_lst.mp r2;cases q1;cases q2
   by_cases hab:a=b
   ·subst hab
    rw [rr r2];exact g3y _
   ·obtain⟨i1,v1,t1,_⟩:=I.list (fh.seq k1)
    obtain⟨i2,v2,t2,_⟩:=I.list (fh.seq k3);simp only [vh] at hu;refine SeqAt.EqAt.of_refs hab ?_;have hq:=seq ds es xs ys i1 i2 A.in1 (by simp only [D.lst.sizeOf_spec] at hn;lia) ho (by show A.units+1+ju ds<cLine;lia) k2 k4 v1 v2;have hl1:i1.length=ds.length:=by rw [<- v1.length, <- k2.length]
    have hl2:i2.length=es.length:=by rw [<- v2.length, <- k4.length]
    simp only [eqD]
    by_cases hl:ds.length=es.length
    ·have:=SeqAt.RcAt.lists (A:=A) (e:=eqJ ds es) t1.isList t2.isList (by rw [gf,gf,hl1,hl2];exact hl) (by lia) (fun j h1 h2=>by simpa using hq j (by simpa using h1) (by simpa using h2))
     have e1:(List.range i1.toArray.size).all (eqJ ds es)=eqL ds es:=by
      rw [<- vd,gf,hl1, <- hl,g2h];simp
     rw [e1] at this;exact this
    ·have e1:eqL ds es=false:=by rw [<- vd];simp [hl]
     rw [e1];exact SeqAt.RcAt.lists_lengths t1.isList t2.isList (by rw [gf,gf,hl1,hl2];simpa using hl) (by lia)
  ·exact qf8 h1 h2 r1 r2 q1 q2
def qhb:D->D->Option D
 | .tup ds,.tup es=>if xy ds es&&decide (ju ds<=60) then some (.bl (eqL ds es)) else none
 | .lst ds,.lst es=>if xy ds es&&decide (ju ds<=60) then some (.bl (eqL ds es)) else none
 | _,_=>none
theorem qms(hu:X.A.units+64<cLine): OpR X (compareOp .Eq) (rD X.K qhb):=by
 intro pins s σ H x y v u Q I rx ry h;obtain⟨F,d1,d2,d,fh,r1,r2,ho,q⟩:=h;have part:∀ {ds es:List D} {xs ys:List V} {us vs:List Value},xy ds es=true->ju ds<=60->RepL X.K F ds xs->RepL X.K F es ys->Vals xs us->Vals ys vs ->
   ∀j (h1:j<us.length) (h2:j<vs.length),SeqAt.EqAt X.A.in1 s us[j] vs[j] (eqJ ds es j):=by
  intro ds
  induction ds with
  | nil=>
   intro es xs ys us vs _ _ k1 _ w1 _ j h1;cases k1.nil_inv;cases w1;exact absurd h1 (ni _)
  | cons d ds ihd=>
   intro es xs ys us vs ho hd k1 k2 w1 w2 j h1 h2;obtain⟨x,r,rfl,a1,a2⟩:=k1.cons_inv;cases w1 with
   | cons p1 p2=>
    cases es with
    | nil=>cases k2.nil_inv;cases w2;exact absurd h2 (ni _)
    | cons e es=>
     obtain⟨y,r',rfl,b1,b2⟩:=k2.cons_inv;cases w2 with
     | cons p3 p4=>
      simp only [xy,gv] at ho;simp only [ju] at hd;cases j with
      | zero=>
       have e0:eqJ (d :: ds) (e :: es) 0=eqD d e:=by simp [eqJ]
       rw [e0];exact q6a I fh _ ho.1 (by show X.A.units+1+vh d<cLine;lia) a1 b1 p1 p3
      | succ j=>
       have e0:eqJ (d :: ds) (e :: es) (j+1)=eqJ ds es j:=by simp [eqJ]
       rw [e0];exact ihd ho.2 (by lia) a2 b2 p2 p4 j (by simpa using h1) (by simpa using h2)
 unfold qhb at ho
 split at ho
 ·rename_i ds es
  split at ho
  ·rename_i hc
   cases ho;rw [gv] at hc;obtain⟨a,xs,rfl,k1,k2⟩:=rep_tup.mp r1;obtain⟨b,ys,rfl,k3,k4⟩:=rep_tup.mp r2;cases rx;cases ry;obtain⟨i1,v1,t1,_⟩:=I.tuple (ql fh k1);obtain⟨i2,v2,t2,_⟩:=I.tuple (ql fh k3);have hq:=part hc.1 (ue hc.2) k2 k4 v1 v2;refine SeqAt.eq_tupleAt (e:=eqJ ds es) (show s.heap.IsTuple a i1.toArray from t1) (show s.heap.IsTuple b i2.toArray from t2) (by lia) (fun j h1 h2=>by simpa using hq j (by simpa using h1) (by simpa using h2)) ?_;simp only [gf, <- v1.length, <- v2.length, <- k2.length, <- k4.length,vd];exact⟨.bl _,H,I,rfl,q _ F H (.refl fh) (rep_bl.mpr rfl)⟩
  ·cases ho
 ·rename_i ds es
  split at ho
  ·rename_i hc
   cases ho;rw [gv] at hc;obtain⟨a,xs,rfl,k1,k2⟩:=rep_lst.mp r1;obtain⟨b,ys,rfl,k3,k4⟩:=rep_lst.mp r2;cases rx;cases ry;obtain⟨i1,v1,t1,_⟩:=I.list (fh.seq k1);obtain⟨i2,v2,t2,_⟩:=I.list (fh.seq k3);have hq:=part hc.1 (ue hc.2) k2 k4 v1 v2;have hl1:i1.length=ds.length:=by rw [<- v1.length, <- k2.length]
   have hl2:i2.length=es.length:=by rw [<- v2.length, <- k4.length]
   by_cases hl:ds.length=es.length
   ·refine SeqAt.eq_listAt (e:=eqJ ds es) t1.isList t2.isList (by rw [gf,gf,hl1,hl2];exact hl) (by lia) (fun j h1 h2=>by simpa using hq j (by simpa using h1) (by simpa using h2)) ?_
    have e1:(List.range i1.toArray.size).all (eqJ ds es)=eqL ds es:=by
     rw [<- vd,gf,hl1, <- hl,g2h];simp
    rw [e1];exact⟨.bl _,H,I,rfl,q _ F H (.refl fh) (rep_bl.mpr rfl)⟩
   ·have e1:eqL ds es=false:=by rw [<- vd];simp [hl]
    rw [e1] at q;exact SeqAt.eq_list_lengthsAt t1.isList t2.isList (by rw [gf,gf,hl1,hl2];simpa using hl) (by lia) ⟨.bl _,H,I,rfl,q _ F H (.refl fh) (rep_bl.mpr rfl)⟩
  ·cases ho
 ·cases ho
abbrev oEq:D->D->Option D:=fun x y=>(qgz x y).or (qhb x y)
theorem q6b(hu:X.A.units+64<cLine): OpR X (compareOp .Eq) (rD X.K oEq):=q61 qmf (qms hu)
end
def itN:Bool->String
 | true=>"list_iterator"
 | false=>"tuple_iterator"
def sqN:Bool->String
 | true=>"list"
 | false=>"tuple"
def SI(b:Bool)(h:Heap)(it l:Addr)(k:Nat): Prop:=∃o,h.get? it=some o/\o.cls=.type (itN b)/\o.data=.fields #[.ref l,.int k 0]
def SO(b:Bool)(h:Heap)(l:Addr)(xs:Array Value): Prop:=∃o,h.get? l=some o/\o.cls=.type (sqN b)/\∃n,o.data=.seq xs n
theorem SI.ext{b:Bool}{h h':Heap}{it l c:Addr}{k:Nat}(x:SI b h it l k)(e:Heap.ExtBut c h h')(n:it≠c): SI b h' it l k:=let⟨o,ho,r⟩:=x; ⟨o,e it o n ho,r⟩
theorem SO.ext{b:Bool}{h h':Heap}{l c:Addr}{xs:Array Value}(x:SO b h l xs)(e:Heap.ExtBut c h h')(n:l≠c): SO b h' l xs:=let⟨o,ho,r⟩:=x; ⟨o,e l o n ho,r⟩
theorem SI.keep{b:Bool}{h h':Heap}{it l:Addr}{k:Nat}(x:SI b h it l k)(e:∀o,h.get? it=some o->h'.get? it=some o): SI b h' it l k:=let⟨o,ho,r⟩:=x; ⟨o,e o ho,r⟩
section
variable{prog:Program}{w:World}{A:Around}{E:Value->Shared->Prop}{s:Shared}
theorem q7c{b:Bool}{it l:Addr}{k:Nat}{xs:Array Value}{x:Value}{Q:Value->Shared->Prop}(hi:SI b s.heap it l k)(ho:SO b s.heap l xs)(hx:xs[k]? = some x)
  (h:∀h',SI b h' it l (k+1)->Heap.SameBut it s.heap h'->Q x {s with heap:=h'}):wpAny (model prog w) A (Builtin.SmallTypes.nextOf (.ref it)) Q E s:=by
 cases b with
 | true=>exact wpAny_nextOf_list_item hi ho hx h
 | false=>
  obtain⟨o,e1,e2,e3⟩:=id hi;obtain⟨o2,f1,f2,n,f3⟩:=id ho;have ty:s.TypeIs (.ref it) "tuple_iterator" :=⟨o,e1,e2⟩
  unfold Builtin.SmallTypes.nextOf;refine g0 (ux (name:=Str.ofString "__next__") ty g0q (g09 g0q ty g33 ?_ (g2w _)));show wpAny _ _ (field (.ref it) 0 >>= _) _ _ s;refine g0 (ui e1 e3 (x:=.ref l) rfl ?_);show wpAny _ _ (if(Value.ref l==Value.none)=true then _ else _) _ _ s;rw [m9 (fun z:(Value.ref l==Value.none)=true=>gz z)];show wpAny _ _ (field (.ref it) 1 >>= _) _ _ s;refine g0 (ui e1 e3 (x:=.int k 0) rfl ?_);show wpAny _ _ (seqItems? (.ref l) >>= _) _ _ s;refine g0 (g0h f1 f3 ?_);simp only [ud,hx];refine g0 (wpAny_setField e1 e3 (by simp) (gh ⟨x,rfl,gh (h _ ⟨_,Heap.get?_update_self _ e1 (Obj.isFreed_of_fields (Obj.data_mapFields e3 _)),(Obj.cls_mapFields ..).trans e2,?_⟩ (Heap.SameBut.update ..))⟩));rw [Obj.data_mapFields e3];simp [rawInt]
theorem qc5{b:Bool}{it l:Addr}{k:Nat}{xs:Array Value}{Q:Value->Shared->Prop}(hh:A.handled=none)(hi:SI b s.heap it l k)(ho:SO b s.heap l xs)(hx:xs[k]? = none)
  (h:∀h' e,Heap.ExtBut it s.heap h'->(∃o,h'.get? e=some o/\o.cls=.type "StopIteration")->E (.ref e) {s with heap:=h'}):wpAny (model prog w) A (Builtin.SmallTypes.nextOf (.ref it)) Q E s:=by
 cases b with
 | true=>exact wpAny_nextOf_list_end hh hi ho hx h
 | false=>
  obtain⟨o,e1,e2,e3⟩:=id hi;obtain⟨o2,f1,f2,n,f3⟩:=id ho;have ty:s.TypeIs (.ref it) "tuple_iterator" :=⟨o,e1,e2⟩
  unfold Builtin.SmallTypes.nextOf;refine g0 (ux (name:=Str.ofString "__next__") ty g0q (g09 g0q ty g33 ?_ (g2w _)));show wpAny _ _ (field (.ref it) 0 >>= _) _ _ s;refine g0 (ui e1 e3 (x:=.ref l) rfl ?_);show wpAny _ _ (if(Value.ref l==Value.none)=true then _ else _) _ _ s;rw [m9 (fun z:(Value.ref l==Value.none)=true=>gz z)];show wpAny _ _ (field (.ref it) 1 >>= _) _ _ s;refine g0 (ui e1 e3 (x:=.int k 0) rfl ?_);show wpAny _ _ (seqItems? (.ref l) >>= _) _ _ s;refine g0 (g0h f1 f3 ?_);simp only [ud,hx];refine g0 (g06 (g0 (wpAny_setField e1 e3 (by simp) ?_)));show wpAny _ _ (newExc (.type "StopIteration") [] >>= _) _ _ _;refine g0 ?_;simp only [newExc,newTuple];refine g0 (uz (g0 (m:=firstArgMember _ _) (wpAny_of_eq (a:=Value.none) (by first|rfl|(simp only [firstArgMember];rfl)) (uz ?_ (by size_fits)))) (by size_fits));simp only [raiseNew];refine g0 (wpAny_handled ?_)
  first|rw [show A.in1.handled=none from hh]|rw [hh]
  exact g0 (gh (wpAny_throw (h _ _ (((Heap.SameBut.update ..).extBut.push _).push _) ⟨_,ma _ rfl,rfl⟩)))
structure Z5(z ti to i1 i2:Addr): Prop where
 a1:ti≠z
 a2:to≠z
 a3:i1≠z
 a4:i2≠z
 a5:ti≠to
 a6:ti≠i1
 a7:ti≠i2
 a8:to≠i1
 a9:to≠i2
 a10:i1≠i2
structure Off(l z to i1 i2:Addr): Prop where
 z:l≠z
 o:l≠to
 i:l≠i1
 j:l≠i2
theorem qf9{b1 b2:Bool}{z ti to i1 i2 l1 l2:Addr}{k1 k2:Nat}{xs ys:Array Value}{x y p q:Value}{Q:Value->Shared->Prop}(D:Z5 z ti to i1 i2)(m1:Off l1 z to i1 i2)(m2:Off l2 z to i1 i2)
  (hz:IsZip s.heap z ti to .none) (ht:IsPair s.heap ti (.ref i1) (.ref i2)) (hp:IsPair s.heap to p q)
  (h1:SI b1 s.heap i1 l1 k1) (h2:SI b2 s.heap i2 l2 k2) (o1:SO b1 s.heap l1 xs) (o2:SO b2 s.heap l2 ys) (hx:xs[k1]? = some x) (hy:ys[k2]? = some y)
  (hQ:∀h',IsZip h' z ti to (rawInt s.heap.objs.size)->IsPair h' to x y->SI b1 h' i1 l1 (k1+1)->SI b2 h' i2 l2 (k2+1)->IsPair h' s.heap.objs.size x y->h'.objs.size=s.heap.objs.size+1 ->
   (∀c o,c≠z->c≠to->c≠i1->c≠i2->s.heap.get? c=some o->h'.get? c=some o)->Q (.ref s.heap.objs.size) {s with heap:=h'}) :
  wpAny (model prog w) A (Builtin.«zip.__next__» ⟨[.ref z],[]⟩) (fun fin s'=>∃v,fin=.done (.ret v)/\Q v s') E s:=by
 show wpAny _ _ (field (.ref z) 2 >>= _) _ _ _;refine g0 (ui hz rfl (x:=.bool false) rfl ?_);show wpAny _ _ (field (.ref z) 3 >>= _) _ _ _;refine g0 (ui hz rfl (x:=.ref ti) rfl (g0 (g0h ht rfl ?_)));show wpAny _ _ (Builtin.SmallTypes.ownedTupleIsFree (.ref z) >>= _) _ _ _;refine g0 ?_;unfold Builtin.SmallTypes.ownedTupleIsFree;refine g0 (ui hz rfl (x:=.none) rfl (gh ?_));simp only [ny];refine g0 (g06 (g0 (ui hz rfl (x:=.ref to) rfl (g0 (g0j hz (by simp) fun g1 hz1 u1=>?_)))));have hz1':IsZip g1 z ti to .ellipsis:=hz1;refine g0 ?_;simp only [g3o,List.zipIdx_nil,g1i,g4b];refine g0 (g0 (g3a ?_));show wpAny _ _ (Builtin.SmallTypes.nextOf (.ref i1) >>= _) _ _ _;refine g0 (q7c (h1.ext u1.extBut D.a3) (o1.ext u1.extBut m1.z) hx fun g2 n1 u2=>gh ?_);have hp2:IsPair g2 to p q:=u2.extBut _ _ D.a8 (u1.extBut _ _ D.a2 hp);refine g0 (g0h hp2 rfl (g0 (g2i hp2 fun g3 hp3 u3=>?_)));have hp3':IsPair g3 to x q:=hp3;refine g0 (g43 (gh (g0 (g0 (g3a ?_)))));show wpAny _ _ (Builtin.SmallTypes.nextOf (.ref i2) >>= _) _ _ _;refine g0 (q7c (((h2.ext u1.extBut D.a4).ext u2.extBut D.a10.symm).ext u3.extBut D.a9.symm) (((o2.ext u1.extBut m2.z).ext u2.extBut m2.i).ext u3.extBut m2.o) hy fun g4 n2 u4=>gh ?_);have hp4:IsPair g4 to x q:=u4.extBut _ _ D.a9 hp3';refine g0 (g0h hp4 rfl (g0 (g2i hp4 fun g5 hp5 u5=>?_)));have hp5':IsPair g5 to x y:=hp5;refine g0 (g43 (gh (gh (g0 (g0h hp5' rfl (g0 (wpAny_newTuple ?_)))))));have hsz:g5.objs.size=s.heap.objs.size:=by rw [u5.1,u4.1,u3.1,u2.1,u1.1]
 have hz5:IsZip g5 z ti to .ellipsis:=u5.extBut _ _ D.a2.symm (u4.extBut _ _ D.a4.symm (u3.extBut _ _ D.a2.symm (u2.extBut _ _ D.a3.symm hz1')));have kp:∀c o,c≠z->c≠to->c≠i1->c≠i2->s.heap.get? c=some o->g5.get? c=some o:=fun c o c1 c2 c3 c4 e=>u5.extBut _ _ c2 (u4.extBut _ _ c4 (u3.extBut _ _ c2 (u2.extBut _ _ c3 (u1.extBut _ _ c1 e))));have j1:SI b1 g5 i1 l1 (k1+1):=((n1.ext u3.extBut D.a8.symm).ext u4.extBut D.a10).ext u5.extBut D.a8.symm;have j2:SI b2 g5 i2 l2 (k2+1):=n2.ext u5.extBut D.a9.symm;have hzl:z<g5.objs.size:=m8 hz5;show wpAny _ _ (Builtin.SmallTypes.ownedTupleHandOut (.ref z) (.ref g5.objs.size) >>= _) _ _ _;refine g0 ?_;unfold Builtin.SmallTypes.ownedTupleHandOut;have hz6:IsZip (g5.push {cls:=.type "tuple",data:=.seq #[x,y]}) z ti to .ellipsis:=g9 _ hz5;refine g0 (g0j hz6 (by simp) fun g7 hz7 u7=>?_);have hz7':IsZip g7 z ti to (rawInt g5.objs.size):=hz7;refine g0j hz7' (by simp) fun g8 hz8 u8=>?_;have hz8':IsZip g8 z ti to (rawInt g5.objs.size):=hz8;have up:∀c o,c≠z->g5.get? c=some o->g8.get? c=some o:=fun c o c1 e=>u8.extBut _ _ c1 (u7.extBut _ _ c1 (g9 _ e));have hT:IsPair g8 g5.objs.size x y:=u8.extBut _ _ (g03 hzl) (u7.extBut _ _ (g03 hzl) (ma _ rfl));have hl8:g8.objs.size=g5.objs.size+1:=by rw [u8.1,u7.1,g0g]
 rw [hsz] at hz8' hT hl8;refine gh ⟨_,rfl,?_⟩;show Q (.ref g5.objs.size) _;rw [hsz];exact hQ g8 hz8' (up _ _ D.a2 hp5') (j1.keep fun o e=>up _ o D.a3 e) (j2.keep fun o e=>up _ o D.a4 e) hT hl8 fun c o c1 c2 c3 c4 e=>up c o c1 (kp c o c1 c2 c3 c4 e)
theorem qhc{b1 b2:Bool}{z ti to i1 i2 l1 l2:Addr}{k1 k2:Nat}{xs ys:Array Value}{p q:Value}{Q:Fin->Shared->Prop}(hh:A.handled=none)(D:Z5 z ti to i1 i2)(m1:Off l1 z to i1 i2)(m2:Off l2 z to i1 i2)
  (hz:IsZip s.heap z ti to .none) (ht:IsPair s.heap ti (.ref i1) (.ref i2)) (hp:IsPair s.heap to p q)
  (h1:SI b1 s.heap i1 l1 k1) (h2:SI b2 s.heap i2 l2 k2) (o1:SO b1 s.heap l1 xs) (o2:SO b2 s.heap l2 ys) (hend:xs[k1]? = none\/ys[k2]? = none)
  (hE:∀h' e,(∀c o,c≠z->c≠to->c≠i1->c≠i2->s.heap.get? c=some o->h'.get? c=some o)->(∃o,h'.get? e=some o/\o.cls=.type "StopIteration")->E (.ref e) {s with heap:=h'}) :
  wpAny (model prog w) A (Builtin.«zip.__next__» ⟨[.ref z],[]⟩) Q E s:=by
 show wpAny _ _ (field (.ref z) 2 >>= _) _ _ _;refine g0 (ui hz rfl (x:=.bool false) rfl ?_);show wpAny _ _ (field (.ref z) 3 >>= _) _ _ _;refine g0 (ui hz rfl (x:=.ref ti) rfl (g0 (g0h ht rfl ?_)));show wpAny _ _ (Builtin.SmallTypes.ownedTupleIsFree (.ref z) >>= _) _ _ _;refine g0 ?_;unfold Builtin.SmallTypes.ownedTupleIsFree;refine g0 (ui hz rfl (x:=.none) rfl (gh ?_));simp only [ny];refine g0 (g06 (g0 (ui hz rfl (x:=.ref to) rfl (g0 (g0j hz (by simp) fun g1 hz1 u1=>?_)))));have hz1':IsZip g1 z ti to .ellipsis:=hz1;refine g0 ?_;simp only [g3o,List.zipIdx_nil,g1i,g4b];refine g0 (g0 (g3a ?_));show wpAny _ _ (Builtin.SmallTypes.nextOf (.ref i1) >>= _) _ _ _;cases hx:xs[k1]? with
 | none=>
  refine g0 (qc5 hh (h1.ext u1.extBut D.a3) (o1.ext u1.extBut m1.z) hx fun g2 e u2 he=>?_);obtain⟨oe,y1,y2⟩:=he;have hz2:IsZip g2 z ti to .ellipsis:=u2 _ _ D.a3.symm hz1';have ne:e≠z:=fun x=>by subst x;rw [hz2] at y1;cases y1;simp at y2
  exact g0j hz2 (by simp) fun g3 _ u3=>hE g3 e (fun c o c1 _ c3 _ x=>u3.extBut _ _ c1 (u2 _ _ c3 (u1.extBut _ _ c1 x))) ⟨oe,u3.extBut _ _ ne y1,y2⟩
 | some x=>
  have hy:ys[k2]? = none:=by rcases hend with h|h;rw [hx] at h;cases h;exact h
  refine g0 (q7c (h1.ext u1.extBut D.a3) (o1.ext u1.extBut m1.z) hx fun g2 n1 u2=>gh ?_);have hp2:IsPair g2 to p q:=u2.extBut _ _ D.a8 (u1.extBut _ _ D.a2 hp);refine g0 (g0h hp2 rfl (g0 (g2i hp2 fun g3 hp3 u3=>?_)));refine g0 (g43 (gh (g0 (g0 (g3a ?_)))));show wpAny _ _ (Builtin.SmallTypes.nextOf (.ref i2) >>= _) _ _ _;refine g0 (qc5 hh (((h2.ext u1.extBut D.a4).ext u2.extBut D.a10.symm).ext u3.extBut D.a9.symm) (((o2.ext u1.extBut m2.z).ext u2.extBut m2.i).ext u3.extBut m2.o) hy fun g4 e u4 he=>?_);obtain⟨oe,y1,y2⟩:=he;have hz4:IsZip g4 z ti to .ellipsis:=u4 _ _ D.a4.symm (u3.extBut _ _ D.a2.symm (u2.extBut _ _ D.a3.symm hz1'));have ne:e≠z:=fun x=>by subst x;rw [hz4] at y1;cases y1;simp at y2
  exact g0j hz4 (by simp) fun g5 _ u5=>hE g5 e (fun c o c1 c2 c3 c4 x=>u5.extBut _ _ c1 (u4 _ _ c4 (u3.extBut _ _ c2 (u2.extBut _ _ c3 (u1.extBut _ _ c1 x))))) ⟨oe,u5.extBut _ _ ne y1,y2⟩
theorem qdk{b1 b2:Bool}{z ti to i1 i2 l1 l2:Addr}{k1 k2:Nat}{xs ys:Array Value}{x y p q:Value}{Q:Option Value->Shared->Prop}(D:Z5 z ti to i1 i2)(m1:Off l1 z to i1 i2)(m2:Off l2 z to i1 i2)
  (hz:IsZip s.heap z ti to .none) (ht:IsPair s.heap ti (.ref i1) (.ref i2)) (hp:IsPair s.heap to p q)
  (h1:SI b1 s.heap i1 l1 k1) (h2:SI b2 s.heap i2 l2 k2) (o1:SO b1 s.heap l1 xs) (o2:SO b2 s.heap l2 ys) (hx:xs[k1]? = some x) (hy:ys[k2]? = some y)
  (hQ:∀h',IsZip h' z ti to (rawInt s.heap.objs.size)->IsPair h' to x y->SI b1 h' i1 l1 (k1+1)->SI b2 h' i2 l2 (k2+1)->IsPair h' s.heap.objs.size x y->h'.objs.size=s.heap.objs.size+1 ->
   (∀c o,c≠z->c≠to->c≠i1->c≠i2->s.heap.get? c=some o->h'.get? c=some o)->Q (some (.ref s.heap.objs.size)) {s with heap:=h'}) :
  wpAny (model prog w) A (pyNext (.ref z)) Q E s:=by
 have ty:s.TypeIs (.ref z) "zip" :=⟨_,hz,rfl⟩
 unfold pyNext;exact g0 (g1d (ux (name:=Str.ofString "__next__") ty g2j (g09 g2j ty F.entry_zip_next
  (qf9 D m1 m2 hz ht hp h1 h2 o1 o2 hx hy fun h' c1 c2 c3 c4 c5 c6 c7=>gh (hQ h' c1 c2 c3 c4 c5 c6 c7)) (F.args_zip_next_1 _))))
theorem q8m{b1 b2:Bool}{z ti to i1 i2 l1 l2:Addr}{k1 k2:Nat}{xs ys:Array Value}{p q:Value}{Q:Option Value->Shared->Prop}(hh:A.handled=none)(D:Z5 z ti to i1 i2)(m1:Off l1 z to i1 i2)(m2:Off l2 z to i1 i2)
  (hz:IsZip s.heap z ti to .none) (ht:IsPair s.heap ti (.ref i1) (.ref i2)) (hp:IsPair s.heap to p q)
  (h1:SI b1 s.heap i1 l1 k1) (h2:SI b2 s.heap i2 l2 k2) (o1:SO b1 s.heap l1 xs) (o2:SO b2 s.heap l2 ys) (hend:xs[k1]? = none\/ys[k2]? = none)
  (hQ:∀h',(∀c o,c≠z->c≠to->c≠i1->c≠i2->s.heap.get? c=some o->h'.get? c=some o)->Q none {s with heap:=h'}):wpAny (model prog w) A (pyNext (.ref z)) Q E s:=by
 have ty:s.TypeIs (.ref z) "zip" :=⟨_,hz,rfl⟩
 unfold pyNext;refine g0 (g1d (ux (name:=Str.ofString "__next__") ty g2j (g09 g2j ty F.entry_zip_next
  (qhc hh D m1 m2 hz ht hp h1 h2 o1 o2 hend fun h' e hk he=>?_) (F.args_zip_next_1 _))))
 obtain⟨o,y1,y2⟩:=he;exact g0 (wpAny_isInstance (T:="StopIteration") (b:=true) ⟨o,y1,y2⟩ isSubtype_stop (gh (hQ _ hk)))
theorem q83{b:Bool}{l:Addr}{xs:Array Value}{Q:Value->Shared->Prop}(h:SO b s.heap l xs)(q:Q (.ref s.heap.objs.size) {s with heap:=s.heap.push {cls:=.type (itN b),data:=.fields #[.ref l,.int 0 0]} }):
  wpAny (model prog w) A (pyIter (.ref l)) Q E s:=by
 cases b with
 | true=>exact wpAny_pyIter_list h q
 | false=>exact wpAny_pyIter_tuple h q
end
def zh1(b1:Bool)(h:Heap)(l1:Addr): Heap:=h.push {cls:=.type (itN b1),data:=.fields #[.ref l1,.int 0 0]}
def zh2(b1 b2:Bool)(h:Heap)(l1 l2:Addr): Heap:=(zh1 b1 h l1).push {cls:=.type (itN b2),data:=.fields #[.ref l2,.int 0 0]}
def zh3(b1 b2:Bool)(h:Heap)(l1 l2:Addr): Heap:=(zh2 b1 b2 h l1 l2).push {cls:=.type "tuple",data:=.seq #[.ref h.objs.size,.ref (zh1 b1 h l1).objs.size]}
def zh4(b1 b2:Bool)(h:Heap)(l1 l2:Addr): Heap:=(zh3 b1 b2 h l1 l2).push {cls:=.type "tuple",data:=.seq #[.none,.none]}
def zh5(b1 b2:Bool)(h:Heap)(l1 l2:Addr): Heap:=(zh4 b1 b2 h l1 l2).push {cls:=.type "zip",data:=.fields #[.none,.bool false,.bool false,.ref (zh2 b1 b2 h l1 l2).objs.size,.ref (zh3 b1 b2 h l1 l2).objs.size]}
theorem SO.push{b:Bool}{h:Heap}{l:Addr}{xs:Array Value}(x:SO b h l xs)(o:Obj): SO b (h.push o) l xs:=let⟨u,e,r⟩:=x; ⟨u,g9 _ e,r⟩
theorem qdl(b1 b2:Bool)(l1 l2:Addr)(xs ys:Array Value):
  Meets (Builtin.«zip.__new__» ⟨[.type "zip",.ref l1,.ref l2],[]⟩) (fun _ R s=>SO b1 s.heap l1 xs/\SO b2 s.heap l2 ys/\R (.ok (.ret (.ref (zh4 b1 b2 s.heap l1 l2).objs.size))) {s with heap:=zh5 b1 b2 s.heap l1 l2}):=
 .of_wp fun prog w A R s h=>by
  obtain⟨hp,gg,dd,tk,os⟩:=s;obtain⟨ha,hb,h⟩:=h;have hsub:=sub_zip;have f1:SO b1 (Shared.heap ⟨hp,gg,dd,tk,os⟩) l1 xs:=ha;have f2:SO b2 (Shared.heap ⟨hp.push {cls:=.type (itN b1),data:=.fields #[.ref l1,.int 0 0]},gg,dd,tk,os⟩) l2 ys:=SO.push hb _
  wp_walk using q83 f1,q83 f2
  exact⟨_,rfl,h⟩
section
variable{X:Cx}{pins:List (Addr×Obj)}{σ : St}{H:Hp}{s:Shared}{h':Heap}
theorem qc6{fp:List Addr}{t':Nat}(I:Inv X pins σ H s)(hf:∀b∈fp,ko X pins H b)(k:∀b o,b∉fp->s.heap.get? b=some o->h'.get? b=some o): Inv X pins σ H {s with heap:=h',toks:=t'}:=by
 have nin:∀b u,H b=some u->b∉fp:=fun b u e hb=>by rw [(hf b hb).1] at e;cases e
 refine I.step (g':=s.gens) (d':=s.drawn) (ch:=fp) (fun b hb=>?_) (fun b o _ _ hc e _=>k b o hc e) (fun b o _ _ hc e _=>⟨o.slots,k b o hc e⟩) (fun _ _ _ _ n=>n)
  (fun b o hc e=>⟨o,k b o hc e⟩) (fun _ _ e=>e) (fun _ _ _ e=>e) (fun b ps e=>⟨#[],by rw [e];simp⟩) (fun m hm=>?_) (fun b u e=>?_) I.bare
 ·obtain⟨_,f1,_,f3,f4,f5⟩:=hf b hb
  exact⟨f3,f1,f4,f5⟩
 ·obtain⟨o,es,ep,ho,r⟩:=hm
  exact⟨o,es,ep,k _ o (fun z=>(hf _ z).2.1 rfl) ho,r⟩
 ·refine(I.hok b u e).stay (fun c v hc q=>k c v ?_ q) (fun _ q=>q) fun _ _ q=>q
  rcases hc with z|z
  ·rw [z];exact nin b u e
  ·exact nin c _ z
theorem adopt{p:Addr}{o:HO}(I:Inv X pins σ H s)(f:ko X pins H p)(new:ObjOk X.prog X.w (upd H p o) s.heap p o): Inv X pins σ (upd H p o) s:=by
 have hp:=f.1;obtain⟨_,f1,_,f3,f4,f5⟩:=f;have ne:∀ {b:Addr} {u:HO},H b=some u->upd H p o b=some u:=fun {b u} e=>by rw [qh (ji e hp)];exact e
 refine I.step (h':=s.heap) (g':=s.gens) (t':=s.toks) (d':=s.drawn) (ch:=[p]) (fun b hb=>?_) (fun b o _ _ hc e _=>e) (fun b o _ _ hc e _=>⟨o.slots,e⟩) (fun b o hc e n=>?_)
  (fun b o hc e=>⟨o,e⟩) (fun _ _ e=>ne e) (fun _ _ _ e=>ne e) (fun b ps e=>⟨#[],by rw [ne e];simp⟩) (fun m hm=>hm) (fun b u e=>?_) I.bare
 ·obtain rfl:b=p:=by simpa using hb
  exact⟨f3,f1,f4,f5⟩
 ·rw [qh (fun z=>hc (by simp [z]))];exact n
 ·by_cases hb:b=p
  ·subst hb;rw [qq] at e;cases e;exact new
  ·rw [qh hb] at e
   exact(I.hok b u e).stay (fun c v _ q=>q) (fun c q=>ne q) fun c xs q=>ne q
def Sq:Bool->Frag->Hp->Addr->List V->Prop
 | true=>SqL
 | false=>SqT
theorem q4o{b:Bool}{a:Addr}{xs:List V}(I:Inv X pins σ H s)(h:Sq b X.K H a xs): ∃its:List Value,Vals xs its/\SO b s.heap a its.toArray:=by
 cases b with
 | true=>obtain⟨its,r,⟨o,n,e,c,_,d⟩,_⟩:=I.list h;exact⟨its,r,o,e,c,n,d⟩
 | false=>obtain⟨its,r,⟨o,e,c,n,d⟩,_⟩:=I.tuple h;exact⟨its,r,o,e,c,n,d⟩
theorem qfa{b:Bool}{a:Addr}{xs ys:List V}(I:Inv X pins σ H s)(h:Sq b X.K H a xs)(h':Sq b X.K H a ys): xs=ys:=by
 cases b with
 | true=>exact I.list_inj h h'
 | false=>exact I.tuple_inj h h'
theorem w9{b:Bool}{K:Frag}{F H:Hp}{a:Addr}{xs:List V}(e:Same F H)(h:Sq b K F a xs): Sq b K H a xs:=by
 cases b with
 | true=>exact e.seq h
 | false=>exact ql e h
theorem q0n{b:Bool}{a c:Addr}{xs:List V}(I:Inv X pins σ H s)(h:Sq b X.K H a xs)(f:ko X pins H c): a≠c:=by
 obtain⟨f0,f1,f2,f3,_⟩:=f;have inK:∀ {o:Obj},X.K.lookup a=some o->a≠c:=fun {o} hk z=>by
  subst z;have hb:X.base.get? a=some o:=I.mod.kin a o hk;rcases f3 with q|q
  ·exact I.ok.noex a o hb q
  ·exact absurd (mf (m8 hb) (ml I.ok.bsz q)) (g0d _)
 have trk:∀ {u:HO},H a=some u->a≠c:=fun {u} e z=>by subst z;rw [f0] at e;cases e
 cases b with
 | true=>
  rcases h with(h|⟨o,h⟩)|⟨o,its,n,hk,_⟩
  ·exact trk h
  ·exact trk h
  ·exact inK hk
 | false=>
  rcases h with(h|⟨o,h⟩)|⟨o,its,n,hk,_⟩
  ·exact trk h
  ·exact trk h
  ·exact inK hk
end
def Itz(K:Frag)(b1:Bool)(a1:Addr)(b2:Bool)(a2:Addr): It:=
 ⟨fun i H=>∃xs ys x y,Sq b1 K H a1 xs/\Sq b2 K H a2 ys/\xs[i]? = some x/\ys[i]? = some y,
  fun i H v H'=>∃p x y,H p=none/\(∀xs,Sq b1 K H a1 xs->xs[i]? = some x)/\(∀ys,Sq b2 K H a2 ys->ys[i]? = some y)/\v=.ref p/\H'=upd H p (.tup [x,y]),
  fun i H=>∃xs ys,Sq b1 K H a1 xs/\Sq b2 K H a2 ys/\(xs.length<=i\/ys.length<=i)⟩
theorem qhd{P:Program}{w:World}{K:Frag}{elts:List Expr}{x1}{tp:Pos}{b1 b2:Bool}{a1 a2 z ti to i1 i2:Addr}(D:Z5 z ti to i1 i2):
  Turn P w K (.Tuple elts x1 tp) (Itz K b1 a1 b2 a2) [z,ti,to,i1,i2] z
   (fun i h=>IsZip h z ti to .none/\IsPair h ti (.ref i1) (.ref i2)/\(∃p q,IsPair h to p q)/\SI b1 h i1 a1 i/\SI b2 h i2 a2 i) where
 mem:=by simp
 obj:=fun i h ⟨c1,c2,⟨p,q,c3⟩,⟨o4,c4,_,d4⟩,⟨o5,c5,_,d5⟩⟩ b hb=>by
  simp only [mw,g0a,g27] at hb;rcases hb with rfl|rfl|rfl|rfl|rfl
  ·exact⟨_,c1,fun v z=>by cases z⟩
  ·exact⟨_,c2,fun v z=>by cases z⟩
  ·exact⟨_,c3,fun v z=>by cases z⟩
  ·exact⟨_,c4,fun v z=>by rw [d4] at z;cases z⟩
  ·exact⟨_,c5,fun v z=>by rw [d5] at z;cases z⟩
 keep:=fun i h h' ⟨c1,c2,⟨p,q,c3⟩,c4,c5⟩ k=>⟨k _ (by simp) _ c1,k _ (by simp) _ c2,⟨p,q,k _ (by simp) _ c3⟩,c4.keep fun o e=>k _ (by simp) o e,c5.keep fun o e=>k _ (by simp) o e⟩
 item:=by
  intro X hP hw hK hc i pins s σ H E I hf st hg;subst hP hw hK;obtain⟨xs,ys,x,y,q1,q2,hx,hy⟩:=hg;obtain⟨its1,v1,o1⟩:=q4o I q1;obtain⟨its2,v2,o2⟩:=q4o I q2;obtain⟨u1,hu1,ru1⟩:=v1.get hx;obtain⟨u2,hu2,ru2⟩:=v2.get hy;obtain⟨c1,c2,⟨p,q,c3⟩,c4,c5⟩:=st;have off:∀ {b:Bool} {a:Addr} {ws:List V},Sq b X.K H a ws->Off a z to i1 i2:=fun h=>⟨q0n I h (hf _ (by simp)),q0n I h (hf _ (by simp)),q0n I h (hf _ (by simp)),q0n I h (hf _ (by simp))⟩
  refine qdk D (off q1) (off q2) c1 c2 c3 c4 c5 o1 o2 (x:=u1) (y:=u2) (by simpa using hu1) (by simpa using hu2) fun g n1 n2 n3 n4 n5 n6 n7=>?_;refine⟨_,rfl,wpAny_letOwnedTupleGo_zip n1 fun g2 m1 sb=>?_⟩;have hsz:z<s.heap.objs.size:=m8 c1;have kp:∀c o,c∉[z,ti,to,i1,i2]->s.heap.get? c=some o->g2.get? c=some o:=fun c o hc e=>by
   simp only [mw,g0a,g27,not_or] at hc;exact sb.extBut _ _ hc.1 (n7 c o hc.1 hc.2.2.1 hc.2.2.2.1 hc.2.2.2.2 e)
  have I1:Inv X pins σ H {s with heap:=g2}:=qc6 (t':=s.toks) I hf kp;have fp:ko X pins H s.heap.objs.size:=I.fpOk (gu _) I.fresh;have hT:IsPair g2 s.heap.objs.size u1 u2:=sb.extBut _ _ (g03 hsz) n5;have I2:Inv X pins σ (upd H s.heap.objs.size (.tup [x,y])) {s with heap:=g2}:=
   adopt I1 fp ⟨by show 2<=sizeLine;decide,[u1,u2],.cons ru1 (.cons ru2 .nil),⟨_,hT,rfl,rfl,_,rfl⟩⟩
  refine⟨.ref s.heap.objs.size,_,I2,rfl,⟨_,x,y,I.fresh,fun ws h=>?_,fun ws h=>?_,rfl,rfl⟩,⟨m1,?_,⟨u1,u2,sb.extBut _ _ D.a2 n2⟩,n3.ext sb.extBut D.a3,n4.ext sb.extBut D.a4⟩,fun b hb=>?_⟩
  ·rw [qfa I h q1];exact hx
  ·rw [qfa I h q2];exact hy
  ·exact sb.extBut _ _ D.a1 (n7 _ _ D.a1 D.a5 D.a6 D.a7 c2)
  ·have hb0:=(hf b hb).1
   have:b≠s.heap.objs.size:=by
    simp only [mw,g0a,g27] at hb;rcases hb with rfl|rfl|rfl|rfl|rfl
    ·exact mn hsz
    ·exact mn (m8 c2)
    ·exact mn (m8 c3)
    ·obtain⟨_,e,_⟩:=c4;exact mn (m8 e)
    ·obtain⟨_,e,_⟩:=c5;exact mn (m8 e)
   rw [qh this];exact hb0
 done:=by
  intro X hP hw hK hc i pins s σ H E I hf st hg;subst hP hw hK;obtain⟨xs,ys,q1,q2,hend⟩:=hg;obtain⟨its1,v1,o1⟩:=q4o I q1;obtain⟨its2,v2,o2⟩:=q4o I q2;obtain⟨c1,c2,⟨p,q,c3⟩,c4,c5⟩:=st;have off:∀ {b:Bool} {a:Addr} {ws:List V},Sq b X.K H a ws->Off a z to i1 i2:=fun h=>⟨q0n I h (hf _ (by simp)),q0n I h (hf _ (by simp)),q0n I h (hf _ (by simp)),q0n I h (hf _ (by simp))⟩
  refine q8m (I.ok.hd hc) D (off q1) (off q2) c1 c2 c3 c4 c5 o1 o2 ?_ fun g n7=>⟨rfl,qc6 (t':=s.toks) I hf fun c o hc e=>?_⟩
  ·have l1:=v1.length
   have l2:=v2.length;rcases hend with h|h
   ·exact .inl (by simp;lia)
   ·exact .inr (by simp;lia)
  ·simp only [mw,g0a,g27,not_or] at hc
   exact n7 c o hc.1 hc.2.2.1 hc.2.2.2.1 hc.2.2.2.2 e
 self:=fun A i s Q E st h=>wpAny_pyIter_zip st.1 h
def q1a(xs ys:List D): List D:=List.zipWith (fun a b=>.tup [a,b]) xs ys
theorem qjl{K:Frag}{F:Hp}{b1 b2:Bool}{a1 a2:Addr}{xs ys:List V}{ds es:List D}(h1:Sq b1 K F a1 xs)(h2:Sq b2 K F a2 ys)(r1:RepL K F ds xs)(r2:RepL K F es ys): ItD K F (q1a ds es) (Itz K b1 a1 b2 a2) where
 go:=fun i F' H s1 s2 hi=>by
  have hi':i<ds.length/\i<es.length:=by unfold q1a at hi;rw [List.length_zipWith] at hi;lia
  exact⟨xs,ys,xs[i]'(by rw [<- r1.length];exact hi'.1),ys[i]'(by rw [<- r2.length];exact hi'.2),w9 (s1.trans s2) h1,w9 (s1.trans s2) h2,by simp,by simp⟩
 yld:=fun i d F' H x H' s1 s2 hi ⟨p,x1,y1,hp,q1,q2,e1,e2⟩=>by
  subst e1 e2;unfold q1a at hi;rw [List.getElem?_zipWith] at hi;cases z1:ds[i]? with
  | none=>rw [z1] at hi;cases hi
  | some d1=>
   cases z2:es[i]? with
   | none=>rw [z1,z2] at hi;cases hi
   | some d2=>
    rw [z1,z2] at hi;cases hi;obtain⟨v1,k1,k2⟩:=r1.get z1;obtain⟨v2,k3,k4⟩:=r2.get z2;have w1:=q1 xs (w9 (s1.trans s2) h1);have w2:=q2 ys (w9 (s1.trans s2) h2);rw [k1] at w1;cases w1;rw [k3] at w2;cases w2;have gn:Grow F' H (upd F' p (.tup [x1,y1])) (upd H p (.tup [x1,y1])):=Grow.new s2 hp;exact⟨_,gn,rep_tup.mpr ⟨p,_,rfl,SqT.of qq,.cons ((k2.mono s1).mono gn.ff) (.cons ((k4.mono s1).mono gn.ff) .nil)⟩⟩
 stop:=fun i F' H s1 s2 hi=>by
  unfold q1a at hi;rw [List.length_zipWith] at hi;refine⟨xs,ys,w9 (s1.trans s2) h1,w9 (s1.trans s2) h2,?_⟩;rw [<- r1.length, <- r2.length];lia
section
variable{X:Cx}{pos:Pos}{elts:List Expr}{x1:Nat}{tp:Pos}
def qpd(K:Frag)(ta:TA): TI:=fun σ H R=>ta σ H fun vs H1=>∃b1 a1 xs b2 a2 ys,vs=[.ref a1,.ref a2]/\Sq b1 K H1 a1 xs/\Sq b2 K H1 a2 ys/\R (Itz K b1 a1 b2 a2) H1
theorem qfb:bootBuiltins "zip" = some (.type "zip"):=by decide +kernel
theorem qmt{a b:Expr}{ta:TA}{p:Pos}(hg:Gl X "zip")(hm:X.mg "zip" = none)(ha:PA X [a,b] ta)(hs:starEach [a,b] X.env=[(false,eval a X.env),(false,eval b X.env)]:=by rfl)(hs2:starEach [b] X.env=[(false,eval b X.env)]:=by rfl):
  PI X (.Tuple elts x1 tp) (.Call (.Name "zip" p) [a,b] [] pos) (qpd X.K ta):=by
 intro pins s σ H R I h;refine Call_ (q15 I hg hm qfb (g0i (thn (ha pos pins s σ H _ I h) fun us s1 ⟨vs,H1,I1,r1,q1⟩=>?_) (by rw [hs,hs2]) (by rw [hs2];rfl)));obtain⟨b1,a1,xs,b2,a2,ys,rfl,k1,k2,q⟩:=q1;obtain⟨u1,u2,rfl,e1,e2⟩:=r1.two;cases e1;cases e2;obtain⟨its1,v1,o1⟩:=q4o I1 k1;obtain⟨its2,v2,o2⟩:=q4o I1 k2;refine callType_new F.called_zip (by decide) (F.typeCall_zip_2 _ _) (F.newCall_zip_2 _ _) (fun obj=>F.args_object_init_3 obj _ _) F.entry_zip_new (qdl b1 b2 a1 a2 its1.toArray its2.toArray) ⟨o1,o2,?_⟩;have z1:(zh1 b1 s1.heap a1).objs.size=s1.heap.objs.size+1:=g0g ..;have z2:(zh2 b1 b2 s1.heap a1 a2).objs.size=s1.heap.objs.size+2:=by unfold zh2;rw [g0g,z1]
 have z3:(zh3 b1 b2 s1.heap a1 a2).objs.size=s1.heap.objs.size+3:=by unfold zh3;rw [g0g,z2]
 have z4:(zh4 b1 b2 s1.heap a1 a2).objs.size=s1.heap.objs.size+4:=by unfold zh4;rw [g0g,z3]
 have g5:(zh5 b1 b2 s1.heap a1 a2).get? (zh4 b1 b2 s1.heap a1 a2).objs.size=some {cls:=.type "zip",data:=.fields #[.none,.bool false,.bool false,.ref (zh2 b1 b2 s1.heap a1 a2).objs.size,.ref (zh3 b1 b2 s1.heap a1 a2).objs.size]}:=ma _ rfl;have g4:(zh5 b1 b2 s1.heap a1 a2).get? (zh3 b1 b2 s1.heap a1 a2).objs.size=some {cls:=.type "tuple",data:=.seq #[.none,.none]}:=g9 _ (ma _ rfl);have g3:(zh5 b1 b2 s1.heap a1 a2).get? (zh2 b1 b2 s1.heap a1 a2).objs.size=some {cls:=.type "tuple",data:=.seq #[.ref s1.heap.objs.size,.ref (zh1 b1 s1.heap a1).objs.size]}:=g9 _ (g9 _ (ma _ rfl));have g2:(zh5 b1 b2 s1.heap a1 a2).get? (zh1 b1 s1.heap a1).objs.size=some {cls:=.type (itN b2),data:=.fields #[.ref a2,.int 0 0]}:=g9 _ (g9 _ (g9 _ (ma _ rfl)));have g1:(zh5 b1 b2 s1.heap a1 a2).get? s1.heap.objs.size=some {cls:=.type (itN b1),data:=.fields #[.ref a1,.int 0 0]}:=g9 _ (g9 _ (g9 _ (g9 _ (ma _ rfl))));have kp:∀c o,s1.heap.get? c=some o->(zh5 b1 b2 s1.heap a1 a2).get? c=some o:=fun c o e=>g9 _ (g9 _ (g9 _ (g9 _ (g9 _ e))));have I2:Inv X pins σ H1 {s1 with heap:=zh5 b1 b2 s1.heap a1 a2}:=I1.kept (t':=s1.toks) kp;refine⟨⟨_,g5,rfl⟩,wpAny_pyIter_zip g5 ?_⟩;refine⟨_,_,_,_,H1,rfl,I2,qhd (b1:=b1) (b2:=b2) (a1:=a1) (a2:=a2) (i1:=s1.heap.objs.size) (i2:=(zh1 b1 s1.heap a1).objs.size) ?_,⟨g5,g3,⟨_,_,g4⟩,⟨_,g1,rfl,rfl⟩,⟨_,g2,rfl,rfl⟩⟩,fun c hc=>?_,q⟩
 ·constructor <;> (first|exact mn (by lia)|exact g03 (by lia))
 ·have hge:s1.heap.objs.size<=c:=by
   simp only [mw,g0a,g27] at hc;rcases hc with rfl|rfl|rfl|rfl|rfl <;> lia
  exact I1.fpOk hge (I1.hok.fresh hge)
def q9h(fa:FA): FA:=fun ρ =>(fa ρ).bind fun ds=>match ds with
 | [x,y]=>(q1x x).bind fun xs=>(q1x y).map fun ys=>q1a xs ys
 | _=>none
theorem qc7{K:Frag}{F:Hp}{d:D}{ds:List D}{v:V}(h:q1x d=some ds)(r:Rep K F d v): ∃b a xs,v=.ref a/\Sq b K F a xs/\RepL K F ds xs:=by
 cases d <;> simp only [q1x] at h <;> first|(cases h;done)|skip
 ·cases h
  obtain⟨a,xs,rfl,h3,h4⟩:=rep_tup.mp r;exact⟨false,a,xs,rfl,h3,h4⟩
 ·cases h
  obtain⟨a,xs,rfl,h3,h4⟩:=rep_lst.mp r;exact⟨true,a,xs,rfl,h3,h4⟩
theorem qfc{a b:Expr}{fa:FA}{p:Pos}(hg:Gl X "zip")(hm:X.mg "zip" = none)(ha:PA X [a,b] (tDA X.K fa))(hs:starEach [a,b] X.env=[(false,eval a X.env),(false,eval b X.env)]:=by rfl)(hs2:starEach [b] X.env=[(false,eval b X.env)]:=by rfl):
  PI X (.Tuple elts x1 tp) (.Call (.Name "zip" p) [a,b] [] pos) (tDI X.K (q9h fa)):=q65 (qmt hg hm ha hs hs2) fun σ H R ⟨F0,H0,F, ρ,ds,r,hf,q⟩=>by
 obtain⟨es,h1,h2⟩:=g6.mp hf;refine⟨F0,H0,F, ρ,es,r,h1,fun vs F' H' g' r'=>?_⟩
 split at h2
 ·rename_i x y
  obtain⟨xs,k1,h2⟩:=g6.mp h2;obtain⟨ys,k2,h2⟩:=md.mp h2;subst h2;obtain⟨v1,t,rfl,e1,e2⟩:=r'.cons_inv;obtain⟨v2,t2,rfl,e3,e4⟩:=e2.cons_inv;cases e4.nil_inv;obtain⟨b1,a1,us,rfl,s1,l1⟩:=qc7 k1 e1;obtain⟨b2,a2,ws,rfl,s2,l2⟩:=qc7 k2 e3;exact⟨b1,a1,us,b2,a2,ws,rfl,w9 g'.fh s1,w9 g'.fh s2,q _ F' H' g' (qjl s1 s2 l1 l2)⟩
 ·cases h2
end
section
variable{X:Cx}{e:Expr}{es:List Expr}{kws:List Keyword}{pos:Pos}{f g:FE}{fa fk:FA}
def qpe(n m:Nat)(fa fk:FA): FA:=fun ρ =>(fa ρ).bind fun ds=>(fk ρ).bind fun es=>if ds.length=n/\es.length=m then some (ds++es) else none
def qoj(ar:Nat)(op:List D->Option D): List D->Option D:=fun ds=>if ds.length=ar then op ds else none
end
structure Cal(P:Program)(w:World)(K:Frag)(mg:Str->Option Value)(base:Heap)(x:Str)(k:Nat)(ps:List Str)(ar:Nat)(op:List D->Option D)(fn:Addr)(fd:FuncData): Prop where
 ok:FnOk P w K mg base CX0 k fn fd ps (spD K ar op)
 mg:mg x=some (.ref fn)
 kp:PySem.W.keepIn K (.ref fn)=true
section
variable{X:Cx}{e:Expr}{es:List Expr}{kws:List Keyword}{pos p:Pos}{fa fk:FA}{k ar k':Nat}{fn:Addr}{fd:FuncData}{ps ks:List Str}{op:List D->Option D}{x:Str}
theorem z5(C:Cal X.prog X.w X.K X.mg X.base x k ps ar op fn fd)(b:Binds X.K fd ps [])(hr:Room k' X.A)(hk:k<=k')(hg:Gl X x)(ha:PA X (e :: es) (tDA X.K fa))(hdb:(x==("__debug__" : Str))=false:=by decide)
  (he:starEach (e :: es) X.env=(false,eval e X.env) :: starEach es X.env:=by rfl) (hpl:(backTo pos (starEach es X.env)).any (·.1)=false:=by rfl):PE X (.Call (.Name x p) (e :: es) [] pos) (tD X.K (qk (qt ar [] op) fa)):=
 qji C.ok (hr.mono hk) hg C.mg C.kp b .nil (fun H=>.nil) ha hdb he hpl
def q1b:D->Option D
 | .int i=>some (.int (-i))
 | _=>none
theorem q9i{f:FE}(ha:PE X e (tD X.K f)): PE X (.UnaryOp .USub e pos) (tD X.K (eUn q1b f)):=by
 intro pins s σ H Q I h;obtain⟨F0,H0,F, ρ,d,r,hf,q⟩:=h;obtain⟨d',h1,h2⟩:=g6.mp hf;cases d' <;> simp only [q1b] at h2 <;> first|(cases h2;done)|skip
 cases h2;refine UnaryOp_ (thn (ha pins s σ H (fun v H'=>∃F',Grow F H F' H'/\Rep X.K F' (.int _) v) I ⟨F0,H0,F, ρ,_,r,h1,fun v F' H' g' r'=>⟨F',g',r'⟩⟩) fun v s1 ⟨x,H1,I1,r1,F',g',r'⟩=>?_);cases rep_int.mp r';obtain⟨t,rfl⟩:=r1;exact neg_int ⟨.int _,H1,I1.tok _,⟨_,rfl⟩,q _ F' H1 g' (rep_int.mpr rfl)⟩
end
structure Fun2(K:Frag)(x qual:Str)(st:Stmt)(dV:Value)(f:Addr)(fd:FuncData): Prop where
 ex:∃(oc:Value) (od:Option Addr) (kV doc pm:Value) (an:Option Addr) (cdv ct:Value) (osl:Array (Option Value)),
  fd=PySem.W.fnOf x qual (xu st) (qr st) (qd st) dV kV doc pm an cdv ct/\K.lookup f=some ⟨oc,od,.func fd,osl⟩/\PySem.W.codeIn K cdv qual=true
 kp:PySem.W.keepIn K (.ref f)=true
section
variable{P:Program}{w:World}{K:Frag}{mg:Str->Option Value}{base:Heap}{x qual:Str}{st:Stmt}{dV:Value}{f:Addr}{fd:FuncData}{N ps:List Str}
theorem Fun2.ok{k:Nat}{u:FS}(F:Fun2 K x qual st dV f fd)(S:FnScope N ps (qd st))
  (hb:∀(cdv:Value) (A:Around) (outer:List Env) (s:Shared) (H:Hp) (E:XK),Room k (A.deeper (envOfC qual (qd st) s.heap.objs.size f cdv))->PSs (zq CX0 P w K mg base N qual (qd st) f cdv A outer s H E).nox (qr st) (tDS K u)) :
  FnOk P w K mg base CX0 (k+1) f fd ps (spD K ps.length (ze N.length u)):=by
 obtain⟨oc,od,kV,doc,pm,an,cdv,ct,osl,rfl,lk,hcd⟩:=F.ex;exact qin lk hcd S fun A outer s H E hr=>hb cdv A outer s H E hr
theorem Fun2.okn{k n ar k1:Nat}{u:FS}(F:Fun2 K x qual st dV f fd)(S:FnScope N ps (qd st))(hn:N.length=n)(ha:ps.length=ar)(hk:k+1=k1)
  (hb:∀(cdv:Value) (A:Around) (outer:List Env) (s:Shared) (H:Hp) (E:XK),Room k (A.deeper (envOfC qual (qd st) s.heap.objs.size f cdv))->PSs (zq CX0 P w K mg base N qual (qd st) f cdv A outer s H E).nox (qr st) (tDS K u)) :
  FnOk P w K mg base CX0 k1 f fd ps (spD K ar (ze n u)):=by
 subst hn ha hk;exact F.ok S hb
theorem qc8{oc:Value}{od an:Option Addr}{osl:Array (Option Value)}{kV doc pm cdv ct:Value}(l:K.lookup f=some ⟨oc,od,.func (PySem.W.fnOf x qual (xu st) (qr st) (qd st) dV kV doc pm an cdv ct),osl⟩)
  (c:PySem.W.codeIn K cdv qual=true) (k:PySem.W.keepIn K (.ref f)=true):Fun2 K x qual st dV f (PySem.W.fnOf x qual (xu st) (qr st) (qd st) dV kV doc pm an cdv ct):=⟨⟨oc,od,kV,doc,pm,an,cdv,ct,osl,rfl,l,c⟩,k⟩
theorem Fun2.bindsTo(F:Fun2 K x qual st dV f fd){P:FuncData->Prop}(h:∀(kV doc pm:Value) (an:Option Addr) (cdv ct:Value),P (PySem.W.fnOf x qual (xu st) (qr st) (qd st) dV kV doc pm an cdv ct)): P fd:=by
 obtain⟨oc,od,kV,doc,pm,an,cdv,ct,osl,rfl,lk,hcd⟩:=F.ex;exact h kV doc pm an cdv ct
end
def q8u(K:Frag): Sp:=fun vs H Q _=>∃(a:Addr) (ns:List Int) (F:Hp),vs=[.ref a]/\SameT F H/\SqL K F a (ns.map V.int)/\ns.length<=63/\∀H',Q (.bl true) H'
theorem qmu{P:Program}{w:World}{K:Frag}{mg:Str->Option Value}{base:Heap}{k:Nat}{f:Addr}{fd:FuncData}{x:Str}{op:List D->Option D}(F:FnOk P w K mg base CX0 k f fd [x] (spD K 1 op))(h:∀ns:List Int,ns.length<=63->op [.lst (ns.map .int)]=some (.bl true)):
  FnOk P w K mg base CX0 k f fd [x] (q8u K):=F.imp fun vs H Q E ⟨a,ns,Fz,e,fz,hS,hl,q⟩=>by
 subst e;exact⟨Fz,[.lst (ns.map .int)],.bl true,fz,.cons (rep_lst.mpr ⟨a,_,rfl,hS,RepL.ints.mpr rfl⟩) .nil,rfl,h ns hl,fun v F' H' g' r'=>by rw [rep_bl.mp r'];exact q H'⟩
section
variable{X:Cx}{pos:Pos}{f g:FE}{a b:Expr}
abbrev oLt':=oLt
theorem q9j:OpR X (compareOp .Lt) (rD X.K oLt'):=qoa
end
section
variable{X:Cx}{pos:Pos}{f g k:FE}{a b c:Expr}
theorem qjm{pins:List (Addr×Obj)}{σ : St}{H:Hp}{s:Shared}(I:Inv X pins σ H s): sysModules<s.heap.objs.size:=
 Nat.lt_trans (by decide) (I.mod.glob.keeps I.bk).lt
end
theorem q7d:fillsNumberSlot (.type "tuple") "mul" = pure false:=
 PySem.fillsNumberSlot_seq (id:="tuple.__mul__") (r:=some (.builtin "tuple.__rmul__")) g1b.lookup (by decide +kernel) F.slot_tuple_rmul.lookup (by decide +kernel)
theorem qdm:seqRepeat? (.type "tuple")=pure (some (.builtin "tuple.__mul__")):=by
 unfold seqRepeat?;rw [PySem.seqSlot_of (T:="tuple") (name:="__mul__") g1b.lookup (by decide +kernel),PySem.seqSlot_of (T:="tuple") (name:="__rmul__") F.slot_tuple_rmul.lookup (by decide +kernel)]
 rfl
theorem qhe(i:Int)(t:Tok)(l:Addr)(xs:Array Value)(n:Nat)(dd:Option Addr)(sl:Array (Option Value)):
  Meets (Builtin.«int.__rmul__» ⟨[.int i t,.ref l],[]⟩) (fun _ R s=>s.heap.get? l=some {cls:=.type "tuple",dict:=dd,data:=.seq xs n,slots:=sl}/\R (.ok (.ret Value.notImplemented)) s):=
 .of_wp fun prog w A R s h=>by
  obtain⟨hp,g,d,tk,os⟩:=s;obtain⟨hl,h⟩:=h
  wp_walk
  exact⟨_,rfl,h⟩
theorem q9k(i:Int)(t:Tok)(l:Addr)(xs:Array Value)(n:Nat)(dd:Option Addr)(sl:Array (Option Value))(h0:¬(decide (i < -(2 ^ 63)) || decide (i>=2 ^ 63))=true)(h1:(xs.isEmpty || i==1)=true):
  Meets (Builtin.«tuple.__mul__» ⟨[.ref l,.int i t],[]⟩) (fun _ R s=>s.heap.get? l=some {cls:=.type "tuple",dict:=dd,data:=.seq xs n,slots:=sl}/\R (.ok (.ret (.ref l))) s):=
 .of_wp fun prog w A R s h=>by
  obtain⟨hp,g,d,tk,os⟩:=s;obtain⟨hl,h⟩:=h;have f1:=g3p;have f2:=g0v
  wp_walk using ug hl
  refine g2k (p9 h0) ?_
  wp_walk using ug hl
  exact⟨_,rfl,h⟩
theorem q9l(i:Int)(t:Tok)(l:Addr)(xs:Array Value)(n:Nat)(dd:Option Addr)(sl:Array (Option Value))(h0:¬(decide (i < -(2 ^ 63)) || decide (i>=2 ^ 63))=true)(h1:¬(xs.isEmpty || i==1)=true)(h2:(decide (i<=0) || xs.isEmpty)=true):
  Meets (Builtin.«tuple.__mul__» ⟨[.ref l,.int i t],[]⟩) (fun _ R s=>s.heap.get? l=some {cls:=.type "tuple",dict:=dd,data:=.seq xs n,slots:=sl}/\R (.ok (.ret (.ref s.heap.objs.size))) {s with heap:=s.heap.push {cls:=.type "tuple",data:=.seq #[]} }):=
 .of_wp fun prog w A R s h=>by
  obtain⟨hp,g,d,tk,os⟩:=s;obtain⟨hl,h⟩:=h;have f1:=g3p;have f2:=g0v
  wp_walk using ug hl
  refine g2k (p9 h0) ?_
  wp_walk using ug hl
  exact⟨_,rfl,h⟩
theorem q9m(i:Int)(t:Tok)(l:Addr)(xs:Array Value)(n:Nat)(dd:Option Addr)(sl:Array (Option Value))(h0:¬(decide (i < -(2 ^ 63)) || decide (i>=2 ^ 63))=true)(h1:¬(xs.isEmpty || i==1)=true)(h2:¬(decide (i<=0) || xs.isEmpty)=true)
  (h3:¬((xs.size:Int)*i>(2 ^ 63-1) / 8)) (h4:¬Builtin.Tuple.tupleTooMany ((xs.size:Int)*i)=true) (h5:((List.replicate i.toNat xs).foldl (· ++ ·) #[]).size<=sizeLine) :
  Meets (Builtin.«tuple.__mul__» ⟨[.ref l,.int i t],[]⟩) (fun _ R s=>s.heap.get? l=some {cls:=.type "tuple",dict:=dd,data:=.seq xs n,slots:=sl}/\R (.ok (.ret (.ref s.heap.objs.size))) {s with heap:=s.heap.push {cls:=.type "tuple",data:=.seq ((List.replicate i.toNat xs).foldl (· ++ ·) #[])} }):=
 .of_wp fun prog w A R s h=>by
  obtain⟨hp,g,d,tk,os⟩:=s;obtain⟨hl,h⟩:=h;have f1:=g3p;have f2:=g0v
  wp_walk using ug hl
  refine g2k (p9 h0) ?_
  wp_walk using ug hl
  refine g2k (p9 h3) ?_
  wp_walk using ug hl
  exact⟨_,rfl,h⟩
theorem q9n(xs:Array Value): ∀(n:Nat) (acc:Array Value),((List.replicate n xs).foldl (· ++ ·) acc).toList=acc.toList++(List.replicate n xs.toList).flatten
 | 0,acc=>by simp
 | n+1,acc=>by
  rw [g0e,List.foldl_cons,q9n xs n (acc++xs),g0e,g19,p5,mj]
theorem q84(xs:List Value)(n:Nat): (List.replicate n xs.toArray).foldl (· ++ ·) #[]=(List.replicate n xs).flatten.toArray:=by
 apply Array.toList_inj.mp;rw [q9n];simp
section
variable{prog:Program}{w:World}{A:Around}{E:Value->Shared->Prop}{s:Shared}
theorem qjn{t:Addr}{vs:List Value}{i:Int}{u:Tok}{Q:Value->Shared->Prop}(ht:IsTup s.heap t vs.toArray)(h0 : -(2 ^ 62)<i)(h1:i<2 ^ 62)(hz:vs.length*i.toNat<=1000000)
  (q1:(vs=[]\/i=1)->Q (.ref t) s) (q2:¬(vs=[]\/i=1)->Q (.ref s.heap.objs.size) {s with heap:=s.heap.push {cls:=.type "tuple",data:=.seq (List.replicate i.toNat vs).flatten.toArray} }) :
  wpAny (model prog w) A (binaryOp .Mult (.ref t) (.int i u)) Q E s:=by
 obtain⟨⟨cls,dd,data,sl⟩,ho,hc,n,hd⟩:=id ht;simp only at hc hd;subst hc hd;have ty:s.TypeIs (.ref t) "tuple" :=⟨_,ho,rfl⟩
 have b0:¬(decide (i < -(2 ^ 63)) || decide (i>=2 ^ 63))=true:=by
  simp only [g0m,g1v,not_or]
  constructor <;> lia
 refine wpAny_binaryOp_repeat_ref (T:="tuple") (U:="int") (by decide) ty (fun s'=>typeIs_int s' i u) q7d F.fills_int_mul F.slot_int_rmul qdm F.slot_int_index.lookup
  (g2f F.slot_int_rmul (typeIs_int s i u) F.entry_int_rmul (F.args_int_rmul_2 _ _) (qhe i u t vs.toArray n dd sl) ⟨ho,rfl,ty,?_⟩)
 have em:vs.toArray.isEmpty=true↔vs=[]:=by simp
 by_cases c1:(vs.toArray.isEmpty || i==1)=true
 ·have c1':vs=[]\/i=1:=by simpa using c1
  exact g2f g1b ty g3e (g34 _ _) (q9k i u t vs.toArray n dd sl b0 c1) ⟨ho,q1 c1'⟩
 ·have c1':¬(vs=[]\/i=1):=by simpa using c1
  have q:=q2 c1'
  by_cases c2:(decide (i<=0) || vs.toArray.isEmpty)=true
  ·have i0:i<=0:=by
    rcases g0m _ _ ▸ c2 with z|z
    ·exact ue z
    ·exact absurd (.inl (em.mp z)) c1'
   have e:(List.replicate i.toNat vs).flatten.toArray = #[]:=by
    rw [show i.toNat=0 by lia];rfl
   rw [e] at q;exact g2f g1b ty g3e (g34 _ _) (q9l i u t vs.toArray n dd sl b0 c1 c2) ⟨ho,q⟩
  ·have c2':0<i:=by
    have:¬i<=0:=fun z=>c2 (by rw [n8 z];rfl);lia
   have ei:(vs.toArray.size:Int)*i=((vs.length*i.toNat:Nat):Int):=by
    rw [Int.natCast_mul,g1f (by lia),gf]
   have el:(List.replicate i.toNat vs).flatten.length=vs.length*i.toNat:=by
    rw [List.length_flatten,List.map_replicate,g44,Nat.mul_comm]
   rw [<- q84] at q;refine g2f g1b ty g3e (g34 _ _) (q9m i u t vs.toArray n dd sl b0 c1 c2 ?_ ?_ ?_) ⟨ho,q⟩
   ·rw [ei];lia
   ·rw [ei]
    unfold Builtin.Tuple.tupleTooMany;have:sizeLine=16777216:=g42;rw [this,g1v];lia
   ·rw [q84,gf,el]
    exact vf hz
end
section
variable{X:Cx}
def qhf:D->D->Option D
 | .tup xs,.int n=>if decide (-(2 ^ 62)<n)&&decide (n<2 ^ 62)&&decide (xs.length*n.toNat<=lim) then some (.tup (List.replicate n.toNat xs).flatten) else none
 | _,_=>none
theorem q9o{xs:List V}{us:List Value}(r:Vals xs us): ∀n:Nat,Vals (List.replicate n xs).flatten (List.replicate n us).flatten
 | 0=>.nil
 | n+1=>by rw [g0e,g0e,g19,g19];exact r.append (q9o r n)
theorem q9p{K:Frag}{H:Hp}{ds:List D}{xs:List V}(r:RepL K H ds xs): ∀n:Nat,RepL K H (List.replicate n ds).flatten (List.replicate n xs).flatten
 | 0=>.nil
 | n+1=>by rw [g0e,g0e,g19,g19];exact r.append (q9p r n)
theorem qmv:OpR X (binaryOp .Mult) (rD X.K qhf):=fun pins s σ H x y v u Q I rx ry ⟨F,d1,d2,d,q1,q2,q3,q4,q5⟩=>by
 unfold qhf at q4
 split at q4
 ·rename_i ds n
  split at q4
  ·rename_i hc
   cases q4;simp only [gv,g1v] at hc;obtain⟨⟨c1,c2⟩,c3⟩:=hc;obtain⟨p,xs,rfl,z1,z2⟩:=rep_tup.mp q2;cases rep_int.mp q3;cases rx;obtain⟨t,rfl⟩:=ry;obtain⟨its,r1,p1,hz⟩:=I.tuple (ql q1 z1);have lx:=r1.length;have ld:=z2.length;refine qjn p1 c1 c2 (by rw [<- lx, <- ld];exact c3) (fun hq=>?_) fun hq=>?_
   ·have e:(List.replicate n.toNat ds).flatten=ds:=by
     rcases hq with z|z
     ·have:ds=[]:=g3u.mp (by rw [ld,lx,z];rfl)
      subst this;simp
     ·subst z;simp [List.replicate]
    rw [e] at q5;exact⟨.ref p,H,I,rfl,q5 _ F H (.refl q1) q2⟩
   ·have hn:H s.heap.objs.size=none:=I.hok.fresh (gu _)
    have rr:=q9o r1 n.toNat;have el:(List.replicate n.toNat xs).flatten.length=ds.length*n.toNat:=by
     rw [List.length_flatten,List.map_replicate,g44,Nat.mul_comm,ld]
    refine⟨.ref s.heap.objs.size,_,I.laid (t':=s.toks) (o:=.tup (List.replicate n.toNat xs).flatten) (fun b ob q=>g9 _ q) (gu _) ⟨by rw [el];exact vf c3,_,rr,TupX.new _ _⟩,rfl,?_⟩;have gn:=Grow.new (o:=.tup (List.replicate n.toNat xs).flatten) q1 hn;exact q5 _ _ _ gn (rep_tup.mpr ⟨_,_,rfl,SqT.of qq,(q9p z2 n.toNat).mono gn.ff⟩)
  ·cases q4
 ·cases q4
def j0:D->D->Option D:=fun x y=>(oMul x y).or (qhf x y)
theorem vi:OpR X (binaryOp .Mult) (rD X.K j0):=q61 qmd qmv
end
section
variable{prog:Program}{w:World}{A:Around}{E:Value->Shared->Prop}{s:Shared}
end
section
variable{X:Cx}{pos:Pos}{elts:List Expr}{x1:Nat}{tp:Pos}
end
section
variable{X:Cx}{st:Stmt}
abbrev oBand:=oI (fun _ _=>true) fun i j=>Builtin.bitAnd i j
abbrev oBor:=oI (fun _ _=>true) fun i j=>Builtin.bitOr i j
theorem qc9:OpR X (binaryOp .BitAnd) (rD X.K oBand):=q62 qly
theorem qmw:OpR X (binaryOp .BitOr) (rD X.K oBor):=q62 qny
theorem q3l:∀ {l m:List Int},l.Perm m->l.Pairwise (· <= ·)->m.Pairwise (· <= ·)->l=m
 | [],m,p,_,_=>(p.nil_eq).symm ▸ rfl
 | x :: l,[],p,_,_=>by cases p.length_eq
 | x :: l,y :: m,p,.cons h1 h2,.cons k1 k2=>by
  have e:x=y:=by
   have hx:x∈y :: m:=p.mem_iff.mp gw;have hy:y∈x :: l:=p.mem_iff.mpr gw;rcases mw.mp hx with e|hx
   ·exact e
   ·rcases mw.mp hy with e|hy
    ·exact e.symm
    ·exact Int.le_antisymm (h1 y hy) (k1 x hx)
  subst e;rw [q3l (List.perm_cons _ |>.mp p) h2 k2]
theorem q0k:∀ {us:List Value} {ns:List Int},IntsAre us ns->Vals (ns.map V.int) us
 | _,_,.nil=>.nil
 | _,_,.cons n t h=>.cons ⟨t,rfl⟩ (q0k h)
theorem boot_sorted:bootBuiltins "sorted" = some (.builtin "sorted"):=by decide +kernel
end
section
variable{X:Cx}{pins:List (Addr×Obj)}{σ : St}{F H:Hp}{s:Shared}
theorem q6c(I:Inv X pins σ H s)(fh:Same F H)(A:Around): ∀ {ds es:List D} {xs ys:List V} {us vs:List Value},xy ds es=true->A.units+ju ds<cLine->RepL X.K F ds xs->RepL X.K F es ys->Vals xs us->Vals ys vs ->
   ∀j (h1:j<us.length) (h2:j<vs.length),SeqAt.EqAt A s us[j] vs[j] (eqJ ds es j)
 | [],es,xs,ys,us,vs,_,_,k1,_,w1,_,j,h1,_=>by
  cases k1.nil_inv;cases w1;exact absurd h1 (ni _)
 | d :: ds,es,xs,ys,us,vs,ho,hd,k1,k2,w1,w2,j,h1,h2=>by
  obtain⟨x,r,rfl,a1,a2⟩:=k1.cons_inv;cases w1 with
  | cons p1 p2=>
   cases es with
   | nil=>cases k2.nil_inv;cases w2;exact absurd h2 (ni _)
   | cons e es=>
    obtain⟨y,r',rfl,b1,b2⟩:=k2.cons_inv;cases w2 with
    | cons p3 p4=>
     simp only [xy,gv] at ho;simp only [ju] at hd;cases j with
     | zero=>
      have e0:eqJ (d :: ds) (e :: es) 0=eqD d e:=by simp [eqJ]
      rw [e0];exact q6a I fh A ho.1 (by lia) a1 b1 p1 p3
     | succ j=>
      have e0:eqJ (d :: ds) (e :: es) (j+1)=eqJ ds es j:=by simp [eqJ]
      rw [e0];exact q6c I fh A ho.2 (by lia) a2 b2 p2 p4 j (by simpa using h1) (by simpa using h2)
def qhg:D->D->Option D
 | .tup ds,.tup es=>if xy ds es&&decide (ju ds<=60) then some (.bl (!eqL ds es)) else none
 | _,_=>none
theorem qmx(hu:X.A.units+64<cLine): OpR X (compareOp .NotEq) (rD X.K qhg):=by
 intro pins s σ H x y v u Q I rx ry h;obtain⟨F,d1,d2,d,fh,r1,r2,ho,q⟩:=h;unfold qhg at ho
 split at ho
 ·rename_i ds es
  split at ho
  ·rename_i hc
   cases ho;rw [gv] at hc;obtain⟨a,xs,rfl,k1,k2⟩:=rep_tup.mp r1;obtain⟨b,ys,rfl,k3,k4⟩:=rep_tup.mp r2;cases rx;cases ry;obtain⟨i1,v1,t1,_⟩:=I.tuple (ql fh k1);obtain⟨i2,v2,t2,_⟩:=I.tuple (ql fh k3);have hq:=q6c I fh X.A.in1 hc.1 (by have:=ue hc.2;show X.A.units+1+ju ds<cLine;lia) k2 k4 v1 v2;have:=SeqAt.RcNeAt.tuples (A:=X.A) (e:=eqJ ds es) (show s.heap.IsTuple a i1.toArray from t1) (show s.heap.IsTuple b i2.toArray from t2) (by lia) (fun j h1 h2=>by simpa using hq j (by simpa using h1) (by simpa using h2));simp only [gf, <- v1.length, <- v2.length, <- k2.length, <- k4.length,vd] at this;exact this X.prog X.w _ _ ⟨.bl _,H,I,rfl,q _ F H (.refl fh) (rep_bl.mpr rfl)⟩
  ·cases ho
 ·cases ho
abbrev qdn:D->D->Option D:=fun x y=>(q5b x y).or (qhg x y)
theorem qfd(hu:X.A.units+64<cLine): OpR X (compareOp .NotEq) (rD X.K qdn):=q61 q64 (qmx hu)
end
theorem q85{P:Program}{w:World}{K:Frag}{mg:Str->Option Value}{base:Heap}{k ar:Nat}{f:Addr}{fd:FuncData}{ps:List Str}: FnOk P w K mg base CX0 k f fd ps (spD K ar fun _=>none):=
 FnOk.mk (fun vs H Q E z=>by
   obtain⟨F,ds,d,_,_,_,h,_⟩:=z;cases h)
  (fun A outer s H args us vs Q E _ _ _ _ z=>by
   obtain⟨F,ds,d,_,_,_,h,_⟩:=z;cases h)
end DL
namespace Srt
end Srt
namespace DL
open PySem PySem.Spec PyProof.Rows L2 Srt PySem.W
variable[Lam][Pin]
structure ClsOk(K:Frag)(x:Str)(C:Addr): Prop where
 ns:PySem.W.nsIn K mainGlobals x=some (some (.ref C))
 makes:PySem.W.makesIn K C=true
 init:PySem.W.findIn K (.ref C) "__init__" = some (some (.builtin "object.__init__"))
 kp:PySem.W.keepIn K (.ref C)=true
 cls:Cls K C
 n:qgx K C
structure CalM(P:Program)(w:World)(K:Frag)(mg:Str->Option Value)(base:Heap)(x m:Str)(C:Addr)(k:Nat)(ps:List Str)(ar:Nat)(op:List D->Option D)(fn:Addr)(fd:FuncData): Prop where
 ok:FnOk P w K mg base CX0 k fn fd ps (spD K ar op)
 me:Meth K C m fn
theorem qfe{K:Frag}{C:Addr}{T:String}(hm:PySem.W.kitMeta T=true)(h:PySem.W.subIn K (.ref C) (.type T)=some false): PySem.W.kitOne K (.ref C) (.type T)=some false:=by
 unfold PySem.W.kitOne PySem.W.kitCls;rw [m9 (fun z=>by have:=eq_of_beq z;cases this)];dsimp only;rw [m4 hm];exact h
theorem qjo{K:Frag}{C:Addr}(h1:PySem.W.subIn K (.ref C) (.type "int")=some false)(h2:PySem.W.subIn K (.ref C) (.type "bool")=some false)(h3:PySem.W.subIn K (.ref C) (.type "tuple")=some false)
  (h4:PySem.W.subIn K (.ref C) (.type "list")=some false) (h5:PySem.W.subIn K (.ref C) (.type "str")=some false) (h6:PySem.W.subIn K (.ref C) (.type "dict")=some false) :
  ∀T:String,T∈["int","bool","tuple","list","str","dict"]->PySem.W.kitOne K (.ref C) (.type T)=some false:=by
 intro T hT;simp only [mw,g0a,g27] at hT;rcases hT with rfl|rfl|rfl|rfl|rfl|rfl <;> exact qfe (by decide +kernel) (by assumption)
section
variable{X:Cx}{pins:List (Addr×Obj)}{σ : St}{F H:Hp}{s:Shared}
theorem qff{C:Addr}{Q:VK}(makes:PySem.W.makesIn X.K C=true)(init:PySem.W.findIn X.K (.ref C) "__init__" = some (some (.builtin "object.__init__")))(I:Inv X pins σ H s)
  (h:Q (.ref (s.heap.objs.size+1)) (upd (upd H s.heap.objs.size (.own (s.heap.objs.size+1))) (s.heap.objs.size+1) (.ins C s.heap.objs.size []))):wpAny (model X.prog X.w) X.A (call (.ref C) []) (EP X pins σ Q) X.xe s:=by
 have I2:=Inv.made (C:=C) I;have kin:=I.kIn;obtain⟨hh,g,d,t,os⟩:=s;have Y:=makes_of (M:=model X.prog X.w) kin makes;refine g3h (make_core Y (looks_findIn kin init) (fun self=>Looks.of_pure (oi_bind self)) (.inr ⟨rfl,rfl⟩) ?_);have hx:((hh.push emptyDict).push (instObj C hh.objs.size)).get? (hh.objs.size+1)=some (instObj C hh.objs.size):=by
  have:hh.objs.size+1=(hh.push emptyDict).objs.size:=(u9 _ _).symm;rw [this];exact ma _ rfl
 have t1:Looks (model X.prog X.w) ((hh.push emptyDict).push (instObj C hh.objs.size)) (typeOf (.ref (hh.objs.size+1))) (.ref C):=(Looks.ld hx).andThen .now;have t2:Looks (model X.prog X.w) ((hh.push emptyDict).push (instObj C hh.objs.size)) (isInstance (.ref (hh.objs.size+1)) (.type "object")) true:=t1.andThen (Y.top.keeps fun b o e=>g9 _ (g9 _ e));refine g2g oi_plain entry_oi (@check_slot (model X.prog X.w) _ _ _ "object.__init__" "object" "__init__" (.ref (hh.objs.size+1)) [] [] _ oi_kind oi_split t2 (oi_args (.ref (hh.objs.size+1))) ?_);rw [oi_run];exact gh (And.intro rfl ⟨V.ref (hh.objs.size+1),_,I2,rfl,h⟩)
theorem qmy{x:Str}{C:Addr}{p pos:Pos}(O:ClsOk X.K x C)(hm:X.mg x=some (.ref C))(hg:Gl X x)(hdb:(x==("__debug__" : Str))=false:=by decide): PE X (.Call (.Name x p) [] [] pos) (tD X.K (eC (.obj x))):=by
 intro pins s σ H Q I h;obtain⟨F0,H0,F, ρ,d,r,hf,q⟩:=h;cases hf;refine g13 (qbq I hg hm ?_ hdb);refine PySem.W.callWith_K0 I.kIn O.kp (qff O.makes O.init I ?_);have n0:H s.heap.objs.size=none:=I.hok.fresh (gu _);have n1:H (s.heap.objs.size+1)=none:=I.hok.fresh (g1e _);have fh:=r.fh;have g1:Grow F H F (upd H s.heap.objs.size (.own (s.heap.objs.size+1))):=Grow.own fh n0;have n1':upd H s.heap.objs.size (.own (s.heap.objs.size+1)) (s.heap.objs.size+1)=none:=by rw [qh (g03 (uc _))];exact n1
 have g2:=Grow.new (o:=.ins C s.heap.objs.size []) g1.fh n1';exact q _ _ _ (g1.trans g2) (rep_obj.mpr ⟨s.heap.objs.size+1,s.heap.objs.size,C,rfl,qq,O.ns,O.n⟩)
def isO(x:Str): D->Bool
 | .obj y=>x==y
 | _=>false
def q3m(x:Str)(ar:Nat)(op:List D->Option D)(g:FE)(fa:FA): FE:=fun ρ =>(g ρ).bind fun d=>(fa ρ).bind fun ds=>if isO x d then qt ar [] op (d :: ds) else none
theorem q2a{x m:Str}{C:Addr}{o e:Expr}{es:List Expr}{apos pos:Pos}{k k' ar:Nat}{fn:Addr}{fd:FuncData}{ps:List Str}{op:List D->Option D}{g:FE}{fa:FA}{pl:Sem Bool}(O:ClsOk X.K x C)
  (M:CalM X.prog X.w X.K X.mg X.base x m C k ps ar op fn fd) (b:Binds X.K fd ps []) (hr:Room k' X.A) (hk:k<=k') (ho:PE X o (tD X.K g)) (ha:PA X (e :: es) (tDA X.K fa))
  (hst:starEach (e :: es) X.env=(false,eval e X.env) :: starEach es X.env:=by rfl) (hpl:(backTo pos (starEach es X.env)).any (·.1)=false:=by rfl)
  (ht:eval (.Call (.Attribute o m apos) (e :: es) [] pos) X.env=(do
   let ov <- eval o X.env
   standAt apos.atName
   let(f,first) <- holding [ov] (getMethod ov m pl)
   callWith pos f first (backTo pos (starEach (e :: es) X.env)) (backToKw pos (keywordEach [] X.env))):=by rfl) :
  PE X (.Call (.Attribute o m apos) (e :: es) [] pos) (tD X.K (q3m x ar op g fa)):=
 zv (qj9 (pl:=pl) ho O.cls M.me M.ok (hr.mono hk) b .nil qdc ha hst hpl ht) fun σ H Q ⟨F0,H0,F, ρ,d,r,hf,q⟩=>by
  obtain⟨d1,h1,hf⟩:=g6.mp hf;obtain⟨ds,h2,hf⟩:=g6.mp hf
  split at hf
  ·rename_i hi
   obtain rfl:d1=.obj x:=by
    cases d1 <;> simp only [isO] at hi <;> first|(cases hi;done)|skip
    rw [(by simpa using hi:x=_)]
   refine⟨F0,H0,F, ρ,.obj x,r,h1,fun v F1 H1 g1 r1=>?_⟩;obtain⟨a,dx,C',rfl,e1,e2,e3⟩:=rep_obj.mp r1;have hC:C'=C:=by
    have:=e2.symm.trans O.ns;cases this;rfl
   subst hC;refine⟨a,dx,[],rfl,g1.fh _ _ e1,rfl,F0,H0,F1, ρ,ds,r.grow g1,h2,fun vs F2 H2 g2 r2=>?_⟩;unfold qt at hf
   split at hf
   ·rename_i hl
    refine⟨F2,(.obj x :: ds)++[],d,r.sameT (g1.trans g2),(RepL.cons (r1.mono g2.ff) r2).append .nil,hl,hf,fun v F3 H3 g3 r3=>q v F3 H3 (g1.trans (g2.trans g3)) r3⟩
   ·cases hf
  ·cases hf
end
end DL
namespace DL
open PySem PyProof.Rows L2
def rkD:D->Nat
 | .int _=>0
 | .tup _=>1
 | _=>2
mutual
def ku:D->D->Ordering
 | .int i,.int j=>if i<j then .lt else if j<i then .gt else .eq
 | .tup ds,.tup es=>wm ds es
 | d,e=>if rkD d<rkD e then .lt else if rkD e<rkD d then .gt else .eq
def wm:List D->List D->Ordering
 | [],[]=>.eq
 | [],_ :: _=>.lt
 | _ :: _,[]=>.gt
 | d :: ds,e :: es=>match ku d e with
  | .eq=>wm ds es
  | o=>o
end
def ltT(d e:D): Bool:=(ku d e).isLT
def kb(ds es:List D): Bool:=(wm ds es).isLT
mutual
/-- ints, and tuples of such -/
def kD:D->Bool
 | .int _=>true
 | .tup ds=>kDL ds
 | _=>false
def kDL:List D->Bool
 | []=>true
 | d :: ds=>kD d&&kDL ds
end
mutual
/-- where Python compares these two, it meets only ints with ints, tuples with tuples -/
def shD:D->D->Bool
 | .int _,.int _=>true
 | .tup ds,.tup es=>shL ds es
 | _,_=>false
def shL:List D->List D->Bool
 | d :: ds,e :: es=>shD d e&&shL ds es
 | _,_=>true
end
def q3n(k:D×D): List (D×D)->List (D×D)
 | []=>[k]
 | y :: r=>if ltT y.1 k.1=true then y :: q3n k r else k :: y :: r
def yj:List (D×D)->List (D×D)
 | []=>[]
 | x :: r=>q3n x (yj r)
theorem swap3{a b:Nat}: (if a<b then Ordering.lt else if b<a then .gt else .eq).swap=if b<a then .lt else if a<b then .gt else .eq:=by
 by_cases h:a<b
 ·rw [m4 h,m9 (by omega),m4 h];rfl
 ·by_cases k:b<a
  ·rw [m9 h,m4 k,m4 k];rfl
  ·rw [m9 h,m9 k,m9 k,m9 h];rfl
theorem swap4{a b:Int}: (if a<b then Ordering.lt else if b<a then .gt else .eq).swap=if b<a then .lt else if a<b then .gt else .eq:=by
 by_cases h:a<b
 ·rw [m4 h,m9 (by omega),m4 h];rfl
 ·by_cases k:b<a
  ·rw [m9 h,m4 k,m4 k];rfl
  ·rw [m9 h,m9 k,m9 k,m9 h];rfl
theorem q9q:∀n,(∀d e:D,sizeOf d<n->ku e d=(ku d e).swap)/\(∀ds es:List D,sizeOf ds<n->wm es ds=(wm ds es).swap):=by
 intro n
 induction n with
 | zero=>exact⟨fun d e h=>absurd h (ni _),fun d e h=>absurd h (ni _)⟩
 | succ n ih=>
  refine⟨fun d e hn=>?_,fun ds es hn=>?_⟩
  ·cases d <;> cases e <;> simp only [ku] <;> first
    | exact swap3.symm
    | exact swap4.symm
    | exact ih.2 _ _ (by simp at hn;omega)
  ·cases ds with
   | nil=>cases es <;> simp only [wm] <;> rfl
   | cons d ds=>
    cases es with
    | nil=>simp only [wm];rfl
    | cons e es=>
     simp only [wm];rw [ih.1 d e (by simp at hn;omega),ih.2 ds es (by simp at hn;omega)];cases ku d e <;> rfl
theorem cmp_swap(d e:D): ku e d=(ku d e).swap:=(q9q (sizeOf d+1)).1 d e (uc _)
theorem ve(d e:D)(ds es:List D): kb (d :: ds) (e :: es)=(ltT d e || (!ltT e d&&kb ds es)):=by
 unfold kb ltT;rw [cmp_swap d e,wm];cases ku d e <;> rfl
theorem kx(ds:List D): kb ds []=false:=by cases ds <;> simp only [kb,wm] <;> rfl
theorem yr(e:D)(es:List D): kb [] (e :: es)=true:=by simp only [kb,wm];rfl
theorem lt3{a b:Nat}: (if a<b then Ordering.lt else if b<a then .gt else .eq).isLT=decide (a<b):=by
 by_cases h:a<b
 ·simp [h]
 ·by_cases k:b<a <;> simp [h,k]
theorem lt4{a b:Int}: (if a<b then Ordering.lt else if b<a then .gt else .eq).isLT=decide (a<b):=by
 by_cases h:a<b
 ·simp [h]
 ·by_cases k:b<a <;> simp [h,k]
theorem jx(ds es:List D): ltT (.tup ds) (.tup es)=kb ds es:=by unfold ltT;simp only [ku];rfl
theorem jy(i j:Int): ltT (.int i) (.int j)=decide (i<j):=by unfold ltT;simp only [ku];exact lt4
theorem q6d{d e:D}(h:ltT d e=true): ltT e d=false:=by
 unfold ltT at h ⊢;rw [cmp_swap d e];cases q:ku d e <;> rw [q] at h <;> first|rfl|(cases h;done)
theorem wo(d e:D): (∃i j,d=.int i/\e=.int j)\/(∃ds es,d=.tup ds/\e=.tup es)\/ltT d e=decide (rkD d<rkD e):=by
 cases d <;> cases e <;> first
  | (left;exact⟨_,_,rfl,rfl⟩)
  | (right;left;exact⟨_,_,rfl,rfl⟩)
  | (right;right;simp only [ltT,ku];exact lt3)
theorem qdo:∀n,(∀d e f:D,sizeOf d+sizeOf e+sizeOf f<n->ltT e d=false->ltT f e=false->ltT f d=false)/\(∀ds es fs:List D,sizeOf ds+sizeOf es+sizeOf fs<n->kb es ds=false->kb fs es=false->kb fs ds=false):=by
 intro n
 induction n with
 | zero=>exact⟨fun d e f h=>absurd h (ni _),fun d e f h=>absurd h (ni _)⟩
 | succ n ih=>
  refine⟨fun d e f hn h k=>?_,fun ds es fs hn h k=>?_⟩
  ·rcases wo e d with⟨i,j,rfl,rfl⟩|⟨es,ds,rfl,rfl⟩|g1
   ·rcases wo f (.int i) with⟨i',j',rfl,z⟩|⟨es,ds,rfl,z⟩|g2
    ·cases z
     simp only [jy,u6] at h k ⊢;omega
    ·cases z
    ·rcases wo f (.int j) with⟨i',j',rfl,z⟩|⟨es,ds,rfl,z⟩|g3
     ·rw [jy,u6] at k
      simp only [jy,u6] at h ⊢;omega
     ·cases z
     ·rw [g3];simp [rkD]
   ·rcases wo f (.tup es) with⟨i',j',rfl,z⟩|⟨fs,es',rfl,z⟩|g2
    ·cases z
    ·cases z
     simp only [jx] at h k ⊢;exact ih.2 _ _ _ (by simp at hn;omega) h k
    ·rcases wo f (.tup ds) with⟨i',j',rfl,z⟩|⟨fs,es',rfl,z⟩|g3
     ·cases z
     ·cases z
      simp only [jx] at h k ⊢;exact ih.2 _ _ _ (by simp at hn;omega) h k
     ·rw [g2] at k;rw [g3];exact k
   ·rcases wo f e with⟨i,j,rfl,rfl⟩|⟨es,ds,rfl,rfl⟩|g2
    ·rcases wo (.int i) d with⟨i',j',z,rfl⟩|⟨fs,es',z,rfl⟩|g3
     ·cases z
      rw [jy,u6] at h;simp only [jy,u6] at k ⊢;omega
     ·cases z
     ·rw [g1] at h;rw [g3];exact h
    ·rcases wo (.tup es) d with⟨i',j',z,rfl⟩|⟨fs,es',z,rfl⟩|g3
     ·cases z
     ·cases z
      simp only [jx] at h k ⊢;exact ih.2 _ _ _ (by simp at hn;omega) h k
     ·rw [g1] at h;rw [g3];exact h
    ·rcases wo f d with⟨i,j,rfl,rfl⟩|⟨es,ds,rfl,rfl⟩|g3
     ·rw [g1] at h;rw [g2] at k
      cases e <;> simp [rkD] at h k
      rename_i m;have h':ltT (.int m) (.int j)=false:=by rw [g1];simp [rkD]
      have k':ltT (.int i) (.int m)=false:=by rw [g2];simp [rkD]
      simp only [jy,u6] at h' k' ⊢;omega
     ·rw [g1] at h;rw [g2] at k
      cases e <;> simp [rkD] at h k
      rename_i ms;have h':ltT (.tup ms) (.tup ds)=false:=by rw [g1];simp [rkD]
      have k':ltT (.tup es) (.tup ms)=false:=by rw [g2];simp [rkD]
      simp only [jx] at h' k' ⊢;exact ih.2 _ _ _ (by simp at hn;omega) h' k'
     ·rw [g1] at h;rw [g2] at k;rw [g3]
      simp only [u6] at h k ⊢;omega
  ·cases fs with
   | nil=>
    cases es with
    | nil=>exact h
    | cons e es=>rw [yr] at k;cases k
   | cons f fs=>
    cases ds with
    | nil=>rw [kx]
    | cons d ds=>
     cases es with
     | nil=>rw [yr] at h;cases h
     | cons e es=>
      rw [ve] at h k ⊢;have z1:sizeOf d+sizeOf e+sizeOf f<n:=by simp at hn;omega
      have z2:sizeOf ds+sizeOf es+sizeOf fs<n:=by simp at hn;omega
      have z3:sizeOf e+sizeOf f+sizeOf d<n:=by simp at hn;omega
      have z4:sizeOf f+sizeOf d+sizeOf e<n:=by simp at hn;omega
      simp only [Bool.or_eq_false_iff,g4c,g1m] at h k ⊢;obtain⟨h1,h2⟩:=h;obtain⟨k1,k2⟩:=k;refine⟨ih.1 d e f z1 h1 k1,?_⟩;rcases h2 with h2|h2
      ·left
       cases q:ltT d f
       ·-- f <= d and e <= f give e <= d
        have:=ih.1 e f d z3 k1 q;rw [this] at h2;cases h2
       ·rfl
      ·rcases k2 with k2|k2
       ·left
        cases q:ltT d f
        ·have:=ih.1 f d e z4 q h1
         rw [this] at k2;cases k2
        ·rfl
       ·right
        exact ih.2 ds es fs z2 h2 k2
theorem q9r{d e f:D}(h:ltT e d=false)(k:ltT f e=false): ltT f d=false:=(qdo (sizeOf d+sizeOf e+sizeOf f+1)).1 d e f (uc _) h k
theorem qfg:∀n,(∀d e:D,sizeOf d<n->kD d=true->kD e=true->ltT d e=false->ltT e d=false->d=e)/\(∀ds es:List D,sizeOf ds<n->kDL ds=true->kDL es=true->kb ds es=false->kb es ds=false->ds=es):=by
 intro n
 induction n with
 | zero=>exact⟨fun d e h=>absurd h (ni _),fun d e h=>absurd h (ni _)⟩
 | succ n ih=>
  refine⟨fun d e hn kd ke h k=>?_,fun ds es hn kd ke h k=>?_⟩
  ·cases d <;> simp only [kD] at kd <;> first|(cases kd;done)|skip
   all_goals (cases e <;> simp only [kD] at ke <;> first|(cases ke;done)|skip)
   ·simp only [jy,u6] at h k
    congr 1;omega
   ·simp [ltT,ku,rkD] at h
   ·simp [ltT,ku,rkD] at k
   ·simp only [jx] at h k
    rw [ih.2 _ _ (by simp at hn;omega) kd ke h k]
  ·cases ds with
   | nil=>
    cases es with
    | nil=>rfl
    | cons e es=>rw [yr] at h;cases h
   | cons d ds=>
    cases es with
    | nil=>rw [yr] at k;cases k
    | cons e es=>
     rw [ve] at h k;simp only [kDL,gv] at kd ke;simp only [Bool.or_eq_false_iff,g4c,g1m] at h k;have hd:sizeOf d<n:=by simp at hn;omega
     have hds:sizeOf ds<n:=by simp at hn;omega
     have e1:=ih.1 d e hd kd.1 ke.1 h.1 k.1;have e2:=ih.2 ds es hds kd.2 ke.2 (h.2.resolve_left (by rw [k.1];simp)) (k.2.resolve_left (by rw [h.1];simp));rw [e1,e2]
theorem lt_eq{d e:D}(kd:kD d=true)(ke:kD e=true)(h:ltT d e=false)(k:ltT e d=false): d=e:=(qfg (sizeOf d+1)).1 d e (uc _) kd ke h k
theorem qfh(d:D): ltT d d=false:=by
 cases e:ltT d d
 ·rfl
 ·have:=q6d e;rw [e] at this;cases this
theorem q3o(x:D×D): ∀l,(q3n x l).Perm (x :: l)
 | []=>.refl _
 | y :: r=>by
  unfold q3n
  split
  ·exact((q3o x r).cons y).trans (.swap x y r)
  ·exact .refl _
theorem q6e:∀l,(yj l).Perm l
 | []=>.refl _
 | x :: r=>(q3o x _).trans ((q6e r).cons x)
def leT(x y:D×D): Prop:=ltT y.1 x.1=false
theorem q86(x:D×D): ∀ {l:List (D×D)},l.Pairwise leT->(q3n x l).Pairwise leT
 | [],_=>.cons (fun _ h=>by cases h) .nil
 | y :: r,.cons h1 h2=>by
  unfold q3n
  split
  ·rename_i hxy
   refine .cons (fun z hz=>?_) (q86 x h2);rcases mw.mp ((q3o x r).mem_iff.mp hz) with rfl|hz
   ·exact q6d hxy
   ·exact h1 z hz
  ·rename_i hxy
   have hxy':ltT y.1 x.1=false:=by simpa using hxy
   refine .cons (fun z hz=>?_) (.cons h1 h2);rcases mw.mp hz with rfl|hz
   ·exact hxy'
   ·exact q9r hxy' (h1 z hz)
theorem q0z:∀l,(yj l).Pairwise leT
 | []=>.nil
 | x :: r=>q86 x (q0z r)
theorem q9s:∀ {l m:List (D×D)},l.Perm m->l.Pairwise leT->m.Pairwise leT->(∀x∈l,∀y∈l,ltT x.1 y.1=false->ltT y.1 x.1=false->x=y)->l=m
 | [],m,p,_,_,_=>(p.nil_eq).symm ▸ rfl
 | x :: l,[],p,_,_,_=>by cases p.length_eq
 | x :: l,y :: m,p,.cons h1 h2,.cons k1 k2,hu=>by
  have e:x=y:=by
   have hx:x∈y :: m:=p.mem_iff.mp gw;have hy:y∈x :: l:=p.mem_iff.mpr gw;rcases mw.mp hx with e|hx
   ·exact e
   ·rcases mw.mp hy with e|hy'
    ·exact e.symm
    ·exact hu x gw y hy (k1 x hx) (h1 y hy')
  subst e;rw [q9s (List.perm_cons _ |>.mp p) h2 k2 (fun a ha b hb=>hu a (gq _ ha) b (gq _ hb))]
theorem q2q{l m:List (D×D)}(p:m.Perm l)(h:m.Pairwise leT)(hu:∀x∈l,∀y∈l,ltT x.1 y.1=false->ltT y.1 x.1=false->x=y): m=yj l:=
 q9s (p.trans (q6e l).symm) h (q0z l) (fun x hx y hy=>hu x (p.mem_iff.mp hx) y (p.mem_iff.mp hy))
end DL
namespace Srt
open PySem PyProof.Rows
structure Cmp(prog:Program)(w:World)(A:Around)(s:Shared)(κ : SortKind)(G:Value->Prop)(lt:Value->Value->Bool): Prop where
 ask:∀x y,G x->G y->∀Q:Bool->Shared->Prop,Q (lt x y) s->wpAny (model prog w) A (keyLt' κ x y) Q (fun _ _=>False) s
 asy:∀x y,lt x y=true->lt y x=false
 tra:∀x y z,lt y x=false->lt z y=false->lt z x=false
abbrev q0v:Bool->Keyed->Array Keyed->Nat->Nat->Nat->StateT SortSt Sem (Option Nat):=sortPriv% PySem.Builtin.gallop
noncomputable def qmz(far:Nat->StateT SortSt Sem (Option Bool))(n l0 r0:Nat): StateT SortSt Sem (Option Nat):=do
 let mut l:=l0
 let mut r:=r0
 for _ in [0:n] do
  if l>=r then break
  let c:=l+(r-l) / 2
  let some go <- far c|return none
  if go then l:=c+1 else r:=c
 return some r
noncomputable def qhh(far:Nat->StateT SortSt Sem (Option Bool))(n hi0:Nat): StateT SortSt Sem (Option Nat):=do
 let mut u:=0
 let mut v:=1
 let mut l:=0
 let mut r:=0
 let some rg <- far hi0|return none
 if rg then
  let mo:=n-hi0
  for _ in [0:n] do
   if v>=mo then break
   let some go <- far (hi0+v)|return none
   if !go then break
   u:=v
   v:=2*v+1
  l:=hi0+u+1
  r:=hi0+min v mo
 else
  let mo:=hi0+1
  for _ in [0:n] do
   if v>=mo then break
   let some go <- far (hi0-v)|return none
   if go then break
   u:=v
   v:=2*v+1
  l:=hi0+1-min v mo
  r:=hi0-u
 for _ in [0:n] do
  if l>=r then break
  let c:=l+(r-l) / 2
  let some go <- far c|return none
  if go then l:=c+1 else r:=c
 return some r
noncomputable def qn0(lf:Bool)(ke:Keyed)(xs:Array Keyed)(ba i:Nat): StateT SortSt Sem (Option Bool):=do
 let x <- elem' xs (ba+i)
 if lf then lt' x ke else return (<- lt' ke x).map (!·)
theorem qjp(lf:Bool)(ke:Keyed)(xs:Array Keyed)(ba n hi0:Nat): q0v lf ke xs ba n hi0=qhh (qn0 lf ke xs ba) n hi0:=rfl
section
variable{prog:Program}{w:World}{A:Around}{E:Value->Shared->Prop}{s:Shared}{κ : SortKind}{G:Value->Prop}{lt:Value->Value->Bool}
def kz(p:Option Keyed): Value:=match p with|some p=>p.1|none=>.none
theorem q2b{C:Cmp prog w A s κ G lt}{st:SortSt}{x y:Keyed}{Q:Option Bool->SortSt->Prop}(hk:kindOf st = κ)(gx:G x.1)(gy:G y.1)(h:Q (some (lt x.1 y.1)) st):
  wpS (model prog w) A E s (lt' x y) Q st:=by
 rw [lt'_eq];refine gj (g1r ?_);rw [hk];exact gj (wpS_lift (g1d (t7 (C.ask _ _ gx gy (fun b s'=>s'=s/\b=lt x.1 y.1) ⟨rfl,rfl⟩) (fun b s' h'=>by
  obtain⟨rfl,rfl⟩:=h';exact⟨rfl,m5 h⟩) fun _ _ e=>e.elim)))
theorem zd{st:SortSt}{xs:Array Keyed}{i:Nat}{Q:Keyed->SortSt->Prop}(hi:i<xs.size)(h:Q xs[i] st): wpS (model prog w) A E s (elem' xs i) Q st:=by
 rw [elem'_eq,g1n xs i hi];exact m5 h
def far1(lt:Value->Value->Bool)(lf:Bool)(ke x:Keyed): Bool:=if lf then lt x.1 ke.1 else !lt ke.1 x.1
theorem qhi{st:SortSt}{far:Nat->StateT SortSt Sem (Option Bool)}{n hi0:Nat}{Q:Option Nat->SortSt->Prop}(f:Nat->Bool)(hh:hi0<n)
  (hfar:∀i,i<n->∀R:Option Bool->SortSt->Prop,R (some (f i)) st->wpS (model prog w) A E s (far i) R st)
  (mono':∀i j,i<=j->j<n->f j=true->f i=true)
  (h':∀k,k<=n->(∀i,i<k->f i=true)->(∀i,k<=i->i<n->f i=false)->Q (some k) st) :
  wpS (model prog w) A E s (qhh far n hi0) Q st:=by
 unfold qhh;have bin:∀l r,l<=r->r<=n->(∀i,i<l->f i=true)->(∀i,r<=i->i<n->f i=false)->wpS (model prog w) A E s (qmz far n l r) Q st:=by
  intro l r hlr hrn ha hb;unfold qmz;refine gj (td (tm (I:=fun x c st'=>st'=st/\∃l r,c=(none,l,r)/\l<=r/\r<=n/\r-l<=n-x/\(∀i,i<l->f i=true)/\(∀i,r<=i->i<n->f i=false))
   (Q:=fun c st'=>st'=st/\∃r,c=(none,r,r)/\r<=n/\(∀i,i<r->f i=true)/\(∀i,r<=i->i<n->f i=false)) ?_ ?_ ?_) ?_)
  ·rintro x c st' _ hx ⟨rfl,l,r,rfl,h1,h2,h3,h4,h5⟩
   dsimp only
   by_cases hge:l>=r
   ·rw [m4 hge]
    have:l=r:=by omega
    subst this;exact m5 ⟨rfl,l,rfl,h2,h4,h5⟩
   ·rw [m9 hge]
    refine gj (hfar _ (by omega) _ ?_);cases e:f (l+(r-l) / 2)
    ·simp only [m7,nt]
     refine m5 ⟨rfl,_,_,rfl,by omega,by omega,by omega,h4,fun i i1 i2=>?_⟩;cases e':f i
     ·rfl
     ·rw [mono' _ _ i1 i2 e'] at e;cases e
    ·simp only [ny]
     exact m5 ⟨rfl,_,_,rfl,by omega,by omega,by omega,fun i i1=>mono' _ _ (by omega) (by omega) e,h5⟩
  ·rintro c st' ⟨rfl,l,r,rfl,h1,h2,h3,h4,h5⟩
   have:l=r:=by omega
   subst this;exact⟨rfl,l,rfl,h2,h4,h5⟩
  ·exact⟨rfl,l,r,rfl,hlr,hrn,by omega,ha,hb⟩
  ·rintro c st' ⟨rfl,r,rfl,h2,h4,h5⟩
   exact m5 (h' r h2 h4 h5)
 refine gj (hfar hi0 hh _ ?_);dsimp only;cases e0:f hi0
 ·simp only [m7,nt]
  refine gj (td (tm (I:=fun x c st'=>st'=st/\∃u v,c=(none,u,v)/\u<v/\x+1<=v/\u<=hi0/\f (hi0-u)=false)
   (Q:=fun c st'=>st'=st/\∃u v,c=(none,u,v)/\u<v/\u<=hi0/\f (hi0-u)=false/\(v>=hi0+1\/f (hi0-v)=true)) ?_ ?_ ?_) ?_)
  ·rintro x c st' _ hx ⟨rfl,u,v,rfl,h1,h2,h3,h4⟩
   dsimp only
   by_cases hge:v>=hi0+1
   ·rw [m4 hge]
    exact m5 ⟨rfl,u,v,rfl,h1,h3,h4,.inl hge⟩
   ·rw [m9 hge]
    refine gj (hfar _ (by omega) _ ?_);cases e:f (hi0-v)
    ·simp only [m7,nt]
     exact m5 ⟨rfl,v,2*v+1,rfl,by omega,by omega,by omega,e⟩
    ·simp only [ny]
     exact m5 ⟨rfl,u,v,rfl,h1,h3,h4,.inr e⟩
  ·rintro c st' ⟨rfl,u,v,rfl,h1,h2,h3,h4⟩
   exact⟨rfl,u,v,rfl,h1,h3,h4,.inl (by omega)⟩
  ·exact⟨rfl,0,1,rfl,by omega,by omega,by omega,e0⟩
  ·rintro c st' ⟨rfl,u,v,rfl,h1,h3,h4,h5⟩
   dsimp only;refine bin (hi0+1-min v (hi0+1)) (hi0-u) (by omega) (by omega) (fun i hi=>?_) (fun i i1 i2=>?_)
   ·rcases h5 with h5|h5
    ·omega
    ·exact mono' _ _ (by omega) (by omega) h5
   ·cases e':f i
    ·rfl
    ·rw [mono' _ _ i1 i2 e'] at h4;cases h4
 ·simp only [ny]
  refine gj (td (tm (I:=fun x c st'=>st'=st/\∃u v,c=(none,u,v)/\u<v/\x+1<=v/\hi0+u<n/\f (hi0+u)=true)
   (Q:=fun c st'=>st'=st/\∃u v,c=(none,u,v)/\u<v/\hi0+u<n/\f (hi0+u)=true/\(v>=n-hi0\/f (hi0+v)=false)) ?_ ?_ ?_) ?_)
  ·rintro x c st' _ hx ⟨rfl,u,v,rfl,h1,h2,h3,h4⟩
   dsimp only
   by_cases hge:v>=n-hi0
   ·rw [m4 hge]
    exact m5 ⟨rfl,u,v,rfl,h1,h3,h4,.inl hge⟩
   ·rw [m9 hge]
    refine gj (hfar _ (by omega) _ ?_);cases e:f (hi0+v)
    ·simp only [g2x,ny]
     exact m5 ⟨rfl,u,v,rfl,h1,h3,h4,.inr e⟩
    ·simp only [g10,m7,nt]
     exact m5 ⟨rfl,v,2*v+1,rfl,by omega,by omega,by omega,e⟩
  ·rintro c st' ⟨rfl,u,v,rfl,h1,h2,h3,h4⟩
   exact⟨rfl,u,v,rfl,h1,h3,h4,.inl (by omega)⟩
  ·exact⟨rfl,0,1,rfl,by omega,by omega,by omega,e0⟩
  ·rintro c st' ⟨rfl,u,v,rfl,h1,h3,h4,h5⟩
   dsimp only;refine bin (hi0+u+1) (hi0+min v (n-hi0)) (by omega) (by omega) (fun i hi=>mono' _ (hi0+u) (by omega) (by omega) h4) (fun i i1 i2=>?_);rcases h5 with h5|h5
   ·omega
   ·cases e':f i
    ·rfl
    ·by_cases hv:v<=n-hi0
     ·rw [mono' _ _ (show hi0+v<=i by omega) i2 e'] at h5;cases h5
     ·omega
theorem q13(C:Cmp prog w A s κ G lt){st:SortSt}{lf:Bool}{ke:Keyed}{xs:Array Keyed}{ba n hi0:Nat}{Q:Option Nat->SortSt->Prop}(hk:kindOf st = κ)
  (gk:G ke.1) (gx:∀p∈xs.toList,G p.1) (hh:hi0<n) (hn:ba+n<=xs.size)
  (mono:∀i j,(hij:i<=j)->(hj:j<n)->far1 lt lf ke (xs[ba+j]'(by omega))=true->far1 lt lf ke (xs[ba+i]'(by omega))=true)
  (h:∀k,k<=n->(∀i,(hi:i<k)->(hi':i<n)->far1 lt lf ke (xs[ba+i]'(by omega))=true)->(∀i,k<=i->(hi:i<n)->far1 lt lf ke (xs[ba+i]'(by omega))=false)->Q (some k) st) :
  wpS (model prog w) A E s (q0v lf ke xs ba n hi0) Q st:=by
 rw [qjp];obtain⟨f,hf⟩:∃f:Nat->Bool,∀i,(hi:i<n)->f i=far1 lt lf ke (xs[ba+i]'(by omega)):=⟨fun i=>if hi:i<n then far1 lt lf ke (xs[ba+i]'(by omega)) else false,fun i hi=>by simp [hi]⟩
 refine qhi f hh (fun i hi R hR=>?_) (fun i j hij hj e=>?_) (fun k hk1 a b=>?_)
 ·unfold qn0
  refine gj (zd (by omega) ?_);have gi:G (xs[ba+i]'(by omega)).1:=gx _ (by simp);rw [hf i hi] at hR;unfold far1 at hR;cases lf
  ·simp only [m7,nt] at hR ⊢
   exact gj (q2b (C:=C) hk gk gi (m5 hR))
  ·simp only [ny] at hR ⊢
   exact q2b (C:=C) hk gi gk hR
 ·rw [hf i (by omega)];rw [hf j hj] at e
  exact mono i j hij hj e
 ·exact h k hk1 (fun i hi hi'=>by rw [<- hf i hi'];exact a i hi) (fun i hi hi'=>by rw [<- hf i hi'];exact b i hi hi')
end
def le(lt:Value->Value->Bool)(p q:Keyed): Prop:=lt q.1 p.1=false
structure MI(lt:Value->Value->Bool)(la lb o:List Keyed)(ia ib:Nat): Prop where
 perm:o.Perm (la.take ia++lb.take ib)
 ord:o.Pairwise (le lt)
 ua:∀p∈o,∀q∈la.drop ia,le lt p q
 ub:∀p∈o,∀q∈lb.drop ib,le lt p q
section
variable{lt:Value->Value->Bool}{la lb o:List Keyed}{ia ib:Nat}
theorem MI.swap(h:MI lt la lb o ia ib): MI lt lb la o ib ia:=⟨h.perm.trans pq,h.ord,h.ub,h.ua⟩
theorem q7e(sa:la.Pairwise (le lt))(h:ia<la.length): ∀q∈la.drop (ia+1),le lt la[ia] q:=by
 have e:=pd h;have s2:=g1o (i:=ia) sa;rw [e] at s2;exact(g16.mp s2).1
theorem MI.step(m:MI lt la lb o ia ib)(sa:la.Pairwise (le lt))(h:ia<la.length)(hq:∀q∈lb.drop ib,le lt la[ia] q): MI lt la lb (o++[la[ia]]) (ia+1) ib:=by
 have e:=pd h;refine⟨?_,?_,?_,?_⟩
 ·rw [p7 h]
  refine(m.perm.append_right _).trans ?_;rw [mj,mj];exact uh _ pq
 ·refine t8.mpr ⟨m.ord,g0y _ _,fun p hp q hq=>?_⟩
  rw [my.mp hq];exact m.ua p hp _ (by rw [e];exact gw)
 ·intro p hp q hq'
  rcases pb.mp hp with hp|hp
  ·exact m.ua p hp q (by rw [e];exact gq _ hq')
  ·rw [my.mp hp]
   exact q7e sa h q hq'
 ·intro p hp q hq'
  rcases pb.mp hp with hp|hp
  ·exact m.ub p hp q hq'
  ·rw [my.mp hp]
   exact hq q hq'
theorem MI.steps(m:MI lt la lb o ia ib)(sa:la.Pairwise (le lt)): ∀(k:Nat),ia+k<=la.length->(∀i,(hi:i<k)->(hl:ia+i<la.length)->∀q∈lb.drop ib,le lt la[ia+i] q) ->
  MI lt la lb (o++(la.drop ia).take k) (ia+k) ib
 | 0,_,_=>by simpa using m
 | k+1,hk,hq=>by
  have m':=MI.steps m sa k (by omega) (fun i hi hl=>hq i (by omega) hl);have m2:=m'.step sa (by omega) (hq k (by omega) (by omega));have e:(la.drop ia).take (k+1)=(la.drop ia).take k++[la[ia+k]]:=by
   rw [p7 (by simp;omega)];simp
  rw [e, <- mj];exact m2
theorem MI.fin(m:MI lt la lb o ia ib)(sa:la.Pairwise (le lt))(hb:lb.length<=ib): (o++la.drop ia).Perm (la++lb)/\(o++la.drop ia).Pairwise (le lt):=by
 refine⟨?_,t8.mpr ⟨m.ord,g1o sa,m.ua⟩⟩;have:=m.perm;rw [g21 hb] at this;refine(this.append_right _).trans ?_;rw [mj];refine(uh _ pq).trans ?_;rw [<- mj,pz]
theorem MI.last(m:MI lt la lb o ia ib)(sa:la.Pairwise (le lt))(sb:lb.Pairwise (le lt))(hl:∀q∈lb.drop ib,∀p∈la.drop ia,le lt q p):
  (o++lb.drop ib++la.drop ia).Perm (la++lb)/\(o++lb.drop ib++la.drop ia).Pairwise (le lt):=by
 refine⟨?_,t8.mpr ⟨t8.mpr ⟨m.ord,g1o sb,m.ub⟩,g1o sa,fun p hp q hq=>?_⟩⟩
 ·have:=m.perm
  refine((this.append_right _).append_right _).trans ?_;have e1:(la.take ia++lb.take ib++lb.drop ib++la.drop ia)=la.take ia++(lb++la.drop ia):=by
   rw [mj (la.take ia),pz,mj]
  rw [e1];refine(uh _ pq).trans ?_;rw [<- mj,pz]
 ·rcases pb.mp hp with hp|hp
  ·exact m.ua p hp q hq
  ·exact hl p hp q hq
end
abbrev qdp:Array Keyed->Array Keyed->StateT SortSt Sem (Array Keyed):=sortPriv% PySem.Builtin.mergeLo
abbrev q10(g:Nat): StateT SortSt Sem Unit:=modify fun z=>SortSt.mk' (kindOf z) (arrOf z) (pendingOf z) g (failedOf z)
theorem bc{α β : Type}{m:StateT SortSt Sem α}{f g : α -> StateT SortSt Sem β}(h:∀x,f x=g x): m >>= f=m >>= g:=by rw [funext h]
theorem bc2{α β : Type}{m n:StateT SortSt Sem α}{f g : α -> StateT SortSt Sem β}(hm:m=n)(h:∀x,f x=g x): m >>= f=n >>= g:=by rw [hm,funext h]
theorem fc{β : Type}{r:Std.Legacy.Range}{b : β}{f g:Nat -> β -> StateT SortSt Sem (ForInStep β)}(h:∀x u,f x u=g x u): forIn r b f=forIn r b g:=by
 rw [show f=g from funext fun x=>funext fun u=>h x u]
abbrev TI:=Option (Array Keyed)×Array Keyed×Nat×Nat×Nat×Nat
abbrev TG:=Option (Array Keyed)×Array Keyed×Nat×Nat×Nat×Nat×Nat
abbrev TO:=Option (Array Keyed)×Array Keyed×Nat×Nat×Nat
section
variable(a b:Array Keyed)
def fiL(o:Array Keyed)(i j:Nat): Array Keyed:=o++a.extract i a.size++b.extract j b.size
def laL(o:Array Keyed)(i j:Nat): Array Keyed:=o++b.extract j b.size++a.extract i a.size
noncomputable def loI(g:Nat)(t:TI): StateT SortSt Sem (ForInStep TI):=do
 match <- lt' (<- elem' b t.2.2.2.1) (<- elem' a t.2.2.1) with
 | some wi=>
  if wi=true then
   let x <- elem' b t.2.2.2.1
   if(t.2.2.2.1+1==b.size)=true then pure (.done (some (fiL a b (t.2.1.push x) t.2.2.1 (t.2.2.2.1+1)),t.2.1.push x,t.2.2.1,t.2.2.2.1+1,0,t.2.2.2.2.2+1))
   else if t.2.2.2.2.2+1>=g then pure (.done (none,t.2.1.push x,t.2.2.1,t.2.2.2.1+1,0,t.2.2.2.2.2+1))
   else pure (.yield (none,t.2.1.push x,t.2.2.1,t.2.2.2.1+1,0,t.2.2.2.2.2+1))
  else
   let x <- elem' a t.2.2.1
   if(t.2.2.1+1+1==a.size)=true then pure (.done (some (laL a b (t.2.1.push x) (t.2.2.1+1) t.2.2.2.1),t.2.1.push x,t.2.2.1+1,t.2.2.2.1,t.2.2.2.2.1+1,0))
   else if t.2.2.2.2.1+1>=g then pure (.done (none,t.2.1.push x,t.2.2.1+1,t.2.2.2.1,t.2.2.2.2.1+1,0))
   else pure (.yield (none,t.2.1.push x,t.2.2.1+1,t.2.2.2.1,t.2.2.2.2.1+1,0))
 | _=>pure (.done (some (fiL a b t.2.1 t.2.2.1 t.2.2.2.1),t.2.1,t.2.2.1,t.2.2.2.1,t.2.2.2.2.1,t.2.2.2.2.2))
noncomputable def loD(o:Array Keyed)(i j g c d:Nat): StateT SortSt Sem (ForInStep TG):=do
 let x <- elem' a i
 if(i+1+1==a.size)=true then pure (.done (some (laL a b (o.push x) (i+1) j),o.push x,i+1,j,g,c,d))
 else if(decide (c<7)&&decide (d<7))=true then pure (.done (none,o.push x,i+1,j,g,c,d))
 else pure (.yield (none,o.push x,i+1,j,g,c,d))
noncomputable def loC(o:Array Keyed)(i j g c d:Nat): StateT SortSt Sem (ForInStep TG):=do
 let x <- elem' b j
 if(j+1==b.size)=true then pure (.done (some (fiL a b (o.push x) i (j+1)),o.push x,i,j+1,g,c,d))
 else do
  match <- q0v true (<- elem' a i) b (j+1) (b.size-(j+1)) 0 with
  | some k=>
   if k>0 then
    if(j+1+k==b.size)=true then pure (.done (some (fiL a b (o.push x++b.extract (j+1) (j+1+k)) i (j+1+k)),o.push x++b.extract (j+1) (j+1+k),i,j+1+k,g,c,k))
    else loD a b (o.push x++b.extract (j+1) (j+1+k)) i (j+1+k) g c k
   else loD a b (o.push x) i (j+1) g c k
  | _=>pure (.done (some (fiL a b (o.push x) i (j+1)),o.push x,i,j+1,g,c,d))
noncomputable def loB(o:Array Keyed)(i j g c d:Nat): StateT SortSt Sem (ForInStep TG):=do
 q10 g
 match <- q0v false (<- elem' b j) a i (a.size-i) 0 with
 | some k=>
  if k>0 then
   if(i+k+1==a.size)=true then pure (.done (some (laL a b (o++a.extract i (i+k)) (i+k) j),o++a.extract i (i+k),i+k,j,g,k,d))
   else if(i+k==a.size)=true then pure (.done (some (fiL a b (o++a.extract i (i+k)) (i+k) j),o++a.extract i (i+k),i+k,j,g,k,d))
   else loC a b (o++a.extract i (i+k)) (i+k) j g k d
  else loC a b o i j g k d
 | _=>pure (.done (some (fiL a b o i j),o,i,j,g,c,d))
noncomputable def loG(t:TG): StateT SortSt Sem (ForInStep TG):=
 if t.2.2.2.2.1>1 then loB a b t.2.1 t.2.2.1 t.2.2.2.1 (t.2.2.2.2.1-1) t.2.2.2.2.2.1 t.2.2.2.2.2.2 else loB a b t.2.1 t.2.2.1 t.2.2.2.1 t.2.2.2.2.1 t.2.2.2.2.2.1 t.2.2.2.2.2.2
noncomputable def loO(t:TO): StateT SortSt Sem (ForInStep TO):=do
 let u <- forIn [0:a.size+b.size] ((none,t.2.1,t.2.2.1,t.2.2.2.1,0,0):TI) fun _=>loI a b t.2.2.2.2
 match u.1 with
 | some r=>pure (.done (some r,u.2.1,u.2.2.1,u.2.2.2.1,t.2.2.2.2))
 | none=>do
  rule "list.sort.gallop"
  let v <- forIn [0:a.size+b.size] ((none,u.2.1,u.2.2.1,u.2.2.2.1,t.2.2.2.2+1,u.2.2.2.2.1,u.2.2.2.2.2):TG) fun _=>loG a b
  match v.1 with
  | some r=>pure (.done (some r,v.2.1,v.2.2.1,v.2.2.2.1,v.2.2.2.2.1))
  | none=>do
   q10 (v.2.2.2.2.1+1)
   pure (.yield (none,v.2.1,v.2.2.1,v.2.2.2.1,v.2.2.2.2.1+1))
end
theorem qhj(a b:Array Keyed): qdp a b=(do
 rule "list.sort.merge-lo"
 let all:=a.size+b.size
 let fi (o:Array Keyed) (i j:Nat):=o++a.extract i a.size++b.extract j b.size
 let la (o:Array Keyed) (i j:Nat):=o++b.extract j b.size++a.extract i a.size
 let mut o:Array Keyed:= #[<- elem' b 0]
 let mut i:=0
 let mut j:=1
 if j==b.size then return fi o i j
 if i+1==a.size then return la o i j
 let mut g:=gallopOf (<- get)
 for _ in [0:all] do
  let mut c:=0
  let mut d:=0
  for _ in [0:all] do
   let some wi <- lt' (<- elem' b j) (<- elem' a i)|return fi o i j
   if wi then
    o:=o.push (<- elem' b j);j:=j+1;d:=d+1;c:=0
    if j==b.size then return fi o i j
    if d>=g then break
   else
    o:=o.push (<- elem' a i);i:=i+1;c:=c+1;d:=0
    if i+1==a.size then return la o i j
    if c>=g then break
  rule "list.sort.gallop"
  g:=g+1
  for _ in [0:all] do
   if g>1 then g:=g-1
   q10 g
   let some k <- q0v false (<- elem' b j) a i (a.size-i) 0|return fi o i j
   c:=k
   if k>0 then
    o:=o++a.extract i (i+k);i:=i+k
    if i+1==a.size then return la o i j
    if i==a.size then return fi o i j
   o:=o.push (<- elem' b j);j:=j+1
   if j==b.size then return fi o i j
   let some k <- q0v true (<- elem' a i) b j (b.size-j) 0|return fi o i j
   d:=k
   if k>0 then
    o:=o++b.extract j (j+k);j:=j+k
    if j==b.size then return fi o i j
   o:=o.push (<- elem' a i);i:=i+1
   if i+1==a.size then return la o i j
   if c<7&&d<7 then break
  g:=g+1
  q10 g
 unsupported "internal:list.sort.merge-bound"):=rfl
theorem qjq (a b:Array Keyed):qdp a b=(do
 rule "list.sort.merge-lo"
 let x <- elem' b 0
 if(1==b.size)=true then return fiL a b #[x] 0 1
 if(0+1==a.size)=true then return laL a b #[x] 0 1
 let z <- get
 let t <- forIn [0:a.size+b.size] ((none, #[x],0,1,gallopOf z):TO) fun _=>loO a b
 match t.1 with
 | some r=>pure r
 | none=>unsupported "internal:list.sort.merge-bound"):=by
 rw [qhj];dsimp only;refine bc fun _=>bc fun x=>tw rfl (fun _=>rfl) fun _=>tw rfl (fun _=>rfl) fun _=>bc fun z=>bc2 (fc fun _ t=>?_) fun t=>?_
 ·unfold loO
  refine bc2 (fc fun _ u=>?_) fun u=>?_
  ·rfl
  ·cases e:u.1 with
   | some r=>rfl
   | none=>
    refine bc fun _=>bc2 (fc fun _ v=>?_) fun v=>?_
    ·unfold loG
     refine tw rfl (fun _=>?_) (fun _=>?_)
     all_goals
      unfold loB;refine bc fun _=>bc fun y=>bc fun k=>?_;cases k with
      | none=>rfl
      | some k=>
       dsimp only;refine tw rfl (fun _=>tw rfl (fun _=>rfl) fun _=>tw rfl (fun _=>rfl) fun _=>?_) (fun _=>?_)
       all_goals
        unfold loC;refine bc fun y=>tw rfl (fun _=>rfl) fun _=>bc fun y=>bc fun k=>?_;cases k with
        | none=>rfl
        | some k=>rfl
    ·cases e:v.1 <;> rfl
 ·cases e:t.1 <;> rfl
def Eg(st st':SortSt): Prop:=kindOf st'=kindOf st/\arrOf st'=arrOf st/\pendingOf st'=pendingOf st/\failedOf st'=failedOf st
theorem Eg.rfl'(st:SortSt): Eg st st:=⟨rfl,rfl,rfl,rfl⟩
theorem Eg.trans{a b c:SortSt}(h:Eg a b)(k:Eg b c): Eg a c:=⟨k.1.trans h.1,k.2.1.trans h.2.1,k.2.2.1.trans h.2.2.1,k.2.2.2.trans h.2.2.2⟩
section
variable{prog:Program}{w:World}{A:Around}{E:Value->Shared->Prop}{s:Shared}{κ : SortKind}{G:Value->Prop}{lt:Value->Value->Bool}
theorem q2r{st:SortSt}{g:Nat}{Q:Unit->SortSt->Prop}(h:∀st',Eg st st'->Q () st'): wpS (model prog w) A E s (q10 g) Q st:=g2l (h _ ⟨rfl,rfl,rfl,rfl⟩)
variable{a b:Array Keyed}
def Rm(lt:Value->Value->Bool)(a b r:Array Keyed): Prop:=r.toList.Perm (a.toList++b.toList)/\r.toList.Pairwise (le lt)
structure Mh(G:Value->Prop)(lt:Value->Value->Bool)(a b:Array Keyed): Prop where
 ga:∀p∈a.toList,G p.1
 gb:∀p∈b.toList,G p.1
 sa:a.toList.Pairwise (le lt)
 sb:b.toList.Pairwise (le lt)
 ha:1<=a.size
 hb:1<=b.size
 first:∀q∈a.toList,lt (b[0]'hb).1 q.1=true
 last:∀q∈b.toList,lt q.1 (a[a.size-1]'(by lia)).1=true
def OkM(lt:Value->Value->Bool)(a b:Array Keyed)(n:Nat)(x:Option (Array Keyed))(o:Array Keyed)(i j:Nat): Prop:=match x with
 | some r=>Rm lt a b r
 | none=>MI lt a.toList b.toList o.toList i j/\i+1<a.size/\j<b.size/\n<=i+j
theorem q2s(x:Array Keyed)(i:Nat): (x.extract i x.size).toList=x.toList.drop i:=by
 rw [uv];show(x.toList.drop i).take (x.size-i)=_;exact g21 (by simp)
theorem fiR{o:Array Keyed}{i j:Nat}(m:MI lt a.toList b.toList o.toList i j)(sa:a.toList.Pairwise (le lt))(hj:j=b.size): Rm lt a b (fiL a b o i j):=by
 have:=m.fin sa (by simp;lia);unfold Rm fiL;subst hj;have e:(o++a.extract i a.size++b.extract b.size b.size).toList=o.toList++a.toList.drop i:=by
  rw [p5,p5,q2s,q2s];simp
 rw [e];exact this
theorem laR{o:Array Keyed}{i j:Nat}(H:Mh G lt a b)(C:Cmp prog w A s κ G lt)(m:MI lt a.toList b.toList o.toList i j)(hi:i+1=a.size): Rm lt a b (laL a b o i j):=by
 have e1:a.toList.drop i=[a[i]'(by lia)]:=by
  rw [pd (by simp;lia)];simp;lia
 have:=m.last H.sa H.sb (fun q hq p hp=>by
  rw [e1] at hp;rw [my.mp hp];have h1:=H.last q (g2m hq);have e2:a[a.size-1]'(by have:=H.ha;lia)=a[i]'(by lia):=by congr 1;lia
  rw [e2] at h1;exact C.asy _ _ h1)
 unfold Rm laL;have e:(o++b.extract j b.size++a.extract i a.size).toList=o.toList++b.toList.drop j++a.toList.drop i:=by
  rw [p5,p5,q2s,q2s]
 rw [e];exact this
theorem qfi(C:Cmp prog w A s κ G lt){x y z:Keyed}(h:le lt x y)(k:le lt y z): le lt x z:=C.tra _ _ _ h k
theorem q4p(C:Cmp prog w A s κ G lt){l:List Keyed}(sl:l.Pairwise (le lt)){i:Nat}(hi:i<l.length){x:Keyed}(h:le lt x l[i]): ∀q∈l.drop i,le lt x q:=by
 intro q hq;rw [pd hi] at hq;rcases mw.mp hq with rfl|hq
 ·exact h
 ·exact qfi C h (q7e sl hi q hq)
theorem q6f{l:List Keyed}(C:Cmp prog w A s κ G lt)(hr:∀x:Keyed,lt x.1 x.1=false)(sl:l.Pairwise (le lt)){i j:Nat}(hij:i<=j)(hj:j<l.length): le lt (l[i]'(by lia)) l[j]:=by
 rcases g4j i j with h|h
 ·exact g3i.mp sl i j (by lia) hj h
 ·have:i=j:=by lia
  subst this;exact hr _
theorem Cmp.irr(C:Cmp prog w A s κ G lt)(x:Value): lt x x=false:=by
 cases e:lt x x
 ·rfl
 ·have:=C.asy _ _ e;rw [e] at this;cases this
theorem qjr(C:Cmp prog w A s κ G lt)(H:Mh G lt a b){st:SortSt}{g n c d:Nat}{o:Array Keyed}{i j:Nat}(hk:kindOf st = κ)(h:OkM lt a b n none o i j):
  wpS (model prog w) A E s (loI a b g (none,o,i,j,c,d)) (fun r st'=>st'=st/\match r with
   | .done u=>OkM lt a b (n+1) u.1 u.2.1 u.2.2.1 u.2.2.2.1
   | .yield u=>u.1=none/\OkM lt a b (n+1) none u.2.1 u.2.2.1 u.2.2.2.1) st:=by
 obtain⟨m,hi,hj,hn⟩:=h;unfold loI;dsimp only;refine gj (zd hj (gj (zd (by lia) (gj (q2b (C:=C) hk (H.gb _ (by simp)) (H.ga _ (by simp)) ?_)))));dsimp only;cases e:lt (b[j]).1 (a[i]).1
 ·simp only [m7,nt]
  refine gj (zd (by lia) ?_);have m2:MI lt a.toList b.toList (o.push a[i]).toList (i+1) j:=by
   have:=m.step H.sa (by simp;lia) (q4p C H.sb (by simp;lia) (i:=j) (x:=a.toList[i]'(by simp;lia)) (by simpa [le] using e))
   simpa using this
  split
  ·rename_i e2
   exact m5 ⟨rfl,laR H C m2 (by simpa using e2)⟩
  ·rename_i e2
   have e2':i+1+1≠a.size:=by simpa using e2
   split
   ·exact m5 ⟨rfl,m2,by first|lia|(dsimp only;lia),hj,by first|lia|(dsimp only;lia)⟩
   ·exact m5 ⟨rfl,rfl,m2,by first|lia|(dsimp only;lia),hj,by first|lia|(dsimp only;lia)⟩
 ·simp only [ny]
  refine gj (zd hj ?_);have m2:MI lt a.toList b.toList (o.push b[j]).toList i (j+1):=by
   have:=m.swap.step H.sb (by simp;lia) (q4p C H.sa (by simp;lia) (i:=i) (x:=b.toList[j]'(by simp;lia)) (by have:=C.asy _ _ e;simpa [le] using this))
   simpa using this.swap
  split
  ·rename_i e2
   exact m5 ⟨rfl,fiR m2 H.sa (by simpa using e2)⟩
  ·rename_i e2
   have e2':j+1≠b.size:=by simpa using e2
   split
   ·exact m5 ⟨rfl,m2,by first|lia|(dsimp only;lia),by first|lia|(dsimp only;lia),by first|lia|(dsimp only;lia)⟩
   ·exact m5 ⟨rfl,rfl,m2,by first|lia|(dsimp only;lia),by first|lia|(dsimp only;lia),by first|lia|(dsimp only;lia)⟩
abbrev QG(lt:Value->Value->Bool)(a b:Array Keyed)(n:Nat)(st:SortSt): ForInStep TG->SortSt->Prop:=fun r st'=>Eg st st'/\match r with
   | .done u=>OkM lt a b n u.1 u.2.1 u.2.2.1 u.2.2.2.1
   | .yield u=>u.1=none/\OkM lt a b n none u.2.1 u.2.2.1 u.2.2.2.1
theorem qca(C:Cmp prog w A s κ G lt)(H:Mh G lt a b){st:SortSt}{n g c d:Nat}{o:Array Keyed}{i j:Nat}(m:MI lt a.toList b.toList o.toList i j)(hi:i+1<a.size)(hj:j<b.size)(hn:n<=i+j)
  (hq:∀q∈b.toList.drop j,le lt a[i] q):wpS (model prog w) A E s (loD a b o i j g c d) (QG lt a b n st) st:=by
 unfold loD;refine gj (zd (by lia) ?_);have m2:MI lt a.toList b.toList (o.push a[i]).toList (i+1) j:=by
  have:=m.step H.sa (by simp;lia) (by simpa using hq)
  simpa using this
 split
 ·rename_i e2
  exact m5 ⟨Eg.rfl' _,laR H C m2 (by simpa using e2)⟩
 ·rename_i e2
  have e2':i+1+1≠a.size:=by simpa using e2
  split
  ·exact m5 ⟨Eg.rfl' _,m2,by first|lia|(dsimp only;lia),hj,by first|lia|(dsimp only;lia)⟩
  ·exact m5 ⟨Eg.rfl' _,rfl,m2,by first|lia|(dsimp only;lia),hj,by first|lia|(dsimp only;lia)⟩
theorem qcb(C:Cmp prog w A s κ G lt)(H:Mh G lt a b){st:SortSt}{n g c d:Nat}{o:Array Keyed}{i j:Nat}(hk:kindOf st = κ)(m:MI lt a.toList b.toList o.toList i j)(hi:i+1<a.size)(hj:j<b.size)(hn:n<=i+j)
  (hq:∀q∈a.toList.drop i,le lt b[j] q):wpS (model prog w) A E s (loC a b o i j g c d) (QG lt a b n st) st:=by
 unfold loC;refine gj (zd hj ?_);have m2:MI lt a.toList b.toList (o.push b[j]).toList i (j+1):=by
  have:=m.swap.step H.sb (by simp;lia) (by simpa using hq)
  simpa using this.swap
 split
 ·rename_i e2
  exact m5 ⟨Eg.rfl' _,fiR m2 H.sa (by simpa using e2)⟩
 ·rename_i e2
  have e2':j+1≠b.size:=by simpa using e2
  refine gj (zd (by lia) (gj (q13 C hk (H.ga _ (by simp)) H.gb (by lia) (by lia) (fun x y hxy hy h1=>?_) fun k hk1 k1 k2=>?_)))
  ·simp only [far1,ny] at h1 ⊢
   have hle:=q6f C (fun x=>C.irr _) H.sb (i:=j+1+x) (j:=j+1+y) (by lia) (by simp;lia);cases e3:lt (b[j+1+x]'(by lia)).1 (a[i]).1
   ·have:=C.tra _ _ _ e3 (by simpa [le] using hle)
    rw [this] at h1;cases h1
   ·rfl
  ·dsimp only
   have k1':∀x,(hx:x<k)->(hb:j+1+x<b.size)->lt (b[j+1+x]).1 (a[i]).1=true:=fun x hx hb=>by
    have:=k1 x hx (by lia);simpa [far1] using this
   have k2':∀q∈b.toList.drop (j+1+k),le lt a[i] q:=by
    intro q hq';obtain⟨y,hy,rfl⟩:=t9.mp hq';simp only [uo,ng] at hy;have:=k2 (k+y) (by lia) (by lia);simp only [far1,ny] at this;simp only [List.getElem_drop,g2n,le];rw [<- this]
    congr 3;lia
   split
   ·have m3:MI lt a.toList b.toList (o.push b[j]++b.extract (j+1) (j+1+k)).toList i (j+1+k):=by
     have:=m2.swap.steps H.sb k (by simp;lia) (fun x hx hl=>q4p C H.sa (i:=i) (by simp;lia) (by
      have:=C.asy _ _ (k1' x hx (by simpa using hl))
      simpa [le] using this))
     have e4:(o.push b[j]++b.extract (j+1) (j+1+k)).toList=(o.push b[j]).toList++(b.toList.drop (j+1)).take k:=by
      rw [p5,uv];simp [List.extract]
     rw [e4];exact this.swap
    split
    ·rename_i e5
     exact m5 ⟨Eg.rfl' _,fiR m3 H.sa (by simpa using e5)⟩
    ·rename_i e5
     have e5':j+1+k≠b.size:=by simpa using e5
     exact qca C H m3 hi (by lia) (by lia) k2'
   ·rename_i e5
    have:k=0:=by lia
    subst this;exact qca C H m2 hi (by lia) (by lia) k2'
theorem qjs(C:Cmp prog w A s κ G lt)(H:Mh G lt a b){st:SortSt}{n g c d:Nat}{o:Array Keyed}{i j:Nat}(hk:kindOf st = κ)(h:OkM lt a b n none o i j):
  wpS (model prog w) A E s (loB a b o i j g c d) (QG lt a b n st) st:=by
 obtain⟨m,hi,hj,hn⟩:=h;unfold loB;refine gj (q2r fun st' eg=>?_);have hk':kindOf st' = κ :=eg.1.trans hk;have up:∀r st'',QG lt a b n st' r st''->QG lt a b n st r st'':=fun r st'' q=>⟨eg.trans q.1,q.2⟩
 refine gj (zd hj (gj (q13 C hk' (H.gb _ (by simp)) H.ga (by lia) (by lia) (fun x y hxy hy h1=>?_) fun k hk1 k1 k2=>?_)))
 ·simp only [far1,m7,nt,g1w] at h1 ⊢
  have hle:=q6f C (fun x=>C.irr _) H.sa (i:=i+x) (j:=i+y) (by lia) (by simp;lia);exact C.tra _ _ _ (by simpa [le] using hle) h1
 ·dsimp only
  have k1':∀x,(hx:x<k)->(hb:i+x<a.size)->lt (b[j]).1 (a[i+x]).1=false:=fun x hx hb=>by
   have:=k1 x hx (by lia);simpa [far1] using this
  have hlt:i+k<a.size:=by
   rcases g4j (i+k) a.size with h1|h1
   ·exact h1
   ·have h2:=k1' (a.size-1-i) (by lia) (by lia)
    have h3:=H.last b[j] (by simp);have e2:a[i+(a.size-1-i)]'(by lia)=a[a.size-1]'(by lia):=by congr 1;lia
    rw [e2,h3] at h2;cases h2
  have k2':∀q∈a.toList.drop (i+k),le lt b[j] q:=by
   intro q hq';obtain⟨y,hy,rfl⟩:=t9.mp hq';simp only [uo,ng] at hy;have:=k2 (k+y) (by lia) (by lia);simp only [far1,m7,nt,g1m] at this;have:=C.asy _ _ this;simp only [List.getElem_drop,g2n,le];rw [<- this]
   congr 3;lia
  split
  ·have m3:MI lt a.toList b.toList (o++a.extract i (i+k)).toList (i+k) j:=by
    have:=m.steps H.sa k (by simp;lia) (fun x hx hl=>q4p C H.sb (i:=j) (by simp;lia) (by
     have:=k1' x hx (by simpa using hl)
     simpa [le] using this))
    have e4:(o++a.extract i (i+k)).toList=o.toList++(a.toList.drop i).take k:=by
     rw [p5,uv];simp [List.extract]
    rw [e4];exact this
   split
   ·rename_i e5
    exact m5 (up _ _ ⟨Eg.rfl' _,laR H C m3 (by simpa using e5)⟩)
   ·rename_i e5
    have e5':i+k+1≠a.size:=by simpa using e5
    split
    ·rename_i e6
     have e6':i+k=a.size:=by simpa using e6
     lia
    ·exact td (qcb C H hk' m3 (by lia) hj (by lia) k2') up
  ·rename_i e5
   have:k=0:=by lia
   subst this;exact td (qcb C H hk' m hi hj (by lia) k2') up
theorem qjt(C:Cmp prog w A s κ G lt)(H:Mh G lt a b){st:SortSt}{n:Nat}{t:TO}(ht:t.1=none)(hk:kindOf st = κ)(h:OkM lt a b n none t.2.1 t.2.2.1 t.2.2.2.1):
  wpS (model prog w) A E s (loO a b t) (fun r st'=>Eg st st'/\match r with
   | .done u=>(∃x,u.1=some x)/\OkM lt a b (n+1) u.1 u.2.1 u.2.2.1 u.2.2.2.1
   | .yield u=>u.1=none/\OkM lt a b (n+1) none u.2.1 u.2.2.1 u.2.2.2.1) st:=by
 unfold loO;refine gj (td (tm (I:=fun x u st'=>st'=st/\u.1=none/\OkM lt a b (n+x) none u.2.1 u.2.2.1 u.2.2.2.1)
  (Q:=fun u st'=>st'=st/\OkM lt a b (n+1) u.1 u.2.1 u.2.2.1 u.2.2.2.1) ?_ ?_ ⟨rfl,rfl,h⟩) ?_)
 ·rintro x ⟨u1,o,i,j,c,d⟩ st' _ hx ⟨rfl,rfl,h'⟩
  refine td (qjr C H hk h') ?_
  rintro r st'' ⟨rfl,hr⟩
  cases r with
  | done u=>
   refine⟨rfl,?_⟩;dsimp only at hr ⊢;unfold OkM at hr ⊢
   split at hr
   ·exact hr
   ·exact⟨hr.1,hr.2.1,hr.2.2.1,by lia⟩
  | yield u=>exact⟨rfl,hr.1,hr.2.1,hr.2.2.1,hr.2.2.2.1,by have:=hr.2.2.2.2;lia⟩
 ·rintro u st' ⟨rfl,hu,m,h1,h2,h3⟩
  rw [hu];exact⟨rfl,m,h1,h2,by lia⟩
 ·rintro⟨u1,o,i,j,c,d⟩ st' ⟨rfl,hu⟩
  cases u1 with
  | some r=>exact m5 ⟨Eg.rfl' _,⟨r,rfl⟩,hu⟩
  | none=>
   dsimp only at hu ⊢;refine gj (wpS_lift (g06 ⟨rfl,?_⟩));refine gj (td (tm (I:=fun x v st''=>Eg st' st''/\v.1=none/\OkM lt a b (n+1) none v.2.1 v.2.2.1 v.2.2.2.1)
    (Q:=fun v st''=>Eg st' st''/\OkM lt a b (n+1) v.1 v.2.1 v.2.2.1 v.2.2.2.1) ?_ ?_ ⟨Eg.rfl' _,rfl,hu⟩) ?_)
   ·rintro x ⟨v1,o,i,j,g,c,d⟩ st'' _ hx ⟨eg,rfl,h'⟩
    unfold loG;dsimp only at h' ⊢;have key:∀g',wpS (model prog w) A E s (loB a b o i j g' c d) (fun r st3=>match r with
      | .done v=>Eg st' st3/\OkM lt a b (n+1) v.1 v.2.1 v.2.2.1 v.2.2.2.1
      | .yield v=>Eg st' st3/\v.1=none/\OkM lt a b (n+1) none v.2.1 v.2.2.1 v.2.2.2.1) st'':=by
     intro g';refine td (qjs C H (eg.1.trans hk) h') ?_
     rintro r st3 ⟨eg3,hr⟩
     cases r with
     | done v=>exact⟨eg.trans eg3,hr⟩
     | yield v=>exact⟨eg.trans eg3,hr⟩
    split
    ·exact td (key _) fun r st3 hr=>by cases r <;> exact hr
    ·exact td (key _) fun r st3 hr=>by cases r <;> exact hr
   ·rintro v st'' ⟨eg,hv,h'⟩
    rw [hv];exact⟨eg,h'⟩
   ·rintro⟨v1,o,i,j,g,c,d⟩ st'' ⟨eg,hv⟩
    cases v1 with
    | some r=>exact m5 ⟨eg,⟨r,rfl⟩,hv⟩
    | none=>
     dsimp only at hv ⊢;exact gj (q2r fun st3 eg3=>m5 ⟨eg.trans eg3,rfl,hv⟩)
theorem qju(C:Cmp prog w A s κ G lt)(H:Mh G lt a b){st:SortSt}{Q:Array Keyed->SortSt->Prop}(hk:kindOf st = κ)(h:∀r st',Eg st st'->Rm lt a b r->Q r st'):
  wpS (model prog w) A E s (qdp a b) Q st:=by
 rw [qjq];refine gj (wpS_lift (g06 ⟨rfl,?_⟩));have hb:=H.hb;have ha:=H.ha;refine gj (zd (by lia) ?_);have m:MI lt a.toList b.toList (#[b[0]]:Array Keyed).toList 0 1:=by
  refine⟨?_,?_,?_,?_⟩
  ·have e:b.toList.take 1=[b[0]]:=by
    rw [show(1:Nat)=0+1 from rfl,p7 (by simp;lia)];simp
   rw [e];simp
  ·simp
  ·intro p hp q hq
   have:p=b[0]:=by simpa using hp
   subst this;exact C.asy _ _ (H.first q (by simpa using hq))
  ·intro p hp q hq
   have:p=b[0]:=by simpa using hp
   subst this;have:=q7e H.sb (ia:=0) (by simp;lia) q hq
   simpa using this
 split
 ·rename_i e
  exact m5 (h _ _ (Eg.rfl' _) (fiR m H.sa (by simpa using e)))
 ·rename_i e
  have e':1≠b.size:=by simpa using e
  split
  ·rename_i e2
   exact m5 (h _ _ (Eg.rfl' _) (laR H C m (by simpa using e2)))
  ·rename_i e2
   have e2':1≠a.size:=by simpa using e2
   refine gj (g1r ?_);refine gj (td (tm (I:=fun x u st'=>Eg st st'/\u.1=none/\OkM lt a b x none u.2.1 u.2.2.1 u.2.2.2.1)
    (Q:=fun u st'=>Eg st st'/\∃r,u.1=some r/\Rm lt a b r) ?_ ?_ ⟨Eg.rfl' _,rfl,m,by first|lia|(dsimp only;lia),by first|lia|(dsimp only;lia),by first|lia|(dsimp only;lia)⟩) ?_)
   ·rintro x t st' _ hx ⟨eg,ht,h'⟩
    refine td (qjt C H ht (eg.1.trans hk) h') ?_
    rintro r st'' ⟨eg2,hr⟩
    cases r with
    | done u=>
     obtain⟨⟨r,hr1⟩,hr2⟩:=hr;rw [hr1] at hr2;exact⟨eg.trans eg2,r,hr1,hr2⟩
    | yield u=>exact⟨eg.trans eg2,hr.1,hr.2⟩
   ·rintro u st' ⟨eg,hu,_,h1,h2,h3⟩
    lia
   ·rintro⟨u1,u2⟩ st' ⟨eg,r,hr,hR⟩
    cases hr;exact m5 (h _ _ eg hR)
end
structure MJ(lt:Value->Value->Bool)(la lb o:List Keyed)(ia ib:Nat): Prop where
 perm:o.Perm (la.drop ia++lb.drop ib)
 ord:o.Pairwise (fun p q=>le lt q p)
 ua:∀p∈o,∀q∈la.take ia,le lt q p
 ub:∀p∈o,∀q∈lb.take ib,le lt q p
section
variable{lt:Value->Value->Bool}{la lb o:List Keyed}{ia ib:Nat}
theorem MJ.swap(h:MJ lt la lb o ia ib): MJ lt lb la o ib ia:=⟨h.perm.trans pq,h.ord,h.ub,h.ua⟩
theorem q7f(sa:la.Pairwise (le lt))(h:ia<la.length): ∀q∈la.take ia,le lt q la[ia]:=by
 have s2:=g1p (i:=ia+1) sa;rw [p7 h] at s2;intro q hq;exact(t8.mp s2).2.2 q hq _ (my.mpr rfl)
theorem MJ.step(m:MJ lt la lb o (ia+1) ib)(sa:la.Pairwise (le lt))(h:ia<la.length)(hq:∀q∈lb.take ib,le lt q la[ia]): MJ lt la lb (o++[la[ia]]) ia ib:=by
 have e:=pd h;have e2:=p7 h;refine⟨?_,?_,?_,?_⟩
 ·rw [e]
  refine(m.perm.append_right _).trans ?_;refine pq.trans ?_;exact List.Perm.refl _
 ·refine t8.mpr ⟨m.ord,g0y _ _,fun p hp q hq=>?_⟩
  rw [my.mp hq];exact m.ua p hp _ (by rw [e2];exact nj _ (my.mpr rfl))
 ·intro p hp q hq'
  rcases pb.mp hp with hp|hp
  ·exact m.ua p hp q (by rw [e2];exact g2c _ hq')
  ·rw [my.mp hp]
   exact q7f sa h q hq'
 ·intro p hp q hq'
  rcases pb.mp hp with hp|hp
  ·exact m.ub p hp q hq'
  ·rw [my.mp hp]
   exact hq q hq'
theorem MJ.steps(m:MJ lt la lb o ia ib)(sa:la.Pairwise (le lt))(hia:ia<=la.length): ∀(k:Nat),k<=ia->(∀i,(h1:ia-k<=i)->(h2:i<ia)->∀q∈lb.take ib,le lt q (la[i]'(by lia))) ->
  MJ lt la lb (o++((la.drop (ia-k)).take k).reverse) (ia-k) ib
 | 0,_,_=>by simpa using m
 | k+1,hk,hq=>by
  have m':=MJ.steps m sa hia k (by lia) (fun i h1 h2=>hq i (by lia) h2);have e0:ia-k=ia-(k+1)+1:=by lia
  rw [e0] at m';have m2:=m'.step sa (by lia) (hq (ia-(k+1)) (by lia) (by lia));have e:((la.drop (ia-(k+1))).take (k+1)).reverse=((la.drop (ia-(k+1)+1)).take k).reverse++[la[ia-(k+1)]]:=by
   rw [pd (by lia),List.take_succ_cons,List.reverse_cons]
  rw [e, <- mj];exact m2
theorem qcc{o:List Keyed}(h:o.Pairwise (fun p q=>le lt q p)): o.reverse.Pairwise (le lt):=List.pairwise_reverse.mpr h
theorem MJ.fin(m:MJ lt la lb o ia ib)(sb:lb.Pairwise (le lt))(ha:ia=0): (lb.take ib++o.reverse).Perm (la++lb)/\(lb.take ib++o.reverse).Pairwise (le lt):=by
 subst ha;refine⟨?_,t8.mpr ⟨g1p sb,qcc m.ord,fun q hq p hp=>m.ub p (List.mem_reverse.mp hp) q hq⟩⟩;have:=m.perm;rw [g2v] at this;refine(uh _ ((List.reverse_perm _).trans this)).trans ?_;refine pq.trans ?_;rw [mj];refine uh _ ?_;exact pq.trans (by rw [pz])
theorem MJ.last(m:MJ lt la lb o ia ib)(sa:la.Pairwise (le lt))(sb:lb.Pairwise (le lt))(hl:∀q∈lb.take ib,∀p∈la.take ia,le lt q p):
  (lb.take ib++la.take ia++o.reverse).Perm (la++lb)/\(lb.take ib++la.take ia++o.reverse).Pairwise (le lt):=by
 refine⟨?_,t8.mpr ⟨t8.mpr ⟨g1p sb,g1p sa,hl⟩,qcc m.ord,fun q hq p hp=>?_⟩⟩
 ·refine(uh _ ((List.reverse_perm _).trans m.perm)).trans ?_
  rw [mj, <- mj (la.take ia),pz];refine(uh _ pq).trans ?_;rw [<- mj,pz];exact pq
 ·have hp':=List.mem_reverse.mp hp
  rcases pb.mp hq with hq|hq
  ·exact m.ub p hp' q hq
  ·exact m.ua p hp' q hq
end
abbrev qdq:Array Keyed->Array Keyed->StateT SortSt Sem (Array Keyed):=sortPriv% PySem.Builtin.mergeHi
abbrev TJI:=Option (Array Keyed)×Nat×Nat×Array Keyed×Nat×Nat
abbrev TJG:=Option (Array Keyed)×Nat×Nat×Array Keyed×Nat×Nat×Nat
abbrev TJO:=Option (Array Keyed)×Nat×Nat×Array Keyed×Nat
section
variable(a b:Array Keyed)
def fiH(o:Array Keyed)(i j:Nat): Array Keyed:=a.extract 0 i++b.extract 0 j++o.reverse
def laH(o:Array Keyed)(i j:Nat): Array Keyed:=b.extract 0 j++a.extract 0 i++o.reverse
noncomputable def hiI(g:Nat)(t:TJI): StateT SortSt Sem (ForInStep TJI):=do
 match <- lt' (<- elem' b (t.2.2.1-1)) (<- elem' a (t.2.1-1)) with
 | some wi=>
  if wi=true then
   let x <- elem' a (t.2.1-1)
   if(t.2.1-1==0)=true then pure (.done (some (fiH a b (t.2.2.2.1.push x) (t.2.1-1) t.2.2.1),t.2.1-1,t.2.2.1,t.2.2.2.1.push x,t.2.2.2.2.1+1,0))
   else if t.2.2.2.2.1+1>=g then pure (.done (none,t.2.1-1,t.2.2.1,t.2.2.2.1.push x,t.2.2.2.2.1+1,0))
   else pure (.yield (none,t.2.1-1,t.2.2.1,t.2.2.2.1.push x,t.2.2.2.2.1+1,0))
  else
   let x <- elem' b (t.2.2.1-1)
   if(t.2.2.1-1==1)=true then pure (.done (some (laH a b (t.2.2.2.1.push x) t.2.1 (t.2.2.1-1)),t.2.1,t.2.2.1-1,t.2.2.2.1.push x,0,t.2.2.2.2.2+1))
   else if t.2.2.2.2.2+1>=g then pure (.done (none,t.2.1,t.2.2.1-1,t.2.2.2.1.push x,0,t.2.2.2.2.2+1))
   else pure (.yield (none,t.2.1,t.2.2.1-1,t.2.2.2.1.push x,0,t.2.2.2.2.2+1))
 | _=>pure (.done (some (fiH a b t.2.2.2.1 t.2.1 t.2.2.1),t.2.1,t.2.2.1,t.2.2.2.1,t.2.2.2.2.1,t.2.2.2.2.2))
noncomputable def hiD(i j:Nat)(o:Array Keyed)(g c d:Nat): StateT SortSt Sem (ForInStep TJG):=do
 let x <- elem' a (i-1)
 if(i-1==0)=true then pure (.done (some (fiH a b (o.push x) (i-1) j),i-1,j,o.push x,g,c,d))
 else if(decide (c<7)&&decide (d<7))=true then pure (.done (none,i-1,j,o.push x,g,c,d))
 else pure (.yield (none,i-1,j,o.push x,g,c,d))
noncomputable def hiC(i j:Nat)(o:Array Keyed)(g c d:Nat): StateT SortSt Sem (ForInStep TJG):=do
 let x <- elem' b (j-1)
 if(j-1==1)=true then pure (.done (some (laH a b (o.push x) i (j-1)),i,j-1,o.push x,g,c,d))
 else do
  match <- q0v true (<- elem' a (i-1)) b 0 (j-1) (j-1-1) with
  | some z=>
   if j-1-z>0 then
    if(z==1)=true then pure (.done (some (laH a b (o.push x++(b.extract z (j-1)).reverse) i z),i,z,o.push x++(b.extract z (j-1)).reverse,g,c,j-1-z))
    else if(z==0)=true then pure (.done (some (fiH a b (o.push x++(b.extract z (j-1)).reverse) i z),i,z,o.push x++(b.extract z (j-1)).reverse,g,c,j-1-z))
    else hiD a b i z (o.push x++(b.extract z (j-1)).reverse) g c (j-1-z)
   else hiD a b i (j-1) (o.push x) g c (j-1-z)
  | _=>pure (.done (some (fiH a b (o.push x) i (j-1)),i,j-1,o.push x,g,c,d))
noncomputable def hiB(i j:Nat)(o:Array Keyed)(g c d:Nat): StateT SortSt Sem (ForInStep TJG):=do
 q10 g
 match <- q0v false (<- elem' b (j-1)) a 0 i (i-1) with
 | some z=>
  if i-z>0 then
   if(z==0)=true then pure (.done (some (fiH a b (o++(a.extract z i).reverse) z j),z,j,o++(a.extract z i).reverse,g,i-z,d))
   else hiC a b z j (o++(a.extract z i).reverse) g (i-z) d
  else hiC a b i j o g (i-z) d
 | _=>pure (.done (some (fiH a b o i j),i,j,o,g,c,d))
noncomputable def hiG(t:TJG): StateT SortSt Sem (ForInStep TJG):=
 if t.2.2.2.2.1>1 then hiB a b t.2.1 t.2.2.1 t.2.2.2.1 (t.2.2.2.2.1-1) t.2.2.2.2.2.1 t.2.2.2.2.2.2 else hiB a b t.2.1 t.2.2.1 t.2.2.2.1 t.2.2.2.2.1 t.2.2.2.2.2.1 t.2.2.2.2.2.2
noncomputable def hiO(t:TJO): StateT SortSt Sem (ForInStep TJO):=do
 let u <- forIn [0:a.size+b.size] ((none,t.2.1,t.2.2.1,t.2.2.2.1,0,0):TJI) fun _=>hiI a b t.2.2.2.2
 match u.1 with
 | some r=>pure (.done (some r,u.2.1,u.2.2.1,u.2.2.2.1,t.2.2.2.2))
 | none=>do
  rule "list.sort.gallop"
  let v <- forIn [0:a.size+b.size] ((none,u.2.1,u.2.2.1,u.2.2.2.1,t.2.2.2.2+1,u.2.2.2.2.1,u.2.2.2.2.2):TJG) fun _=>hiG a b
  match v.1 with
  | some r=>pure (.done (some r,v.2.1,v.2.2.1,v.2.2.2.1,v.2.2.2.2.1))
  | none=>do
   q10 (v.2.2.2.2.1+1)
   pure (.yield (none,v.2.1,v.2.2.1,v.2.2.2.1,v.2.2.2.2.1+1))
end
theorem qhk(a b:Array Keyed): qdq a b=(do
 rule "list.sort.merge-hi"
 let all:=a.size+b.size
 let fi (o:Array Keyed) (i j:Nat):=a.extract 0 i++b.extract 0 j++o.reverse
 let la (o:Array Keyed) (i j:Nat):=b.extract 0 j++a.extract 0 i++o.reverse
 let mut i:=a.size-1
 let mut j:=b.size
 let mut o:Array Keyed:= #[<- elem' a i]
 if i==0 then return fi o i j
 if j==1 then return la o i j
 let mut g:=gallopOf (<- get)
 for _ in [0:all] do
  let mut c:=0
  let mut d:=0
  for _ in [0:all] do
   let some wi <- lt' (<- elem' b (j-1)) (<- elem' a (i-1))|return fi o i j
   if wi then
    i:=i-1;o:=o.push (<- elem' a i);c:=c+1;d:=0
    if i==0 then return fi o i j
    if c>=g then break
   else
    j:=j-1;o:=o.push (<- elem' b j);d:=d+1;c:=0
    if j==1 then return la o i j
    if d>=g then break
  rule "list.sort.gallop"
  g:=g+1
  for _ in [0:all] do
   if g>1 then g:=g-1
   q10 g
   let some z <- q0v false (<- elem' b (j-1)) a 0 i (i-1)|return fi o i j
   let k:=i-z
   c:=k
   if k>0 then
    o:=o++(a.extract z i).reverse;i:=z
    if i==0 then return fi o i j
   j:=j-1;o:=o.push (<- elem' b j)
   if j==1 then return la o i j
   let some z <- q0v true (<- elem' a (i-1)) b 0 j (j-1)|return fi o i j
   let k:=j-z
   d:=k
   if k>0 then
    o:=o++(b.extract z j).reverse;j:=z
    if j==1 then return la o i j
    if j==0 then return fi o i j
   i:=i-1;o:=o.push (<- elem' a i)
   if i==0 then return fi o i j
   if c<7&&d<7 then break
  g:=g+1
  q10 g
 unsupported "internal:list.sort.merge-bound"):=rfl
theorem qjv (a b:Array Keyed):qdq a b=(do
 rule "list.sort.merge-hi"
 let x <- elem' a (a.size-1)
 if(a.size-1==0)=true then return fiH a b #[x] (a.size-1) b.size
 if(b.size==1)=true then return laH a b #[x] (a.size-1) b.size
 let z <- get
 let t <- forIn [0:a.size+b.size] ((none,a.size-1,b.size, #[x],gallopOf z):TJO) fun _=>hiO a b
 match t.1 with
 | some r=>pure r
 | none=>unsupported "internal:list.sort.merge-bound"):=by
 rw [qhk];dsimp only;refine bc fun _=>bc fun x=>tw rfl (fun _=>rfl) fun _=>tw rfl (fun _=>rfl) fun _=>bc fun z=>bc2 (fc fun _ t=>?_) fun t=>?_
 ·unfold hiO
  refine bc2 (fc fun _ u=>?_) fun u=>?_
  ·rfl
  ·cases e:u.1 with
   | some r=>rfl
   | none=>
    refine bc fun _=>bc2 (fc fun _ v=>?_) fun v=>?_
    ·unfold hiG
     refine tw rfl (fun _=>?_) (fun _=>?_)
     all_goals
      unfold hiB;refine bc fun _=>bc fun y=>bc fun k=>?_;cases k with
      | none=>rfl
      | some k=>
       dsimp only;refine tw rfl (fun _=>tw rfl (fun _=>rfl) fun _=>?_) (fun _=>?_)
       all_goals
        unfold hiC;refine bc fun y=>tw rfl (fun _=>rfl) fun _=>bc fun y=>bc fun k=>?_;cases k with
        | none=>rfl
        | some k=>rfl
    ·cases e:v.1 <;> rfl
 ·cases e:t.1 <;> rfl
section
variable{prog:Program}{w:World}{A:Around}{E:Value->Shared->Prop}{s:Shared}{κ : SortKind}{G:Value->Prop}{lt:Value->Value->Bool}{a b:Array Keyed}
def OkH(lt:Value->Value->Bool)(a b:Array Keyed)(n:Nat)(x:Option (Array Keyed))(i j:Nat)(o:Array Keyed): Prop:=match x with
 | some r=>Rm lt a b r
 | none=>MJ lt a.toList b.toList o.toList i j/\1<=i/\2<=j/\i<=a.size/\j<=b.size/\i+j+n<=a.size+b.size
theorem q2t(x:Array Keyed)(i:Nat): (x.extract 0 i).toList=x.toList.take i:=by
 rw [uv];show(x.toList.drop 0).take (i-0)=_;simp
theorem qcd(x:Array Keyed)(i j:Nat): ((x.extract i j).reverse).toList=((x.toList.drop i).take (j-i)).reverse:=by
 rw [g2o,uv]
theorem fhR{o:Array Keyed}{i j:Nat}(m:MJ lt a.toList b.toList o.toList i j)(sb:b.toList.Pairwise (le lt))(hi:i=0): Rm lt a b (fiH a b o i j):=by
 have:=m.fin sb hi;subst hi;unfold Rm fiH;have e:(a.extract 0 0++b.extract 0 j++o.reverse).toList=b.toList.take j++o.toList.reverse:=by
  rw [p5,p5,q2t,q2t,g2o]
  rfl
 rw [e];exact this
theorem lhR{o:Array Keyed}{i j:Nat}(H:Mh G lt a b)(C:Cmp prog w A s κ G lt)(m:MJ lt a.toList b.toList o.toList i j)(hj:j=1): Rm lt a b (laH a b o i j):=by
 have hb:=H.hb;have e1:b.toList.take 1=[b[0]]:=by
  rw [show(1:Nat)=0+1 from rfl,p7 (by simp;lia)];simp
 subst hj;have:=m.last H.sa H.sb (fun q hq p hp=>by
  rw [e1] at hq;rw [my.mp hq];exact C.asy _ _ (H.first p (g1c hp)))
 unfold Rm laH;have e:(b.extract 0 1++a.extract 0 i++o.reverse).toList=b.toList.take 1++a.toList.take i++o.toList.reverse:=by
  rw [p5,p5,q2t,q2t,g2o]
 rw [e];exact this
theorem qjw(C:Cmp prog w A s κ G lt){l:List Keyed}(sl:l.Pairwise (le lt)){i:Nat}(hi:i<l.length){x:Keyed}(h:le lt l[i] x): ∀q∈l.take (i+1),le lt q x:=by
 intro q hq;rw [p7 hi] at hq;rcases pb.mp hq with hq|hq
 ·exact qfi C (q7f sl hi q hq) h
 ·rw [my.mp hq];exact h
theorem MJ.stepA(H:Mh G lt a b){o:Array Keyed}{i j:Nat}(m:MJ lt a.toList b.toList o.toList i j)(h1:1<=i)(h2:i<=a.size)(hq:∀q∈b.toList.take j,le lt q (a[i-1]'(by lia))):
  MJ lt a.toList b.toList (o.push (a[i-1]'(by lia))).toList (i-1) j:=by
 obtain⟨i,rfl⟩:∃i',i=i'+1:=⟨i-1,by lia⟩
 have:=m.step H.sa (by simp;lia) (by simpa using hq)
 simpa using this
theorem MJ.stepB(H:Mh G lt a b){o:Array Keyed}{i j:Nat}(m:MJ lt a.toList b.toList o.toList i j)(h1:1<=j)(h2:j<=b.size)(hq:∀q∈a.toList.take i,le lt q (b[j-1]'(by lia))):
  MJ lt a.toList b.toList (o.push (b[j-1]'(by lia))).toList i (j-1):=by
 obtain⟨j,rfl⟩:∃j',j=j'+1:=⟨j-1,by lia⟩
 have:=m.swap.step H.sb (by simp;lia) (by simpa using hq)
 simpa using this.swap
theorem q6g(C:Cmp prog w A s κ G lt){l:Array Keyed}(sl:l.toList.Pairwise (le lt)){i:Nat}(h1:1<=i)(hi:i<=l.size){x:Keyed}(h:le lt (l[i-1]'(by lia)) x): ∀q∈l.toList.take i,le lt q x:=by
 obtain⟨i,rfl⟩:∃i',i=i'+1:=⟨i-1,by lia⟩
 exact qjw C sl (by simp;lia) (by simpa using h)
theorem qjx(C:Cmp prog w A s κ G lt)(H:Mh G lt a b){st:SortSt}{g n c d:Nat}{o:Array Keyed}{i j:Nat}(hk:kindOf st = κ)(h:OkH lt a b n none i j o):
  wpS (model prog w) A E s (hiI a b g (none,i,j,o,c,d)) (fun r st'=>st'=st/\match r with
   | .done u=>OkH lt a b (n+1) u.1 u.2.1 u.2.2.1 u.2.2.2.1
   | .yield u=>u.1=none/\OkH lt a b (n+1) none u.2.1 u.2.2.1 u.2.2.2.1) st:=by
 obtain⟨m,h1,h2,h3,h4,h5⟩:=h;unfold hiI;dsimp only;refine gj (zd (by lia) (gj (zd (by lia) (gj (q2b (C:=C) hk (H.gb _ (by simp)) (H.ga _ (by simp)) ?_)))));dsimp only;cases e:lt (b[j-1]).1 (a[i-1]).1
 ·simp only [m7,nt]
  refine gj (zd (by lia) ?_);have m2:=m.stepB H (by lia) h4 (q6g C H.sa h1 h3 e)
  split
  ·rename_i e2
   exact m5 ⟨rfl,lhR H C m2 (by simpa using e2)⟩
  ·rename_i e2
   have e2':j-1≠1:=by simpa using e2
   split
   ·exact m5 ⟨rfl,m2,h1,by first|lia|(dsimp only;lia),h3,by first|lia|(dsimp only;lia),by first|lia|(dsimp only;lia)⟩
   ·exact m5 ⟨rfl,rfl,m2,h1,by first|lia|(dsimp only;lia),h3,by first|lia|(dsimp only;lia),by first|lia|(dsimp only;lia)⟩
 ·simp only [ny]
  refine gj (zd (by lia) ?_);have m2:=m.stepA H h1 h3 (q6g C H.sb (by lia) h4 (C.asy _ _ e))
  split
  ·rename_i e2
   exact m5 ⟨rfl,fhR m2 H.sb (by simpa using e2)⟩
  ·rename_i e2
   have e2':i-1≠0:=by simpa using e2
   split
   ·exact m5 ⟨rfl,m2,by first|lia|(dsimp only;lia),h2,by first|lia|(dsimp only;lia),h4,by first|lia|(dsimp only;lia)⟩
   ·exact m5 ⟨rfl,rfl,m2,by first|lia|(dsimp only;lia),h2,by first|lia|(dsimp only;lia),h4,by first|lia|(dsimp only;lia)⟩
abbrev QH(lt:Value->Value->Bool)(a b:Array Keyed)(n:Nat)(st:SortSt): ForInStep TJG->SortSt->Prop:=fun r st'=>Eg st st'/\match r with
   | .done u=>OkH lt a b n u.1 u.2.1 u.2.2.1 u.2.2.2.1
   | .yield u=>u.1=none/\OkH lt a b n none u.2.1 u.2.2.1 u.2.2.2.1
theorem qce(C:Cmp prog w A s κ G lt)(H:Mh G lt a b){st:SortSt}{n g c d:Nat}{o:Array Keyed}{i j:Nat}(m:MJ lt a.toList b.toList o.toList i j)(h1:1<=i)(h2:2<=j)(h3:i<=a.size)(h4:j<=b.size)(h5:i+j+n<=a.size+b.size)
  (hq:∀q∈b.toList.take j,le lt q (a[i-1]'(by lia))):wpS (model prog w) A E s (hiD a b i j o g c d) (QH lt a b n st) st:=by
 unfold hiD;refine gj (zd (by lia) ?_);have m2:=m.stepA H h1 h3 hq
 split
 ·rename_i e2
  exact m5 ⟨Eg.rfl' _,fhR m2 H.sb (by simpa using e2)⟩
 ·rename_i e2
  have e2':i-1≠0:=by simpa using e2
  split
  ·exact m5 ⟨Eg.rfl' _,m2,by first|lia|(dsimp only;lia),h2,by first|lia|(dsimp only;lia),h4,by first|lia|(dsimp only;lia)⟩
  ·exact m5 ⟨Eg.rfl' _,rfl,m2,by first|lia|(dsimp only;lia),h2,by first|lia|(dsimp only;lia),h4,by first|lia|(dsimp only;lia)⟩
theorem MJ.stepsA(H:Mh G lt a b){o:Array Keyed}{i j z:Nat}(m:MJ lt a.toList b.toList o.toList i j)(hz:z<=i)(h3:i<=a.size)(hq:∀x,(h1:z<=x)->(h2:x<i)->∀q∈b.toList.take j,le lt q (a[x]'(by lia))):
  MJ lt a.toList b.toList (o++(a.extract z i).reverse).toList z j:=by
 have:=m.steps H.sa (by simpa using h3) (i-z) (by lia) (fun x x1 x2=>by simpa using hq x (by lia) x2);rw [show i-(i-z)=z by lia] at this;rw [p5,qcd];exact this
theorem MJ.stepsB(H:Mh G lt a b){o:Array Keyed}{i j z:Nat}(m:MJ lt a.toList b.toList o.toList i j)(hz:z<=j)(h3:j<=b.size)(hq:∀x,(h1:z<=x)->(h2:x<j)->∀q∈a.toList.take i,le lt q (b[x]'(by lia))):
  MJ lt a.toList b.toList (o++(b.extract z j).reverse).toList i z:=by
 have:=m.swap.steps H.sb (by simpa using h3) (j-z) (by lia) (fun x x1 x2=>by simpa using hq x (by lia) x2);rw [show j-(j-z)=z by lia] at this;rw [p5,qcd];exact this.swap
theorem qcf(C:Cmp prog w A s κ G lt)(H:Mh G lt a b){st:SortSt}{n g c d:Nat}{o:Array Keyed}{i j:Nat}(hk:kindOf st = κ)(m:MJ lt a.toList b.toList o.toList i j)(h1:1<=i)(h2:2<=j)(h3:i<=a.size)(h4:j<=b.size)(h5:i+j+n<=a.size+b.size)
  (hq:∀q∈a.toList.take i,le lt q (b[j-1]'(by lia))):wpS (model prog w) A E s (hiC a b i j o g c d) (QH lt a b n st) st:=by
 unfold hiC;refine gj (zd (by lia) ?_);have m2:=m.stepB H (by lia) h4 hq
 split
 ·rename_i e2
  exact m5 ⟨Eg.rfl' _,lhR H C m2 (by simpa using e2)⟩
 ·rename_i e2
  have e2':j-1≠1:=by simpa using e2
  refine gj (zd (by lia) (gj (q13 C hk (H.ga _ (by simp)) H.gb (by lia) (by lia) (fun x y hxy hy k1=>?_) fun z hz k1 k2=>?_)))
  ·simp only [far1,ny] at k1 ⊢
   have hle:le lt (b[0+x]'(by lia)) (b[0+y]'(by lia)):=q6f C (fun x=>C.irr _) H.sb (i:=0+x) (j:=0+y) (by lia) (by simp;lia);cases e3:lt (b[0+x]'(by lia)).1 (a[i-1]).1
   ·have:=C.tra _ _ _ e3 hle
    rw [this] at k1;cases k1
   ·rfl
  ·dsimp only
   have k1':∀x,(hx:x<z)->lt (b[x]'(by lia)).1 (a[i-1]).1=true:=fun x hx=>by
    have:=k1 x hx (by lia);simpa [far1] using this
   have k2':∀x,(hx:z<=x)->(hx2:x<j-1)->lt (b[x]'(by lia)).1 (a[i-1]).1=false:=fun x hx hx2=>by
    have:=k2 x hx hx2;simpa [far1] using this
   have hz0:1<=z:=by
    rcases g4j 0 z with h|h
    ·exact h
    ·have:=k2' 0 (by lia) (by lia)
     rw [H.first _ (by simp)] at this;cases this
   have k3:∀q∈b.toList.take z,le lt q (a[i-1]):=by
    intro q hq';obtain⟨y,hy,rfl⟩:=t9.mp hq';simp only [tf,ng] at hy;have:=C.asy _ _ (k1' y (by lia))
    simpa [le] using this
   split
   ·have m3:=m2.stepsB H (z:=z) (by lia) (by lia) (fun x x1 x2=>q6g C H.sa h1 h3 (k2' x x1 x2))
    split
    ·rename_i e5
     exact m5 ⟨Eg.rfl' _,lhR H C m3 (by simpa using e5)⟩
    ·rename_i e5
     have e5':z≠1:=by simpa using e5
     split
     ·rename_i e6
      have e6':z=0:=by simpa using e6
      lia
     ·exact qce C H m3 h1 (by lia) h3 (by lia) (by lia) k3
   ·have:z=j-1:=by lia
    subst this;exact qce C H m2 h1 (by lia) h3 (by lia) (by lia) k3
theorem qjy(C:Cmp prog w A s κ G lt)(H:Mh G lt a b){st:SortSt}{n g c d:Nat}{o:Array Keyed}{i j:Nat}(hk:kindOf st = κ)(h:OkH lt a b n none i j o):
  wpS (model prog w) A E s (hiB a b i j o g c d) (QH lt a b n st) st:=by
 obtain⟨m,h1,h2,h3,h4,h5⟩:=h;unfold hiB;refine gj (q2r fun st' eg=>?_);have hk':kindOf st' = κ :=eg.1.trans hk;have up:∀r st'',QH lt a b n st' r st''->QH lt a b n st r st'':=fun r st'' q=>⟨eg.trans q.1,q.2⟩
 refine gj (zd (by lia) (gj (q13 C hk' (H.gb _ (by simp)) H.ga (by lia) (by lia) (fun x y hxy hy k1=>?_) fun z hz k1 k2=>?_)))
 ·simp only [far1,m7,nt,g1w] at k1 ⊢
  have hle:=q6f C (fun x=>C.irr _) H.sa (i:=0+x) (j:=0+y) (by lia) (by simp;lia);exact C.tra _ _ _ (by simpa [le] using hle) k1
 ·dsimp only
  have k1':∀x,(hx:x<z)->lt (b[j-1]).1 (a[x]'(by lia)).1=false:=fun x hx=>by
   have:=k1 x hx (by lia);simpa [far1] using this
  have k2':∀x,(hx:z<=x)->(hx2:x<i)->lt (b[j-1]).1 (a[x]'(by lia)).1=true:=fun x hx hx2=>by
   have:=k2 x hx hx2;simpa [far1] using this
  have k3:∀q∈a.toList.take z,le lt q (b[j-1]):=by
   intro q hq';obtain⟨y,hy,rfl⟩:=t9.mp hq';simp only [tf,ng] at hy;have:=k1' y (by lia)
   simpa [le] using this
  split
  ·have m3:=m.stepsA H (z:=z) (by lia) h3 (fun x x1 x2=>q6g C H.sb (by lia) h4 (C.asy _ _ (k2' x x1 x2)))
   split
   ·rename_i e5
    exact m5 (up _ _ ⟨Eg.rfl' _,fhR m3 H.sb (by simpa using e5)⟩)
   ·rename_i e5
    have e5':z≠0:=by simpa using e5
    exact td (qcf C H hk' m3 (by lia) h2 (by lia) h4 (by lia) k3) up
  ·have:z=i:=by lia
   subst this;exact td (qcf C H hk' m h1 h2 h3 h4 h5 k3) up
theorem qjz(C:Cmp prog w A s κ G lt)(H:Mh G lt a b){st:SortSt}{n:Nat}{t:TJO}(ht:t.1=none)(hk:kindOf st = κ)(h:OkH lt a b n none t.2.1 t.2.2.1 t.2.2.2.1):
  wpS (model prog w) A E s (hiO a b t) (fun r st'=>Eg st st'/\match r with
   | .done u=>(∃x,u.1=some x)/\OkH lt a b (n+1) u.1 u.2.1 u.2.2.1 u.2.2.2.1
   | .yield u=>u.1=none/\OkH lt a b (n+1) none u.2.1 u.2.2.1 u.2.2.2.1) st:=by
 unfold hiO;refine gj (td (tm (I:=fun x u st'=>st'=st/\u.1=none/\OkH lt a b (n+x) none u.2.1 u.2.2.1 u.2.2.2.1)
  (Q:=fun u st'=>st'=st/\OkH lt a b (n+1) u.1 u.2.1 u.2.2.1 u.2.2.2.1) ?_ ?_ ⟨rfl,rfl,h⟩) ?_)
 ·rintro x ⟨u1,i,j,o,c,d⟩ st' _ hx ⟨rfl,rfl,h'⟩
  refine td (qjx C H hk h') ?_
  rintro r st'' ⟨rfl,hr⟩
  cases r with
  | done u=>
   refine⟨rfl,?_⟩;dsimp only at hr ⊢;unfold OkH at hr ⊢
   split at hr
   ·exact hr
   ·exact⟨hr.1,hr.2.1,hr.2.2.1,hr.2.2.2.1,hr.2.2.2.2.1,by lia⟩
  | yield u=>exact⟨rfl,hr.1,hr.2.1,hr.2.2.1,hr.2.2.2.1,hr.2.2.2.2.1,hr.2.2.2.2.2.1,by have:=hr.2.2.2.2.2.2;lia⟩
 ·rintro u st' ⟨rfl,hu,m,h1,h2,h3,h4,h5⟩
  rw [hu];exact⟨rfl,m,h1,h2,h3,h4,by lia⟩
 ·rintro⟨u1,i,j,o,c,d⟩ st' ⟨rfl,hu⟩
  cases u1 with
  | some r=>exact m5 ⟨Eg.rfl' _,⟨r,rfl⟩,hu⟩
  | none=>
   dsimp only at hu ⊢;refine gj (wpS_lift (g06 ⟨rfl,?_⟩));refine gj (td (tm (I:=fun x v st''=>Eg st' st''/\v.1=none/\OkH lt a b (n+1) none v.2.1 v.2.2.1 v.2.2.2.1)
    (Q:=fun v st''=>Eg st' st''/\OkH lt a b (n+1) v.1 v.2.1 v.2.2.1 v.2.2.2.1) ?_ ?_ ⟨Eg.rfl' _,rfl,hu⟩) ?_)
   ·rintro x ⟨v1,i,j,o,g,c,d⟩ st'' _ hx ⟨eg,rfl,h'⟩
    unfold hiG;dsimp only at h' ⊢;have key:∀g',wpS (model prog w) A E s (hiB a b i j o g' c d) (fun r st3=>match r with
      | .done v=>Eg st' st3/\OkH lt a b (n+1) v.1 v.2.1 v.2.2.1 v.2.2.2.1
      | .yield v=>Eg st' st3/\v.1=none/\OkH lt a b (n+1) none v.2.1 v.2.2.1 v.2.2.2.1) st'':=by
     intro g';refine td (qjy C H (eg.1.trans hk) h') ?_
     rintro r st3 ⟨eg3,hr⟩
     cases r with
     | done v=>exact⟨eg.trans eg3,hr⟩
     | yield v=>exact⟨eg.trans eg3,hr⟩
    split
    ·exact td (key _) fun r st3 hr=>by cases r <;> exact hr
    ·exact td (key _) fun r st3 hr=>by cases r <;> exact hr
   ·rintro v st'' ⟨eg,hv,h'⟩
    rw [hv];exact⟨eg,h'⟩
   ·rintro⟨v1,i,j,o,g,c,d⟩ st'' ⟨eg,hv⟩
    cases v1 with
    | some r=>exact m5 ⟨eg,⟨r,rfl⟩,hv⟩
    | none=>
     dsimp only at hv ⊢;exact gj (q2r fun st3 eg3=>m5 ⟨eg.trans eg3,rfl,hv⟩)
theorem qk0(C:Cmp prog w A s κ G lt)(H:Mh G lt a b){st:SortSt}{Q:Array Keyed->SortSt->Prop}(hk:kindOf st = κ)(h:∀r st',Eg st st'->Rm lt a b r->Q r st'):
  wpS (model prog w) A E s (qdq a b) Q st:=by
 rw [qjv];refine gj (wpS_lift (g06 ⟨rfl,?_⟩));have hb:=H.hb;have ha:=H.ha;refine gj (zd (by lia) ?_);have m:MJ lt a.toList b.toList (#[a[a.size-1]]:Array Keyed).toList (a.size-1) b.size:=by
  refine⟨?_,?_,?_,?_⟩
  ·rw [pd (by simp;lia),g45 (by simp;lia),g45 (by simp)]
   simp
  ·simp
  ·intro p hp q hq
   have:p=a[a.size-1]:=by simpa using hp
   subst this;have:=q7f H.sa (ia:=a.size-1) (by simp;lia) q hq
   simpa using this
  ·intro p hp q hq
   have:p=a[a.size-1]:=by simpa using hp
   subst this;exact C.asy _ _ (H.last q (g1c hq))
 split
 ·rename_i e
  exact m5 (h _ _ (Eg.rfl' _) (fhR m H.sb (by simpa using e)))
 ·rename_i e
  have e':a.size-1≠0:=by simpa using e
  split
  ·rename_i e2
   exact m5 (h _ _ (Eg.rfl' _) (lhR H C m (by simpa using e2)))
  ·rename_i e2
   have e2':b.size≠1:=by simpa using e2
   refine gj (g1r ?_);refine gj (td (tm (I:=fun x u st'=>Eg st st'/\u.1=none/\OkH lt a b x none u.2.1 u.2.2.1 u.2.2.2.1)
    (Q:=fun u st'=>Eg st st'/\∃r,u.1=some r/\Rm lt a b r) ?_ ?_ ⟨Eg.rfl' _,rfl,m,by first|lia|(dsimp only;lia),by first|lia|(dsimp only;lia),by first|lia|(dsimp only;lia),by first|lia|(dsimp only;lia),by first|lia|(dsimp only;lia)⟩) ?_)
   ·rintro x t st' _ hx ⟨eg,ht,h'⟩
    refine td (qjz C H ht (eg.1.trans hk) h') ?_
    rintro r st'' ⟨eg2,hr⟩
    cases r with
    | done u=>
     obtain⟨⟨r,hr1⟩,hr2⟩:=hr;rw [hr1] at hr2;exact⟨eg.trans eg2,r,hr1,hr2⟩
    | yield u=>exact⟨eg.trans eg2,hr.1,hr.2⟩
   ·rintro u st' ⟨eg,hu,_,h1,h2,h3,h4,h5⟩
    lia
   ·rintro⟨u1,u2⟩ st' ⟨eg,r,hr,hR⟩
    cases hr;exact m5 (h _ _ eg hR)
end
def Kz(xs:Array Keyed)(i:Nat): Value:=kz xs[i]?
theorem ky{xs ys:Array Keyed}{i j:Nat}(h:xs[i]? = ys[j]?): Kz xs i=Kz ys j:=by unfold Kz;rw [h]
theorem ja{xs:Array Keyed}{i:Nat}(h:i<xs.size): Kz xs i=xs[i].1:=by unfold Kz;rw [g1n xs i h];rfl
def Asc(lt:Value->Value->Bool)(xs:Array Keyed)(lo hi:Nat): Prop:=∀i j,lo<=i->i<=j->j<hi->lt (Kz xs j) (Kz xs i)=false
def Des(lt:Value->Value->Bool)(xs:Array Keyed)(lo hi:Nat): Prop:=∀i j,lo<=i->i<=j->j<hi->lt (Kz xs i) (Kz xs j)=false
def Eqv(lt:Value->Value->Bool)(x y:Value): Prop:=lt x y=false/\lt y x=false
structure Tr(lo hi:Nat)(st st':SortSt): Prop where
 kind:kindOf st'=kindOf st
 pend:pendingOf st'=pendingOf st
 fail:failedOf st'=failedOf st
 perm:(arrOf st').Perm (arrOf st)
 out:∀k,(k<lo\/hi<=k)->(arrOf st')[k]? = (arrOf st)[k]?
theorem Tr.rfl'(lo hi:Nat)(st:SortSt): Tr lo hi st st:=⟨rfl,rfl,rfl,.refl _,fun _ _=>rfl⟩
theorem Tr.trans{lo hi:Nat}{a b c:SortSt}(h:Tr lo hi a b)(k:Tr lo hi b c): Tr lo hi a c:=⟨k.kind.trans h.kind,k.pend.trans h.pend,k.fail.trans h.fail,k.perm.trans h.perm,fun i hi=>(k.out i hi).trans (h.out i hi)⟩
theorem Tr.size{lo hi:Nat}{a b:SortSt}(h:Tr lo hi a b): (arrOf b).size=(arrOf a).size:=h.perm.size_eq
def Gs(G:Value->Prop)(st:SortSt): Prop:=∀p∈(arrOf st).toList,G p.1
theorem Tr.gs{G:Value->Prop}{lo hi:Nat}{a b:SortSt}(h:Tr lo hi a b)(g:Gs G a): Gs G b:=fun p hp=>g p ((g07.mp h.perm).mem_iff.mp hp)
theorem Tr.mir{lo hi i j:Nat}{st:SortSt}(h1:lo<=i)(h2:j<=hi)(h3:j<=(arrOf st).size): Tr lo hi st (setArr st (mirror (arrOf st) i j ((j-i) / 2))):=
 ⟨rfl,rfl,rfl,mirror_perm _ _ _ _,fun k hk=>by show(mirror (arrOf st) i j ((j-i) / 2))[k]? = _;rw [getElem?_mirror_all h3,m9 (by lia)]⟩
theorem q9t{xs:Array Keyed}{i j:Nat}(hj:j<=xs.size)(k:Nat): Kz (mirror xs i j ((j-i) / 2)) k=if i<=k/\k<j then Kz xs (i+j-1-k) else Kz xs k:=by
 have e:=getElem?_mirror_all (i:=i) hj k
 split
 ·rename_i h;rw [m4 h] at e;exact ky e
 ·rename_i h;rw [m9 h] at e;exact ky e
abbrev ASt:=Option (Option Nat)×Nat
abbrev DSt:=Option (Option Nat)×Nat×Nat
noncomputable def asL(lo b nr:Nat): StateT SortSt Sem ASt:=
 forIn [b:nr] ((none,b):ASt) fun _ t=>do
  match <- ltAt' (lo+t.2) (lo+t.2-1) with
  | some sm=>if sm=true then pure (.done (none,t.2)) else pure (.yield (none,t.2+1))
  | _=>pure (.done (some none,t.2))
noncomputable def ta3(lo n nr:Nat): StateT SortSt Sem (Option Nat):=do
 reverseSlice' lo (lo+n)
 let t <- asL lo n nr
 match t.1 with
 | some r=>pure r
 | none=>pure (some t.2)
noncomputable def deL(lo n nr:Nat): StateT SortSt Sem DSt:=
 forIn [n:nr] ((none,n,0):DSt) fun _ t=>do
  match <- ltAt' (lo+t.2.1) (lo+t.2.1-1) with
  | some sm=>
   if sm=true then
    if t.2.2>0 then do
     reverseSlice' (lo+t.2.1-(t.2.2+1)) (lo+t.2.1)
     pure (.yield (none,t.2.1+1,0))
    else pure (.yield (none,t.2.1+1,0))
   else do
    match <- ltAt' (lo+t.2.1-1) (lo+t.2.1) with
    | some la=>if la=true then pure (.done (none,t.2.1,t.2.2)) else pure (.yield (none,t.2.1+1,t.2.2+1))
    | _=>pure (.done (some none,t.2.1,t.2.2))
  | _=>pure (.done (some none,t.2.1,t.2.2))
noncomputable def deP(lo n nr:Nat): StateT SortSt Sem (Option Nat):=do
 rule "list.sort.descending-run"
 let t <- deL lo (n+1) nr
 match t.1 with
 | some r=>pure r
 | none=>
  if t.2.2>0 then do
   reverseSlice' (lo+t.2.1-(t.2.2+1)) (lo+t.2.1)
   ta3 lo t.2.1 nr
  else ta3 lo t.2.1 nr
theorem qn1(lo nr:Nat): countRun' lo nr=(do
  let t <- asL lo 1 nr
  match t.1 with
  | some r=>pure r
  | none=>
   if(t.2==nr)=true then pure (some t.2)
   else if t.2>1 then do
    match <- ltAt' lo (lo+t.2-1) with
    | some ro=>if ro=true then pure (some t.2) else do
      reverseSlice' lo (lo+t.2)
      deP lo t.2 nr
    | _=>pure none
   else deP lo t.2 nr):=by
 rw [countRun'_eq];dsimp only;refine bc2 rfl fun t=>?_;obtain⟨r,n⟩:=t;cases r with
 | some r=>rfl
 | none=>
  dsimp only;refine tw rfl (fun _=>rfl) fun _=>tw rfl (fun _=>bc fun x=>?_) fun _=>?_
  ·cases x with
   | none=>rfl
   | some ro=>
    dsimp only;refine tw rfl (fun _=>rfl) fun _=>bc fun _=>?_;unfold deP;refine bc fun _=>bc2 rfl fun t=>?_;obtain⟨r2,n2,q2⟩:=t;cases r2 with
    | some r2=>rfl
    | none=>
     dsimp only;refine tw rfl (fun _=>bc fun _=>?_) fun _=>?_
     ·unfold ta3
      refine bc fun _=>bc2 rfl fun t=>?_;obtain⟨r3,n3⟩:=t;cases r3 <;> rfl
     ·unfold ta3
      refine bc fun _=>bc2 rfl fun t=>?_;obtain⟨r3,n3⟩:=t;cases r3 <;> rfl
  ·unfold deP
   refine bc fun _=>bc2 rfl fun t=>?_;obtain⟨r2,n2,q2⟩:=t;cases r2 with
   | some r2=>rfl
   | none=>
    dsimp only;refine tw rfl (fun _=>bc fun _=>?_) fun _=>?_
    ·unfold ta3
     refine bc fun _=>bc2 rfl fun t=>?_;obtain⟨r3,n3⟩:=t;cases r3 <;> rfl
    ·unfold ta3
     refine bc fun _=>bc2 rfl fun t=>?_;obtain⟨r3,n3⟩:=t;cases r3 <;> rfl
section
variable{prog:Program}{w:World}{A:Around}{E:Value->Shared->Prop}{s:Shared}{κ : SortKind}{G:Value->Prop}{lt:Value->Value->Bool}
theorem Eqv.symm{x y:Value}(h:Eqv lt x y): Eqv lt y x:=⟨h.2,h.1⟩
theorem Eqv.trans(C:Cmp prog w A s κ G lt){x y z:Value}(h:Eqv lt x y)(k:Eqv lt y z): Eqv lt x z:=⟨C.tra z y x k.1 h.1,C.tra x y z h.2 k.2⟩
theorem q9u(C:Cmp prog w A s κ G lt){x x' y y':Value}(hx:Eqv lt x x')(hy:Eqv lt y y')(h:lt y' x'=false): lt y x=false:=
 C.tra x x' y hx.2 (C.tra x' y' y h hy.1)
theorem wpS_ltK{st:SortSt}(C:Cmp prog w A s κ G lt){i j:Nat}{Q:Option Bool->SortSt->Prop}(hk:kindOf st = κ)(g:Gs G st)(hi:i<(arrOf st).size)(hj:j<(arrOf st).size)
  (h:Q (some (lt (Kz (arrOf st) i) (Kz (arrOf st) j))) st):wpS (model prog w) A E s (ltAt' i j) Q st:=by
 rw [ltAt'_eq];refine gj (g1r ?_);show wpS _ _ _ _ (do let x <- elem' (arrOf st) i;let y <- elem' (arrOf st) j;lt' x y) Q st;rw [ja hi,ja hj] at h;exact gj (zd hi (gj (zd hj (q2b (C:=C) hk (g _ (by simp)) (g _ (by simp)) h))))
theorem q4q{st:SortSt}{i j:Nat}{Q:Unit->SortSt->Prop}(h:Q () (setArr st (mirror (arrOf st) i j ((j-i) / 2)))): wpS (model prog w) A E s (reverseSlice' i j) Q st:=by
 rw [reverseSlice'_eq];exact g2l h
theorem qhl(C:Cmp prog w A s κ G lt){xs:Array Keyed}{lo x:Nat}(h:Asc lt xs lo (lo+x))(h1:1<=x)(hl:lt (Kz xs (lo+x)) (Kz xs (lo+x-1))=false): Asc lt xs lo (lo+(x+1)):=by
 intro i j h2 h3 h4
 by_cases hj:j<lo+x
 ·exact h i j h2 h3 hj
 ·have:j=lo+x:=by lia
  subst this
  by_cases hi:i=lo+x
  ·subst hi;exact C.irr _
  ·exact C.tra _ _ _ (h i (lo+x-1) h2 (by lia) (by lia)) hl
theorem q2u(C:Cmp prog w A s κ G lt){xs:Array Keyed}{lo x:Nat}(h:Des lt xs lo (lo+x))(h1:1<=x)(hl:lt (Kz xs (lo+x-1)) (Kz xs (lo+x))=false): Des lt xs lo (lo+(x+1)):=by
 intro i j h2 h3 h4
 by_cases hj:j<lo+x
 ·exact h i j h2 h3 hj
 ·have:j=lo+x:=by lia
  subst this
  by_cases hi:i=lo+x
  ·subst hi;exact C.irr _
  ·exact C.tra _ _ _ hl (h i (lo+x-1) h2 (by lia) (by lia))
theorem qcg(C:Cmp prog w A s κ G lt){st:SortSt}{lo b nr:Nat}{Q:ASt->SortSt->Prop}(hk:kindOf st = κ)(g:Gs G st)(hz:lo+nr<=(arrOf st).size)(h1:1<=b)(h2:b<=nr)(hs:Asc lt (arrOf st) lo (lo+b))
  (h:∀n,b<=n->n<=nr->Asc lt (arrOf st) lo (lo+n)->(n=nr\/lt (Kz (arrOf st) (lo+n)) (Kz (arrOf st) (lo+n-1))=true)->Q (none,n) st):wpS (model prog w) A E s (asL lo b nr) Q st:=by
 unfold asL;refine tm (I:=fun x c st'=>st'=st/\c=(none,x)/\Asc lt (arrOf st) lo (lo+x)) ?_ ?_ ⟨rfl,rfl,hs⟩
 ·rintro x c st' hx1 hx2 ⟨rfl,rfl,hs'⟩
  dsimp only;refine gj (wpS_ltK C hk g (by lia) (by lia) ?_);dsimp only;cases e:lt (Kz (arrOf st') (lo+x)) (Kz (arrOf st') (lo+x-1))
  ·simp only [m7,nt]
   exact m5 ⟨rfl,rfl,qhl C hs' (by lia) e⟩
  ·simp only [ny]
   exact m5 (h x hx1 (by lia) hs' (.inr e))
 ·rintro c st' ⟨rfl,rfl,hs'⟩
  rw [show max b nr=nr by lia] at hs' ⊢;exact h nr h2 (gu _) hs' (.inl rfl)
theorem qch(C:Cmp prog w A s κ G lt){st:SortSt}{lo n nr:Nat}{Q:Option Nat->SortSt->Prop}(hk:kindOf st = κ)(g:Gs G st)(hz:lo+nr<=(arrOf st).size)(h1:1<=n)(h2:n<=nr)(hs:Des lt (arrOf st) lo (lo+n))
  (h:∀m st',Tr lo (lo+nr) st st'->1<=m->m<=nr->Asc lt (arrOf st') lo (lo+m)->Q (some m) st'):wpS (model prog w) A E s (ta3 lo n nr) Q st:=by
 unfold ta3;have hz':lo+n<=(arrOf st).size:=by lia
 refine gj (q4q ?_);have tr:Tr lo (lo+nr) st (setArr st (mirror (arrOf st) lo (lo+n) ((lo+n-lo) / 2))):=Tr.mir (gu _) (by lia) hz';refine gj (qcg C (tr.kind.trans hk) (tr.gs g) (by rw [tr.size];exact hz) h1 h2 ?_ fun m m1 m2 m3 _=>m5 (h m _ tr (by lia) m2 m3));intro i j i1 i2 i3;show lt (Kz (mirror (arrOf st) lo (lo+n) ((lo+n-lo) / 2)) j) (Kz (mirror (arrOf st) lo (lo+n) ((lo+n-lo) / 2)) i)=false;rw [q9t hz',q9t hz',m4 (by lia),m4 (by lia)];exact hs _ _ (by lia) (by lia) (by lia)
theorem q7g(C:Cmp prog w A s κ G lt){xs:Array Keyed}{i j:Nat}(hj:j<=xs.size)(he:∀k,i<=k->k<j->Eqv lt (Kz xs k) (Kz xs (j-1)))(k:Nat): Eqv lt (Kz (mirror xs i j ((j-i) / 2)) k) (Kz xs k):=by
 rw [q9t hj]
 split
 ·exact Eqv.trans C (he _ (by lia) (by lia)) (he k (by lia) (by lia)).symm
 ·exact⟨C.irr _,C.irr _⟩
theorem qk1(C:Cmp prog w A s κ G lt){st:SortSt}{lo n nr:Nat}{Q:DSt->SortSt->Prop}(hk:kindOf st = κ)(g:Gs G st)(hz:lo+nr<=(arrOf st).size)(h1:1<=n)(h2:n<=nr)(hs:Des lt (arrOf st) lo (lo+n))
  (h:∀m q st',Tr lo (lo+nr) st st'->n<=m->m<=nr->Des lt (arrOf st') lo (lo+m)->q+1<=m->(∀i,lo+m-(q+1)<=i->i<lo+m->Eqv lt (Kz (arrOf st') i) (Kz (arrOf st') (lo+m-1)))->Q (none,m,q) st') :
  wpS (model prog w) A E s (deL lo n nr) Q st:=by
 unfold deL;refine tm (I:=fun x c st'=>∃q,c=(none,x,q)/\Tr lo (lo+nr) st st'/\Des lt (arrOf st') lo (lo+x)/\q+1<=x /\
   (∀i,lo+x-(q+1)<=i->i<lo+x->Eqv lt (Kz (arrOf st') i) (Kz (arrOf st') (lo+x-1)))) ?_ ?_
  ⟨0,rfl,Tr.rfl' _ _ _,hs,by lia,fun i i1 i2=>by rw [show i=lo+n-1 by lia];exact⟨C.irr _,C.irr _⟩⟩
 ·rintro x c st' hx1 hx2 ⟨q,rfl,tr,ds,hq,he⟩
  dsimp only;have hz':lo+x<=(arrOf st').size:=by rw [tr.size];lia
  have hk':=tr.kind.trans hk;have g':=tr.gs g;refine gj (wpS_ltK C hk' g' (by rw [tr.size];lia) (by rw [tr.size];lia) ?_);dsimp only;cases e:lt (Kz (arrOf st') (lo+x)) (Kz (arrOf st') (lo+x-1))
  ·simp only [m7,nt]
   refine gj (wpS_ltK C hk' g' (by rw [tr.size];lia) (by rw [tr.size];lia) ?_);dsimp only;cases e2:lt (Kz (arrOf st') (lo+x-1)) (Kz (arrOf st') (lo+x))
   ·simp only [m7,nt]
    refine m5 ⟨q+1,rfl,tr,q2u C ds (by lia) e2,by lia,fun i i1 i2=>?_⟩;rw [show lo+(x+1)-1=lo+x by lia]
    by_cases hi:i=lo+x
    ·subst hi;exact⟨C.irr _,C.irr _⟩
    ·exact Eqv.trans C (he i (by lia) (by lia)) ⟨e2,e⟩
   ·simp only [ny]
    exact m5 (h x q st' tr hx1 (by lia) ds hq he)
  ·simp only [ny]
   have step:∀st'',Tr lo (lo+nr) st st''->(∀k,Eqv lt (Kz (arrOf st'') k) (Kz (arrOf st') k))->∃q',((none,x+1,0):DSt)=(none,x+1,q')/\Tr lo (lo+nr) st st''/\Des lt (arrOf st'') lo (lo+(x+1))/\q'+1<=x+1 /\
     (∀i,lo+(x+1)-(q'+1)<=i->i<lo+(x+1)->Eqv lt (Kz (arrOf st'') i) (Kz (arrOf st'') (lo+(x+1)-1))):=by
    intro st'' tr2 hev;refine⟨0,rfl,tr2,?_,by lia,fun i i1 i2=>by rw [show i=lo+(x+1)-1 by lia];exact⟨C.irr _,C.irr _⟩⟩;have dm:=q2u C ds (by lia) (C.asy _ _ e);intro i j i1 i2 i3;exact q9u C (hev j) (hev i) (dm i j i1 i2 i3)
   split
   ·refine gj (q4q (m5 (step _ (tr.trans (Tr.mir (by lia) (by lia) hz')) (q7g C hz' ?_))))
    exact he
   ·exact m5 (step _ tr fun k=>⟨C.irr _,C.irr _⟩)
 ·rintro c st' ⟨q,rfl,tr,ds,hq,he⟩
  rw [show max n nr=nr by lia] at ds hq he ⊢;exact h nr q st' tr h2 (gu _) ds hq he
theorem qci(C:Cmp prog w A s κ G lt){st:SortSt}{lo n nr:Nat}{Q:Option Nat->SortSt->Prop}(hk:kindOf st = κ)(g:Gs G st)(hz:lo+nr<=(arrOf st).size)(h2:n+1<=nr)(hs:Des lt (arrOf st) lo (lo+(n+1)))
  (h:∀m st',Tr lo (lo+nr) st st'->1<=m->m<=nr->Asc lt (arrOf st') lo (lo+m)->Q (some m) st'):wpS (model prog w) A E s (deP lo n nr) Q st:=by
 unfold deP;refine gj (wpS_lift (g06 ⟨rfl,?_⟩));refine gj (qk1 C hk g hz (by lia) h2 hs fun m q st' tr m1 m2 ds hq he=>?_);dsimp only;have hz':lo+m<=(arrOf st').size:=by rw [tr.size];lia
 split
 ·have tr2:Tr lo (lo+nr) st' (setArr st' (mirror (arrOf st') (lo+m-(q+1)) (lo+m) ((lo+m-(lo+m-(q+1))) / 2))):=Tr.mir (by lia) (by lia) hz'
  refine gj (q4q (qch C (tr2.kind.trans (tr.kind.trans hk)) (tr2.gs (tr.gs g)) (by rw [tr2.size,tr.size];exact hz) (by lia) m2 ?_ fun k st'' tr3=>h k st'' (tr.trans (tr2.trans tr3))));intro i j i1 i2 i3;have ev:=q7g C hz' he;exact q9u C (ev j) (ev i) (ds i j i1 i2 i3)
 ·exact qch C (tr.kind.trans hk) (tr.gs g) (by rw [tr.size];exact hz) (by lia) m2 ds fun k st'' tr3=>h k st'' (tr.trans tr3)
theorem qk2(C:Cmp prog w A s κ G lt){st:SortSt}{lo nr:Nat}{Q:Option Nat->SortSt->Prop}(hk:kindOf st = κ)(g:Gs G st)(hz:lo+nr<=(arrOf st).size)(h1:1<=nr)
  (h:∀m st',Tr lo (lo+nr) st st'->1<=m->m<=nr->Asc lt (arrOf st') lo (lo+m)->Q (some m) st'):wpS (model prog w) A E s (countRun' lo nr) Q st:=by
 rw [qn1];refine gj (qcg C hk g hz (gu _) h1 (fun i j i1 i2 i3=>by rw [show i=j by lia];exact C.irr _) fun n n1 n2 as hor=>?_);dsimp only
 split
 ·exact m5 (h n st (Tr.rfl' _ _ _) n1 n2 as)
 ·rename_i hne
  have hne':n≠nr:=by simpa using hne
  have hl:=hor.resolve_left hne'
  split
  ·refine gj (wpS_ltK C hk g (by lia) (by lia) ?_)
   dsimp only;cases e:lt (Kz (arrOf st) lo) (Kz (arrOf st) (lo+n-1))
   ·simp only [m7,nt]
    have hz':lo+n<=(arrOf st).size:=by lia
    have tr:Tr lo (lo+nr) st (setArr st (mirror (arrOf st) lo (lo+n) ((lo+n-lo) / 2))):=Tr.mir (gu _) (by lia) hz';have all:∀k,lo<=k->k<lo+n->Eqv lt (Kz (arrOf st) k) (Kz (arrOf st) (lo+n-1)):=fun k k1 k2=>
     ⟨C.tra _ _ _ (as k (lo+n-1) k1 (by lia) (by lia) |> fun z=>by exact C.tra _ _ _ e (as lo k (gu _) k1 k2)) (C.irr _),as k (lo+n-1) k1 (by lia) (by lia)⟩
    refine gj (q4q (qci C (tr.kind.trans hk) (tr.gs g) (by rw [tr.size];exact hz) (by lia) ?_ fun m st' tr2=>h m st' (tr.trans tr2)));have ev:=q7g C hz' all;have ds:Des lt (arrOf st) lo (lo+(n+1)):=by
     refine q2u C (fun i j i1 i2 i3=>?_) (by lia) (C.asy _ _ hl);exact(Eqv.trans C (all i i1 (by lia)) (all j (by lia) i3).symm).1
    intro i j i1 i2 i3;exact q9u C (ev j) (ev i) (ds i j i1 i2 i3)
   ·simp only [ny]
    exact m5 (h n st (Tr.rfl' _ _ _) n1 n2 as)
  ·have:n=1:=by lia
   subst this;refine qci C hk g hz (by lia) ?_ h;exact q2u C (fun i j i1 i2 i3=>by rw [show i=j by lia];exact C.irr _) (gu _) (C.asy _ _ hl)
end
theorem qfj{xs:Array Keyed}{src d:Nat}(hs:src<xs.size)(hd:d<=src)(k:Nat): Kz (bubble xs src d) k=if k=src-d then Kz xs src else if src-d<k/\k<=src then Kz xs (k-1) else Kz xs k:=by
 have e:=getElem?_bubble hs d hd k
 split
 ·rename_i h;rw [m4 h] at e;exact ky e
 ·rename_i h;rw [m9 h] at e
  split
  ·rename_i h2;rw [m4 h2] at e;exact ky e
  ·rename_i h2;rw [m9 h2] at e;exact ky e
theorem Tr.bub{lo hi src d:Nat}{st:SortSt}(h1:lo<=src-d)(h2:src<hi)(h3:src<(arrOf st).size)(hd:d<=src): Tr lo hi st (setArr st (bubble (arrOf st) src d)):=
 ⟨rfl,rfl,rfl,bubble_perm _ _ _,fun k hk=>by show(bubble (arrOf st) src d)[k]? = _;rw [getElem?_bubble h3 d hd,m9 (by lia),m9 (by lia)]⟩
section
variable{prog:Program}{w:World}{A:Around}{E:Value->Shared->Prop}{s:Shared}{κ : SortKind}{G:Value->Prop}{lt:Value->Value->Bool}
theorem qk3(C:Cmp prog w A s κ G lt){st:SortSt}{lo n ok:Nat}{Q:Bool->SortSt->Prop}(hk:kindOf st = κ)(g:Gs G st)(hz:lo+n<=(arrOf st).size)(hok:ok<=n)(hs:Asc lt (arrOf st) lo (lo+ok))
  (h:∀st',Tr lo (lo+n) st st'->Asc lt (arrOf st') lo (lo+n)->Q true st'):wpS (model prog w) A E s (binarySort' lo n ok) Q st:=by
 rw [binarySort'_eq];refine gj (td (tm (I:=fun k c st'=>c=(none,())/\Tr lo (lo+n) st st'/\Asc lt (arrOf st') lo (lo+min k n))
  (Q:=fun c st'=>c=(none,())/\Tr lo (lo+n) st st'/\Asc lt (arrOf st') lo (lo+n)) ?_ ?_ ?_) ?_)
 ·rintro k c st' hk1 hk2 ⟨rfl,tr,as⟩
  rw [show min k n=k by lia] at as;have hk':=tr.kind.trans hk;have g':=tr.gs g;have hz':lo+n<=(arrOf st').size:=by rw [tr.size];exact hz
  refine gj (td (tm (I:=fun x c st''=>st''=st'/\∃l r,c=(none,l,r)/\l<=r/\r<=k/\r-l<=k-x /\
    (∀i,i<l->lt (Kz (arrOf st') (lo+k)) (Kz (arrOf st') (lo+i))=false)/\(∀i,r<=i->i<k->lt (Kz (arrOf st') (lo+k)) (Kz (arrOf st') (lo+i))=true))
   (Q:=fun c st''=>st''=st'/\∃l r,c=(none,l,r)/\l<=k /\
    (∀i,i<l->lt (Kz (arrOf st') (lo+k)) (Kz (arrOf st') (lo+i))=false)/\(∀i,l<=i->i<k->lt (Kz (arrOf st') (lo+k)) (Kz (arrOf st') (lo+i))=true)) ?_ ?_ ?_) ?_)
  ·rintro x c st'' _ hx ⟨rfl,l,r,rfl,h1,h2,h3,h4,h5⟩
   dsimp only
   by_cases hge:l>=r
   ·rw [m4 hge]
    have:l=r:=by lia
    subst this;exact m5 ⟨rfl,l,l,rfl,h2,h4,h5⟩
   ·rw [m9 hge]
    refine gj (wpS_ltK C hk' g' (by lia) (by lia) ?_);dsimp only;cases e:lt (Kz (arrOf st'') (lo+k)) (Kz (arrOf st'') (lo+(l+r) / 2))
    ·simp only [m7,nt]
     refine m5 ⟨rfl,(l+r) / 2+1,r,rfl,by lia,by lia,by lia,fun i i1=>?_,h5⟩;exact C.tra _ _ _ (as (lo+i) (lo+(l+r) / 2) (by lia) (by lia) (by lia)) e
    ·simp only [ny]
     refine m5 ⟨rfl,l,(l+r) / 2,rfl,by lia,by lia,by lia,h4,fun i i1 i2=>?_⟩;cases e2:lt (Kz (arrOf st'') (lo+k)) (Kz (arrOf st'') (lo+i))
     ·have:=C.tra _ _ _ (as (lo+(l+r) / 2) (lo+i) (by lia) (by lia) (by lia)) e2
      rw [this] at e;cases e
     ·rfl
  ·rintro c st'' ⟨rfl,l,r,rfl,h1,h2,h3,h4,h5⟩
   have:l=r:=by lia
   subst this;exact⟨rfl,l,l,rfl,h2,h4,h5⟩
  ·exact⟨rfl,0,k,rfl,by lia,by lia,by lia,fun i hi=>by lia,fun i i1 i2=>by lia⟩
  ·rintro c st'' ⟨rfl,l,r,rfl,h2,h4,h5⟩
   show wpS _ _ _ _ (do moveDown' (lo+k) (lo+l);pure (ForInStep.yield (none,()))) _ _;rw [moveDown'_eq];have hks:lo+k<(arrOf st'').size:=by lia
   refine gj (g2l (m5 ⟨rfl,tr.trans (Tr.bub (by lia) (by lia) hks (by lia)),?_⟩));rw [show min (k+1) n=k+1 by lia];intro i j i1 i2 i3;show lt (Kz (bubble (arrOf st'') (lo+k) (lo+k-(lo+l))) j) (Kz (bubble (arrOf st'') (lo+k) (lo+k-(lo+l))) i)=false;rw [qfj hks (by lia),qfj hks (by lia),show lo+k-(lo+k-(lo+l))=lo+l by lia];have q4:∀i,lo<=i->i<lo+l->lt (Kz (arrOf st'') (lo+k)) (Kz (arrOf st'') i)=false:=fun i a b=>by
    have:=h4 (i-lo) (by lia);rwa [show lo+(i-lo)=i by lia] at this
   have q5:∀i,lo+l<=i->i<lo+k->lt (Kz (arrOf st'') i) (Kz (arrOf st'') (lo+k))=false:=fun i a b=>by
    have:=C.asy _ _ (h5 (i-lo) (by lia) (by lia));rwa [show lo+(i-lo)=i by lia] at this
   repeat' split
   all_goals first
    | (exfalso;lia)
    | exact C.irr _
    | exact q4 _ (by lia) (by lia)
    | exact q5 _ (by lia) (by lia)
    | exact as _ _ (by lia) (by lia) (by lia)
 ·rintro c st' ⟨hc,tr,as⟩
  rw [show min (max (max ok 1) n) n=n by lia] at as;exact⟨hc,tr,as⟩
 ·refine⟨rfl,Tr.rfl' _ _ _,fun i j i1 i2 i3=>?_⟩
  by_cases h1:ok=0
  ·rw [show i=j by lia];exact C.irr _
  ·exact hs i j i1 i2 (by lia)
 ·rintro c st' ⟨rfl,tr,as⟩
  exact m5 (h st' tr as)
end
theorem qk4(i:Nat): mergeAt' i=(do
 let s <- get
 let(some (l,n,p),some (r,m,_)):=((pendingOf s)[i]?,(pendingOf s)[i+1]?)|unsupported "internal:list.sort.pending"
 set (setPending s (((pendingOf s).setIfInBounds i (l,n+m,p)).eraseIdxIfInBounds (i+1)))
 let some k <- q0v false (<- elem' (arrOf s) r) (arrOf s) l n 0|return false
 let(l,n):=(l+k,n-k)
 if n==0 then return true
 let some m <- q0v true (<- elem' (arrOf s) (l+n-1)) (arrOf s) r m (m-1)|return false
 if m==0 then return true
 let x:=(arrOf s).extract l r
 let y:=(arrOf s).extract r (r+m)
 let z <- if n<=m then qdp x y else qdq x y
 modify fun s=>setArr s (z.toList.zipIdx.foldl (fun a (p,j)=>a.setIfInBounds (l+j) p) (arrOf s))
 return (failedOf (<- get)).isNone):=rfl
theorem q9v{o:Nat}: ∀(l:List Keyed) (j:Nat) (xs:Array Keyed) (T Y R:List Keyed),xs.toList=T++Y++R->T.length=o+j->Y.length=l.length ->
  ((l.zipIdx j).foldl (fun a (p,j)=>a.setIfInBounds (o+j) p) xs).toList=T++l++R
 | [],j,xs,T,Y,R,h,h1,h2=>by
  have:Y=[]:=g3u.mp h2;subst this;exact h
 | p :: l,j,xs,T,y :: Y,R,h,h1,h2=>by
  rw [g3o,List.foldl_cons];have e:(xs.setIfInBounds (o+j) p).toList=(T++[p])++Y++R:=by
   rw [g3b,h, <- h1];simp
  rw [q9v l (j+1) _ (T++[p]) Y R e (by simp;lia) (by simpa using h2)];simp
section
variable{prog:Program}{w:World}{A:Around}{E:Value->Shared->Prop}{s:Shared}{κ : SortKind}{G:Value->Prop}{lt:Value->Value->Bool}
theorem q14(C:Cmp prog w A s κ G lt){xs:Array Keyed}{T X R:List Keyed}{lo hi:Nat}(h:xs.toList=T++X++R)(h1:lo=T.length)(h2:hi=lo+X.length): Asc lt xs lo hi↔X.Pairwise (le lt):=by
 have hz:xs.size=T.length+X.length+R.length:=by rw [<- ng,h];simp;lia
 have at_:∀i,(hi:i<X.length)->Kz xs (lo+i)=(X[i]).1:=by
  intro i hi;have hl:lo+i<xs.size:=by lia
  rw [ja hl, <- g2n]
  congr 1
  simp only [h];rw [List.getElem_append_left (by simp;lia),List.getElem_append_right (by lia)]
  congr 1;lia
 constructor
 ·intro as
  rw [g3i];intro i j hi hj hij;have:=as (lo+i) (lo+j) (by lia) (by lia) (by lia);rw [at_ i hi,at_ j hj] at this;exact this
 ·intro pw i j i1 i2 i3
  have e1:=at_ (i-lo) (by lia);have e2:=at_ (j-lo) (by lia);rw [show lo+(i-lo)=i by lia] at e1;rw [show lo+(j-lo)=j by lia] at e2;rw [e1,e2];exact q6f C (fun x=>C.irr _) pw (by lia) (by lia)
theorem cut(l:List Keyed)(a b:Nat)(h1:a<=b)(h2:b<=l.length): l=l.take a++(l.drop a).take (b-a)++l.drop b:=by
 rw [mj];have e:(l.drop a).take (b-a)++l.drop b=l.drop a:=by
  have:=pz (b-a) (l.drop a);rw [g2y,show a+(b-a)=b by lia] at this;exact this
 rw [e,pz]
structure Aft(i l n m p:Nat)(st st':SortSt)(lt:Value->Value->Bool): Prop where
 kind:kindOf st'=kindOf st
 fail:failedOf st'=failedOf st
 pend:pendingOf st'=((pendingOf st).setIfInBounds i (l,n+m,p)).eraseIdxIfInBounds (i+1)
 perm:(arrOf st').Perm (arrOf st)
 out:∀k,(k<l\/l+n+m<=k)->Kz (arrOf st') k=Kz (arrOf st) k
 asc:Asc lt (arrOf st') l (l+n+m)
theorem qk5(C:Cmp prog w A s κ G lt){st:SortSt}{i l n m p p':Nat}{Q:Bool->SortSt->Prop}(hk:kindOf st = κ)(hf:failedOf st=none)(g:Gs G st)
  (e1:(pendingOf st)[i]? = some (l,n,p)) (e2:(pendingOf st)[i+1]? = some (l+n,m,p')) (h1:1<=n) (h2:1<=m) (hz:l+n+m<=(arrOf st).size)
  (a1:Asc lt (arrOf st) l (l+n)) (a2:Asc lt (arrOf st) (l+n) (l+n+m)) (h:∀st',Aft i l n m p st st' lt->Q true st'):wpS (model prog w) A E s (mergeAt' i) Q st:=by
 rw [qk4];refine gj (g1r ?_);rw [e1,e2];dsimp only;obtain⟨st1,hst1⟩:∃st1,st1=setPending st (((pendingOf st).setIfInBounds i (l,n+m,p)).eraseIdxIfInBounds (i+1)):=⟨_,rfl⟩
 rw [<- hst1];have hset:∀ {R:PUnit->SortSt->Prop},R ⟨⟩ st1->wpS (model prog w) A E s (set st1:StateT SortSt Sem PUnit) R st:=by
  intro R hR;unfold wpS;rw [StateT.run_set];exact gh ⟨rfl,hR⟩
 refine gj (hset ?_);have k1:kindOf st1 = κ :=by rw [hst1];exact hk
 have f1:failedOf st1=none:=by rw [hst1];exact hf
 have r1:arrOf st1=arrOf st:=by rw [hst1]
 have p1:pendingOf st1=((pendingOf st).setIfInBounds i (l,n+m,p)).eraseIdxIfInBounds (i+1):=by rw [hst1]
 have ge:∀j,(hj:j<(arrOf st).size)->G ((arrOf st)[j]).1:=fun j hj=>g _ (by simp);have kle:∀i j,(hi:i<(arrOf st).size)->(hj:j<(arrOf st).size)->Kz (arrOf st) i=((arrOf st)[i]).1/\Kz (arrOf st) j=((arrOf st)[j]).1:=fun i j hi hj=>⟨ja hi,ja hj⟩
 refine gj (zd (by lia) (gj (q13 C k1 (ge _ (by lia)) g (by lia) (by lia) (fun x y hxy hy q1=>?_) fun k hk1 g1 g2=>?_)))
 ·simp only [far1,m7,nt,g1w] at q1 ⊢
  have:=a1 (l+x) (l+y) (by lia) (by lia) (by lia);rw [ja (by lia),ja (by lia)] at this;exact C.tra _ _ _ this q1
 dsimp only;have g1':∀x,l<=x->x<l+k->lt (Kz (arrOf st) (l+n)) (Kz (arrOf st) x)=false:=by
  intro x x1 x2;have:=g1 (x-l) (by lia) (by lia);simp only [far1,m7,nt,g1w] at this;rw [ja (by lia),ja (by lia)];rw [<- this];congr 3;lia
 have g2':∀x,l+k<=x->x<l+n->lt (Kz (arrOf st) (l+n)) (Kz (arrOf st) x)=true:=by
  intro x x1 x2;have:=g2 (x-l) (by lia) (by lia);simp only [far1,m7,nt,g1m] at this;rw [ja (by lia),ja (by lia)];rw [<- this];congr 3;lia
 by_cases hkn:k=n
 ·rw [m4 (by first|(simp;done)|(simp;lia))]
  refine m5 (h st1 ⟨k1.trans hk.symm,f1.trans hf.symm,p1,by rw [r1],fun _ _=>by rw [r1],?_⟩);rw [r1];intro x y x1 x2 x3
  by_cases hy:y<l+n
  ·exact a1 x y x1 x2 hy
  ·by_cases hx:x<l+n
   ·exact C.tra _ _ _ (g1' x x1 (by lia)) (a2 (l+n) y (by lia) (by lia) (by lia))
   ·exact a2 x y (by lia) x2 x3
 rw [m9 (by simp;lia)];have hlast:l+k+(n-k)-1=l+n-1:=by lia
 refine gj (zd (by lia) (gj (q13 C k1 (ge _ (by lia)) g (by lia) (by lia) (fun x y hxy hy q1=>?_) fun j hj1 j1 j2=>?_)))
 ·simp only [far1,ny] at q1 ⊢
  have:=a2 (l+n+x) (l+n+y) (by lia) (by lia) (by lia);rw [ja (by lia),ja (by lia)] at this;cases e3:lt ((arrOf st)[l+n+x]'(by lia)).1 ((arrOf st)[l+k+(n-k)-1]'(by lia)).1
  ·rw [C.tra _ _ _ e3 this] at q1;cases q1
  ·rfl
 dsimp only;have j1':∀x,l+n<=x->x<l+n+j->lt (Kz (arrOf st) x) (Kz (arrOf st) (l+n-1))=true:=by
  intro x x1 x2;have:=j1 (x-(l+n)) (by lia) (by lia);simp only [far1,ny] at this;rw [ja (by lia),ja (by lia)];rw [<- this];congr 3 <;> lia
 have j2':∀x,l+n+j<=x->x<l+n+m->lt (Kz (arrOf st) x) (Kz (arrOf st) (l+n-1))=false:=by
  intro x x1 x2;have:=j2 (x-(l+n)) (by lia) (by lia);simp only [far1,ny] at this;rw [ja (by lia),ja (by lia)];rw [<- this];congr 3 <;> lia
 by_cases hj0:j=0
 ·rw [m4 (by first|(simp;done)|(simp;lia))]
  refine m5 (h st1 ⟨k1.trans hk.symm,f1.trans hf.symm,p1,by rw [r1],fun _ _=>by rw [r1],?_⟩);rw [r1];intro x y x1 x2 x3
  by_cases hy:y<l+n
  ·exact a1 x y x1 x2 hy
  ·by_cases hx:x<l+n
   ·exact C.tra _ _ _ (a1 x (l+n-1) x1 (by lia) (by lia)) (j2' y (by lia) (by lia))
   ·exact a2 x y (by lia) x2 x3
 rw [m9 (by simp;lia)];obtain⟨a,ha⟩:∃a,a=(arrOf st).extract (l+k) (l+n):=⟨_,rfl⟩
 obtain⟨b,hb⟩:∃b,b=(arrOf st).extract (l+n) (l+n+j):=⟨_,rfl⟩
 rw [<- ha, <- hb];obtain⟨L,hL⟩:∃L,L=(arrOf st).toList:=⟨_,rfl⟩
 have hLz:L.length=(arrOf st).size:=by rw [hL];simp
 have la:a.toList=(L.drop (l+k)).take (l+n-(l+k)):=by rw [ha,hL,uv]
 have lb:b.toList=(L.drop (l+n)).take (l+n+j-(l+n)):=by rw [hb,hL,uv]
 have sza:a.size=n-k:=by rw [<- ng,la];simp;lia
 have szb:b.size=j:=by rw [<- ng,lb];simp;lia
 have ga:∀q∈a.toList,G q.1:=fun q hq=>g q (by rw [la] at hq;rw [<- hL];exact g2m (g1c hq));have gb:∀q∈b.toList,G q.1:=fun q hq=>g q (by rw [lb] at hq;rw [<- hL];exact g2m (g1c hq));have memA:∀q∈a.toList,∃x,l+k<=x/\x<l+n/\q.1=Kz (arrOf st) x:=by
  intro q hq;rw [la] at hq;obtain⟨y,hy,rfl⟩:=t9.mp hq;simp only [tf,uo] at hy;refine⟨l+k+y,by lia,by lia,?_⟩;rw [ja (by lia)];simp [hL]
 have memB:∀q∈b.toList,∃x,l+n<=x/\x<l+n+j/\q.1=Kz (arrOf st) x:=by
  intro q hq;rw [lb] at hq;obtain⟨y,hy,rfl⟩:=t9.mp hq;simp only [tf,uo] at hy;refine⟨l+n+y,by lia,by lia,?_⟩;rw [ja (by lia)];simp [hL]
 have sA:a.toList.Pairwise (le lt):=by
  rw [la];refine(q14 C (xs:=arrOf st) (lo:=l+k) (hi:=l+n) (T:=L.take (l+k)) (R:=L.drop (l+n)) (by rw [<- hL];exact cut L (l+k) (l+n) (by lia) (by lia)) (by simp;lia) (by simp;lia)).mp ?_;exact fun x y x1 x2 x3=>a1 x y (by lia) x2 x3
 have sB:b.toList.Pairwise (le lt):=by
  rw [lb];refine(q14 C (xs:=arrOf st) (lo:=l+n) (hi:=l+n+j) (T:=L.take (l+n)) (R:=L.drop (l+n+j)) (by rw [<- hL];exact cut L (l+n) (l+n+j) (by lia) (by lia)) (by simp;lia) (by simp;lia)).mp ?_;exact fun x y x1 x2 x3=>a2 x y (by lia) x2 (by lia)
 have H:Mh G lt a b:=by
  refine⟨ga,gb,sA,sB,by lia,by lia,fun q hq=>?_,fun q hq=>?_⟩
  ·obtain⟨x,x1,x2,e⟩:=memA q hq
   have e0:(b[0]'(by lia)).1=Kz (arrOf st) (l+n):=by
    rw [ja (by lia)];simp [hb]
   rw [e,e0];exact g2' x x1 x2
  ·obtain⟨x,x1,x2,e⟩:=memB q hq
   have e0:(a[a.size-1]'(by lia)).1=Kz (arrOf st) (l+n-1):=by
    rw [ja (by lia)];simp only [ha,Array.getElem_extract]
    congr 2
    simp;lia
   rw [e,e0];exact j1' x x1 x2
 have fin:∀z st2,Eg st1 st2->Rm lt a b z->wpS (model prog w) A E s (do
   modify fun s=>setArr s (z.toList.zipIdx.foldl (fun a (p,j)=>a.setIfInBounds (l+k+j) p) (arrOf s))
   return (failedOf (<- get)).isNone) Q st2:=by
  intro z st2 eg rm;refine gj (g2l (gj (g1r ?_)));obtain⟨Z,hZ⟩:∃Z,Z=z.toList.zipIdx.foldl (fun a (p,j)=>a.setIfInBounds (l+k+j) p) (arrOf st2):=⟨_,rfl⟩
  rw [<- hZ];show wpS (model prog w) A E s (pure (failedOf st2).isNone) Q (setArr st2 Z);rw [show(failedOf st2).isNone=true by rw [eg.2.2.2,f1];rfl];have r2:arrOf st2=arrOf st:=eg.2.1.trans r1;have zlen:z.toList.length=n-k+j:=by rw [rm.1.length_eq,n9,ng,ng,sza,szb]
  have zsz:z.size=n-k+j:=by rw [<- ng];exact zlen
  obtain⟨T,hT⟩:∃T,T=L.take l:=⟨_,rfl⟩
  obtain⟨P,hP⟩:∃P,P=(L.drop l).take k:=⟨_,rfl⟩
  obtain⟨S,hS⟩:∃S,S=(L.drop (l+n+j)).take (m-j):=⟨_,rfl⟩
  obtain⟨R,hR⟩:∃R,R=L.drop (l+n+m):=⟨_,rfl⟩
  have lenT:T.length=l:=by rw [hT];simp;lia
  have lenP:P.length=k:=by rw [hP];simp;lia
  have lenS:S.length=m-j:=by rw [hS];simp;lia
  have c1:L=T++P++a.toList++b.toList++S++R:=by
   have d1:=cut L l (l+k) (by lia) (by lia);have d2:L.drop (l+k)=a.toList++L.drop (l+n):=by
    have:=pz (l+n-(l+k)) (L.drop (l+k));rw [g2y,show l+k+(l+n-(l+k))=l+n by lia, <- la] at this;exact this.symm
   have d3:L.drop (l+n)=b.toList++L.drop (l+n+j):=by
    have:=pz (l+n+j-(l+n)) (L.drop (l+n));rw [g2y,show l+n+(l+n+j-(l+n))=l+n+j by lia, <- lb] at this;exact this.symm
   have d4:L.drop (l+n+j)=S++R:=by
    have:=pz (m-j) (L.drop (l+n+j));rw [g2y,show l+n+j+(m-j)=l+n+m by lia, <- hS, <- hR] at this;exact this.symm
   rw [d2,d3,d4,show l+k-l=k by lia, <- hT, <- hP] at d1;rw [d1];simp only [mj]
  have c2:Z.toList=T++P++z.toList++S++R:=by
   have:=q9v (o:=l+k) z.toList 0 (arrOf st2) (T++P) (a.toList++b.toList) (S++R) (by rw [r2, <- hL,c1];simp only [mj]) (by simp;lia) (by simp;lia);rw [<- hZ] at this;rw [this];simp only [mj]
  have perm:Z.Perm (arrOf st):=by
   refine g07.mpr ?_;rw [c2, <- hL,c1];have:=rm.1;have q1:(T++P++z.toList++S++R).Perm (T++P++(a.toList++b.toList)++S++R):=((uh _ this).append_right _).append_right _;rw [<- mj (T++P)] at q1;exact q1
  have zs:Z.size=(arrOf st).size:=perm.size_eq;have kout:∀x,(x<l\/l+n+m<=x)->Kz Z x=Kz (arrOf st) x:=by
   intro x hx;refine ky ?_;rw [<- g0n, <- g0n,c2, <- hL,c1];rcases hx with hx|hx
   ·simp only [mj]
    rw [nh (by lia),nh (by lia)]
   ·rw [nq (by simp;lia),nq (by simp;lia)]
    congr 1
    simp;lia
  have sP:∀q∈P,∃x,l<=x/\x<l+k/\q.1=Kz (arrOf st) x:=by
   intro q hq;rw [hP] at hq;obtain⟨y,hy,rfl⟩:=t9.mp hq;simp only [tf,uo] at hy;refine⟨l+y,by lia,by lia,?_⟩;rw [ja (by lia)];simp [hL]
  have sS:∀q∈S,∃x,l+n+j<=x/\x<l+n+m/\q.1=Kz (arrOf st) x:=by
   intro q hq;rw [hS] at hq;obtain⟨y,hy,rfl⟩:=t9.mp hq;simp only [tf,uo] at hy;refine⟨l+n+j+y,by lia,by lia,?_⟩;rw [ja (by lia)];simp [hL]
  have asc:Asc lt Z l (l+n+m):=by
   refine(q14 C (T:=T) (X:=P++z.toList++S) (R:=R) (by rw [c2];simp only [mj]) lenT.symm (by simp;lia)).mpr ?_;have pP:P.Pairwise (le lt):=by
    refine(q14 C (xs:=arrOf st) (lo:=l) (hi:=l+k) (T:=T) (R:=a.toList++b.toList++S++R) (by rw [<- hL,c1];simp only [mj]) lenT.symm (by lia)).mp ?_;exact fun x y x1 x2 x3=>a1 x y x1 x2 (by lia)
   have pS:S.Pairwise (le lt):=by
    refine(q14 C (xs:=arrOf st) (lo:=l+n+j) (hi:=l+n+m) (T:=T++P++a.toList++b.toList) (R:=R) (by rw [<- hL,c1]) (by simp;lia) (by lia)).mp ?_;exact fun x y x1 x2 x3=>a2 x y (by lia) x2 x3
   refine t8.mpr ⟨t8.mpr ⟨pP,rm.2,fun q hq r hr=>?_⟩,pS,fun q hq r hr=>?_⟩
   ·obtain⟨x,x1,x2,ex⟩:=sP q hq
    unfold le;rcases pb.mp (rm.1.mem_iff.mp hr) with hr|hr
    ·obtain⟨y,y1,y2,ey⟩:=memA r hr
     rw [ex,ey];exact a1 x y x1 (by lia) y2
    ·obtain⟨y,y1,y2,ey⟩:=memB r hr
     rw [ex,ey];exact C.tra _ _ _ (g1' x x1 x2) (a2 (l+n) y (by lia) y1 (by lia))
   ·obtain⟨y,y1,y2,ey⟩:=sS r hr
    unfold le;have fromA:∀x,l<=x->x<l+n->lt (Kz (arrOf st) y) (Kz (arrOf st) x)=false:=fun x x1 x2=>C.tra _ _ _ (a1 x (l+n-1) x1 (by lia) (by lia)) (j2' y y1 y2);rcases pb.mp hq with hq|hq
    ·obtain⟨x,x1,x2,ex⟩:=sP q hq
     rw [ex,ey];exact fromA x x1 (by lia)
    ·rcases pb.mp (rm.1.mem_iff.mp hq) with hq|hq
     ·obtain⟨x,x1,x2,ex⟩:=memA q hq
      rw [ex,ey];exact fromA x (by lia) x2
     ·obtain⟨x,x1,x2,ex⟩:=memB q hq
      rw [ex,ey];exact a2 x y x1 (by lia) y2
  exact m5 (h _ ⟨(eg.1.trans k1).trans hk.symm,(eg.2.2.2.trans f1).trans hf.symm,eg.2.2.1.trans p1,perm,kout,asc⟩)
 by_cases hc:n-k<=j
 ·rw [m4 hc]
  exact gj (qju C H k1 fun z st2 eg rm=>fin z st2 eg rm)
 ·rw [m9 hc]
  exact gj (qk0 C H k1 fun z st2 eg rm=>fin z st2 eg rm)
end
abbrev Pd:=Nat×Nat×Nat
def Rn(lt:Value->Value->Bool)(xs:Array Keyed): Nat->List Pd->Nat->Prop
 | b,[],e=>b=e
 | b,q :: r,e=>q.1=b/\1<=q.2.1/\Asc lt xs b (b+q.2.1)/\Rn lt xs (b+q.2.1) r e
section
variable{lt:Value->Value->Bool}
theorem Rn.len{xs:Array Keyed}: ∀ {l:List Pd} {b e:Nat},Rn lt xs b l e->b+l.length<=e
 | [],b,e,h=>by have:b=e:=h;simp;lia
 | q :: r,b,e,h=>by have:=Rn.len h.2.2.2;have:=h.2.1;simp;lia
theorem Asc.same{xs ys:Array Keyed}{lo hi:Nat}(h:Asc lt xs lo hi)(hs:∀k,lo<=k->k<hi->Kz ys k=Kz xs k): Asc lt ys lo hi:=by
 intro i j i1 i2 i3;rw [hs i i1 (by lia),hs j (by lia) i3];exact h i j i1 i2 i3
theorem Rn.same{xs ys:Array Keyed}: ∀ {l:List Pd} {b e:Nat},Rn lt xs b l e->(∀k,b<=k->k<e->Kz ys k=Kz xs k)->Rn lt ys b l e
 | [],b,e,h,_=>h
 | q :: r,b,e,h,hs=>by
  have:=h.2.2.2.len;exact⟨h.1,h.2.1,h.2.2.1.same fun k k1 k2=>hs k k1 (by lia),h.2.2.2.same fun k k1 k2=>hs k (by lia) k2⟩
theorem Rn.push{xs:Array Keyed}: ∀ {l:List Pd} {b e n p:Nat},Rn lt xs b l e->1<=n->Asc lt xs e (e+n)->Rn lt xs b (l++[(e,n,p)]) (e+n)
 | [],b,e,n,p,h,hn,as=>by have:b=e:=h;subst this;exact⟨rfl,hn,as,rfl⟩
 | q :: r,b,e,n,p,h,hn,as=>⟨h.1,h.2.1,h.2.2.1,h.2.2.2.push hn as⟩
theorem Rn.modif{xs:Array Keyed}(f:Pd->Pd)(hf:∀q,(f q).1=q.1/\(f q).2.1=q.2.1): ∀ {l:List Pd} {i b e:Nat},Rn lt xs b l e->Rn lt xs b (l.modify i f) e
 | [],i,b,e,h=>by simpa using h
 | q :: r,0,b,e,h=>by
  rw [List.modify_zero_cons];unfold Rn at h ⊢;rw [(hf q).1,(hf q).2];exact h
 | q :: r,i+1,b,e,h=>by
  rw [List.modify_succ_cons];exact⟨h.1,h.2.1,h.2.2.1,h.2.2.2.modif f hf⟩
theorem Rn.two{xs:Array Keyed}: ∀ {l:List Pd} {i b e:Nat} {l0 n p r m p':Nat},Rn lt xs b l e->l[i]? = some (l0,n,p)->l[i+1]? = some (r,m,p') ->
  r=l0+n/\1<=n/\1<=m/\b<=l0/\l0+n+m<=e/\Asc lt xs l0 (l0+n)/\Asc lt xs (l0+n) (l0+n+m) /\
  ∀ys:Array Keyed,(∀k,(k<l0\/l0+n+m<=k)->Kz ys k=Kz xs k)->Asc lt ys l0 (l0+n+m)->Rn lt ys b ((l.set i (l0,n+m,p)).eraseIdx (i+1)) e
 | [],i,b,e,l0,n,p,r,m,p',h,e1,e2=>by simp at e1
 | [q],0,b,e,l0,n,p,r,m,p',h,e1,e2=>by simp at e2
 | q :: q2 :: r',0,b,e,l0,n,p,r,m,p',h,e1,e2=>by
  simp at e1 e2;subst e1;subst e2;obtain⟨h1,h2,h3,h4,h5,h6,h7⟩:=h;dsimp only at h1 h2 h3 h4 h5 h6 h7;subst h1;have hl:=h7.len;refine⟨h4,h2,h5,gu _,by lia,h3,h6,fun ys hs as=>?_⟩;rw [List.set_cons_zero,g3v,List.eraseIdx_cons_zero];refine⟨rfl,by show 1<=n+m;lia,by show Asc lt ys l0 (l0+(n+m));rw [<- Nat.add_assoc];exact as,?_⟩;show Rn lt ys (l0+(n+m)) r' e;rw [<- Nat.add_assoc];exact h7.same fun k k1 k2=>hs k (.inr k1)
 | q :: l,i+1,b,e,l0,n,p,r,m,p',h,e1,e2=>by
  rw [uk] at e1 e2;obtain⟨h1,h2,h3,h4⟩:=h;obtain⟨a1,a2,a3,a4,a5,a6,a7,a8⟩:=Rn.two h4 e1 e2;refine⟨a1,a2,a3,by lia,a5,a6,a7,fun ys hs as=>?_⟩;rw [List.set_cons_succ,g3v];exact⟨h1,h2,h3.same fun k k1 k2=>hs k (.inl (by lia)),a8 ys hs as⟩
end
abbrev OU:=Option Unit×Unit
abbrev ON:=Option Unit×Nat
noncomputable def srM(sz pw:Nat): StateT SortSt Sem OU:=
 forIn [0:sz] ((none,()):OU) fun _ _=>do
  let z <- get
  match if(pendingOf z).size>1 then(pendingOf z)[(pendingOf z).size-2]? else none with
  | some (_,_,ol)=>
   if ol<=pw then pure (.done (none,())) else do
    let y <- mergeAt' ((pendingOf z).size-2)
    if(!y)=true then pure (.done (some (),())) else pure (.yield (none,()))
  | _=>pure (.done (none,()))
noncomputable def srP(lo n:Nat): StateT SortSt Sem (ForInStep ON):=do
 modify fun z=>setPending z ((pendingOf z).push (lo,n,0))
 pure (.yield (none,lo+n))
noncomputable def srK(sz lo n:Nat): StateT SortSt Sem (ForInStep ON):=do
 let z <- get
 match(pendingOf z).back? with
 | some (s1,n1,_)=>do
  let t <- srM sz (power' sz (2*s1+n1) (2*s1+n1+n1+n) sz)
  match t.1 with
  | some r=>pure (.done (some r,lo))
  | none=>do
   modify fun z=>setPending z ((pendingOf z).modify ((pendingOf z).size-1) fun x=>(x.1,x.2.1,power' sz (2*s1+n1) (2*s1+n1+n1+n) sz))
   srP lo n
 | _=>srP lo n
noncomputable def srL(sz:Nat)(t:ON): StateT SortSt Sem (ForInStep ON):=
 if t.2>=sz then pure (.done (none,t.2))
 else do
  match <- countRun' t.2 (sz-t.2) with
  | some fo=>
   if fo<minRun' sz sz 0 then do
    rule "list.sort.binary-insertion"
    let y <- binarySort' t.2 (min (sz-t.2) (minRun' sz sz 0)) fo
    if(!y)=true then pure (.done (some (),t.2)) else srK sz t.2 (min (sz-t.2) (minRun' sz sz 0))
   else srK sz t.2 fo
  | _=>pure (.done (some (),t.2))
def srI(z:SortSt): Nat:=if Option.any (fun x=>decide (x<(pendingOf z)[(pendingOf z).size-2+1]?.elim 0 fun x=>x.2.1)) (if(pendingOf z).size-2>0 then Option.map (fun x=>x.2.1) (pendingOf z)[(pendingOf z).size-2-1]? else none)=true then(pendingOf z).size-2-1 else(pendingOf z).size-2
noncomputable def srE(sz:Nat): StateT SortSt Sem OU:=
 forIn [0:sz] ((none,()):OU) fun _ _=>do
  let z <- get
  if(pendingOf z).size<=1 then pure (.done (none,())) else do
   let y <- mergeAt' (srI z)
   if(!y)=true then pure (.done (some (),())) else pure (.yield (none,()))
theorem qk6:sortRuns'=(do
  let z <- get
  let t <- forIn [0:(arrOf z).size] ((none,0):ON) fun _=>srL (arrOf z).size
  match t.1 with
  | some r=>pure r
  | none=>do
   let u <- srE (arrOf z).size
   match u.1 with
   | some r=>pure r
   | none=>pure ()):=by
 rw [sortRuns'_eq];dsimp only;refine bc fun z=>bc2 (fc fun _ t=>?_) fun t=>?_
 ·unfold srL
  refine tw rfl (fun _=>rfl) fun _=>bc fun x=>?_;have kk:∀n (m:StateT SortSt Sem (ForInStep ON)),m=srK (arrOf z).size t.2 n->m=srK (arrOf z).size t.2 n:=fun _ _ h=>h;cases x with
  | none=>rfl
  | some fo=>
   dsimp only;refine tw rfl (fun _=>bc fun _=>bc fun y=>tw rfl (fun _=>rfl) fun _=>?_) fun _=>?_
   all_goals
    unfold srK;refine bc fun z2=>?_;cases(pendingOf z2).back? with
    | none=>rfl
    | some q=>
     obtain⟨s1,n1,p1⟩:=q;dsimp only;refine bc2 rfl fun t2=>?_;obtain⟨r2,u2⟩:=t2;cases r2 <;> rfl
 ·obtain⟨r,n⟩:=t
  cases r with
  | some r=>rfl
  | none=>
   dsimp only;refine bc2 rfl fun u=>?_;obtain⟨r2,u2⟩:=u;cases r2 <;> rfl
section
variable{prog:Program}{w:World}{A:Around}{E:Value->Shared->Prop}{s:Shared}{κ : SortKind}{G:Value->Prop}{lt:Value->Value->Bool}{a₀:Array Keyed}
structure SI(κ : SortKind)(lt:Value->Value->Bool)(a₀:Array Keyed)(lo:Nat)(st:SortSt): Prop where
 kind:kindOf st = κ
 fail:failedOf st=none
 perm:(arrOf st).Perm a₀
 runs:Rn lt (arrOf st) 0 (pendingOf st).toList lo
theorem SI.gs{lo:Nat}{st:SortSt}(h:SI κ lt a₀ lo st)(g:∀p∈a₀.toList,G p.1): Gs G st:=fun p hp=>g p ((g07.mp h.perm).mem_iff.mp hp)
theorem SI.size{lo:Nat}{st:SortSt}(h:SI κ lt a₀ lo st): (arrOf st).size=a₀.size:=h.perm.size_eq
theorem SI.merge(C:Cmp prog w A s κ G lt)(g:∀p∈a₀.toList,G p.1){lo i:Nat}{st:SortSt}{Q:Bool->SortSt->Prop}(h:SI κ lt a₀ lo st)(hlo:lo<=a₀.size)(hi:i+1<(pendingOf st).size)
  (hq:∀st',SI κ lt a₀ lo st'->(pendingOf st').size+1=(pendingOf st).size->(∀k,lo<=k->Kz (arrOf st') k=Kz (arrOf st) k)->Q true st'):wpS (model prog w) A E s (mergeAt' i) Q st:=by
 obtain⟨l,n,p,e1⟩:∃l n p,(pendingOf st)[i]=(l,n,p):=⟨_,_,_,rfl⟩
 obtain⟨r,m,p',e2⟩:∃r m p',(pendingOf st)[i+1]=(r,m,p'):=⟨_,_,_,rfl⟩
 have f1:(pendingOf st)[i]? = some (l,n,p):=by rw [g1n _ i (by lia),e1]
 have f2:(pendingOf st)[i+1]? = some (r,m,p'):=by rw [g1n _ (i+1) hi,e2]
 obtain⟨a1,a2,a3,a4,a5,a6,a7,a8⟩:=Rn.two h.runs (by rw [g0n];exact f1) (by rw [g0n];exact f2);subst a1;have hz:=h.size;refine qk5 C h.kind h.fail (h.gs g) f1 f2 a2 a3 (by lia) a6 a7 fun st' af=>?_;have ep:(pendingOf st').toList=((pendingOf st).toList.set i (l,n+m,p)).eraseIdx (i+1):=by
  rw [af.pend,Array.toList_eraseIdxIfInBounds,g3b]
 refine hq st' ⟨af.kind.trans h.kind,af.fail.trans h.fail,af.perm.trans h.perm,?_⟩ ?_ (fun k hk=>af.out k (.inr (by lia)))
 ·rw [ep]
  exact a8 _ af.out af.asc
 ·rw [<- ng,ep,List.length_eraseIdx,m4 (by simpa using hi),t5,ng]
  lia
theorem qk7(C:Cmp prog w A s κ G lt)(g:∀p∈a₀.toList,G p.1){lo sz pw:Nat}{st:SortSt}{Q:OU->SortSt->Prop}(h:SI κ lt a₀ lo st)(hlo:lo<=a₀.size)
  (hq:∀st',SI κ lt a₀ lo st'->(∀k,lo<=k->Kz (arrOf st') k=Kz (arrOf st) k)->Q (none,()) st'):wpS (model prog w) A E s (srM sz pw) Q st:=by
 unfold srM;refine tm (I:=fun _ c st'=>c=(none,())/\SI κ lt a₀ lo st'/\∀k,lo<=k->Kz (arrOf st') k=Kz (arrOf st) k) ?_ ?_ ⟨rfl,h,fun _ _=>rfl⟩
 ·rintro x c st' _ _ ⟨rfl,hs,hf⟩
  refine gj (g1r ?_)
  split
  ·rename_i q1 q2 ol eq
   by_cases hsz:(pendingOf st').size>1
   ·split
    ·exact m5 (hq st' hs hf)
    ·refine gj (hs.merge C g hlo (by lia) fun st2 hs2 _ hf2=>?_)
     simp only [g10,m7,nt];exact m5 ⟨rfl,hs2,fun k hk=>(hf2 k hk).trans (hf k hk)⟩
   ·rw [m9 hsz] at eq;cases eq
  ·exact m5 (hq st' hs hf)
 ·rintro c st' ⟨rfl,hs,hf⟩
  exact hq st' hs hf
theorem qcj{lo n:Nat}{st:SortSt}{Q:ForInStep ON->SortSt->Prop}(h:SI κ lt a₀ lo st)(hn:1<=n)(as:Asc lt (arrOf st) lo (lo+n))
  (hq:∀st',SI κ lt a₀ (lo+n) st'->Q (.yield (none,lo+n)) st'):wpS (model prog w) A E s (srP lo n) Q st:=by
 unfold srP;refine gj (g2l (m5 (hq _ ⟨h.kind,h.fail,h.perm,?_⟩)));show Rn lt (arrOf st) 0 ((pendingOf st).push (lo,n,0)).toList (lo+n);rw [Array.toList_push];exact h.runs.push hn as
theorem qck(C:Cmp prog w A s κ G lt)(g:∀p∈a₀.toList,G p.1){lo n sz:Nat}{st:SortSt}{Q:ForInStep ON->SortSt->Prop}(h:SI κ lt a₀ lo st)(hlo:lo+n<=a₀.size)(hn:1<=n)(as:Asc lt (arrOf st) lo (lo+n))
  (hq:∀st',SI κ lt a₀ (lo+n) st'->Q (.yield (none,lo+n)) st'):wpS (model prog w) A E s (srK sz lo n) Q st:=by
 unfold srK;refine gj (g1r ?_)
 split
 ·refine gj (qk7 C g h (by lia) fun st' hs hf=>?_)
  dsimp only;refine gj (g2l ?_);refine qcj (a₀:=a₀) (κ := κ) ⟨hs.kind,hs.fail,hs.perm,?_⟩ hn (as.same fun k k1 k2=>hf k k1) hq;show Rn lt (arrOf st') 0 ((pendingOf st').modify ((pendingOf st').size-1) _).toList lo;rw [Array.toList_modify];refine Rn.modif _ ?_ hs.runs;exact fun q=>⟨rfl,rfl⟩
 ·exact qcj h hn as hq
theorem SI.tr{lo hi:Nat}{st st':SortSt}(h:SI κ lt a₀ lo st)(t:Tr lo hi st st'): SI κ lt a₀ lo st':=
 ⟨t.kind.trans h.kind,t.fail.trans h.fail,t.perm.trans h.perm,by rw [t.pend];exact h.runs.same fun k k1 k2=>ky (t.out k (.inl k2))⟩
theorem q9w(C:Cmp prog w A s κ G lt)(g:∀p∈a₀.toList,G p.1){st:SortSt}{Q:Unit->SortSt->Prop}(hk:kindOf st = κ)(hf:failedOf st=none)(ha:arrOf st=a₀)(hp:pendingOf st = #[])
  (hq:∀st',failedOf st'=none->(arrOf st').Perm a₀->(arrOf st').toList.Pairwise (le lt)->Q () st'):wpS (model prog w) A E s sortRuns' Q st:=by
 have h0:SI κ lt a₀ 0 st:=⟨hk,hf,by rw [ha],by rw [hp];rfl⟩
 rw [qk6];refine gj (g1r ?_);rw [ha];refine gj (td (tm (I:=fun x c st'=>∃lo,c=(none,lo)/\min x a₀.size<=lo/\lo<=a₀.size/\SI κ lt a₀ lo st')
  (Q:=fun c st'=>∃lo,c=(none,lo)/\lo=a₀.size/\SI κ lt a₀ lo st') ?_ ?_ ⟨0,rfl,by lia,by lia,h0⟩) ?_)
 ·rintro x c st' _ hx ⟨lo,rfl,h1,h2,hs⟩
  unfold srL;dsimp only
  split
  ·exact m5 ⟨lo,rfl,by lia,hs⟩
  ·have hz:=hs.size
   refine gj (qk2 C hs.kind (hs.gs g) (by lia) (by lia) fun m st2 tr m1 m2 as=>?_);have hs2:=hs.tr tr;have hz2:=hs2.size;dsimp only
   split
   ·refine gj (wpS_lift (g06 ⟨rfl,?_⟩))
    refine gj (qk3 C hs2.kind (hs2.gs g) (by lia) (by lia) as fun st3 tr3 as3=>?_);simp only [g10,m7,nt];exact qck C g (hs2.tr tr3) (by lia) (by lia) as3 fun st4 hs4=>⟨_,rfl,by lia,by lia,hs4⟩
   ·exact qck C g hs2 (by lia) m1 as fun st4 hs4=>⟨_,rfl,by lia,by lia,hs4⟩
 ·rintro c st' ⟨lo,rfl,h1,h2,hs⟩
  exact⟨lo,rfl,by lia,hs⟩
 ·rintro c st' ⟨lo,rfl,rfl,hs⟩
  dsimp only;have fin:∀st2,SI κ lt a₀ a₀.size st2->(pendingOf st2).size<=1->Q () st2:=by
   intro st2 hs2 hp2;refine hq st2 hs2.fail hs2.perm ?_;have r:=hs2.runs;have hz:=hs2.size;have as:Asc lt (arrOf st2) 0 a₀.size:=by
    match e:(pendingOf st2).toList,r with
    | [],r=>
     have:0=a₀.size:=r;intro i j i1 i2 i3;lia
    | [q],r=>
     obtain⟨r1,r2,r3,r4⟩:=r;have:0+q.2.1=a₀.size:=r4;rw [<- this];exact r3
    | q :: q2 :: l,r=>
     have:=uy List.length e;simp at this;lia
   exact(q14 C (T:=[]) (X:=(arrOf st2).toList) (R:=[]) (by simp) rfl (by simp;lia)).mp as
  unfold srE;refine gj (td (tm (I:=fun x c st2=>c=(none,())/\SI κ lt a₀ a₀.size st2/\((pendingOf st2).size<=1\/(pendingOf st2).size+x<=a₀.size))
   (Q:=fun c st2=>c=(none,())/\SI κ lt a₀ a₀.size st2/\(pendingOf st2).size<=1) ?_ ?_ ⟨rfl,hs,.inr (by have:=hs.runs.len;simp at this;lia)⟩) ?_)
  ·rintro x c st2 _ hx ⟨rfl,hs2,hp2⟩
   refine gj (g1r ?_)
   split
   ·rename_i h1
    exact m5 ⟨rfl,hs2,h1⟩
   ·rename_i h1
    have hI:srI st2+1<(pendingOf st2).size:=by
     unfold srI;generalize (if(pendingOf st2).size-2>0 then Option.map (fun x:Pd=>x.2.1) (pendingOf st2)[(pendingOf st2).size-2-1]? else none)=zz
     split <;> lia
    refine gj (hs2.merge C g (gu _) hI fun st3 hs3 hp3 _=>?_);simp only [g10,m7,nt];exact m5 ⟨rfl,hs3,.inr (by lia)⟩
  ·rintro c st2 ⟨rfl,hs2,hp2⟩
   exact⟨rfl,hs2,by lia⟩
  ·rintro c st2 ⟨rfl,hs2,hp2⟩
   exact m5 (fin st2 hs2 hp2)
end
end Srt
namespace Srt
open PySem PySem.SeqAt PySem.AutoSeq1 PySem.MeetsSeq PySem.MeetsSeq2 PySem.MeetsSeq3 PySem.SeqRoads2
def LtAt(A:Around)(s:Shared)(y x:Value)(b:Bool): Prop:=∀(prog:Program) (w:World) (E:Value->Shared->Prop) (Q:Value->Shared->Prop),Q (.bool b) s->wpAny (model prog w) A (richCompare .Lt y x) Q E s
inductive LexAt(A:Around)(s:Shared)(f:Bool): List (Value×Value)->Bool->Prop
 | nil:LexAt A s f [] f
 | eq {x y r b}:EqAt A s x y true->LexAt A s f r b->LexAt A s f ((x,y) :: r) b
 | ne {x y r b}:EqAt A s x y false->LtAt A s x y b->LexAt A s f ((x,y) :: r) b
theorem qn2(l b:Addr)(is js:Array Value)(n n2:Nat)(dd dd2:Option Addr)(sl sl2:Array (Option Value)):
  Meets (Builtin.«tuple.__lt__» ⟨[.ref l,.ref b],[]⟩)
   (fun A R s=>s.heap.get? l=some {cls:=.type "tuple",dict:=dd,data:=.seq is n,slots:=sl}/\s.heap.get? b=some {cls:=.type "tuple",dict:=dd2,data:=.seq js n2,slots:=sl2} /\
    ∃c,LexAt A.in1 s (decide (is.size<js.size)) (is.toList.zip js.toList) c/\R (.ok (.ret (.bool c))) s):=
 .of_wp fun prog w A R s h=>by
  obtain⟨hp,g,d,tk,os⟩:=s;obtain⟨hl,hb,c,hc,h⟩:=h;have f2:=g0v
  wp_walk using g1h hl,g1h hb,wpAny_forIn_list _ (fun rest b s'=>b.1=none/\s'=⟨hp,g,d,tk,os⟩/\LexAt A.in1 ⟨hp,g,d,tk,os⟩ (decide (is.size<js.size)) rest c) _
  case turn=>
   rintro⟨y,x⟩ rest b s' ⟨hb',rfl,hx⟩
   cases hx with
   | eq e r=>
    refine g0 (e prog w _ _ ?_)
    wp_walk
    exact⟨rfl,rfl,r⟩
   | ne e k=>
    refine g0 (e prog w _ _ ?_);have k':∀ {E:Value->Shared->Prop} {Q:Value->Shared->Prop},Q (.bool c) ⟨hp,g,d,tk,os⟩->wpAny (model prog w) A.in1 (richCompare .Lt y x) Q E ⟨hp,g,d,tk,os⟩:=fun h=>k prog w _ _ h
    wp_walk using k'
    exact⟨_,rfl,h⟩
  case fin=>
   rintro⟨b1,b2⟩ s' ⟨hb',rfl,hx⟩
   simp only at hb';subst hb';cases hx
   wp_walk
   exact⟨_,rfl,by simpa [Builtin.Tuple.tupleCompareSizes] using h⟩
  case h=>
   exact⟨rfl,rfl,hc⟩
theorem LtAt.tuples{A:Around}{s:Shared}{l b:Addr}{is js:Array Value}{c:Bool}(hl:s.heap.IsTuple l is)(hb:s.heap.IsTuple b js)(hu:A.units<cLine)
  (he:LexAt A.in1 s (decide (is.size<js.size)) (is.toList.zip js.toList) c):LtAt A s (.ref l) (.ref b) c:=fun prog w E Q h=>by
 obtain⟨⟨cls,dd,data,sl⟩,ho,hc,n,hd⟩:=id hl;obtain⟨⟨cls2,dd2,data2,sl2⟩,ho2,hc2,n2,hd2⟩:=id hb;simp only at hc hd hc2 hd2;subst hc hd hc2 hd2;exact richCompare_meets_room (op:=.Lt) ⟨_,ho,rfl⟩ ⟨_,ho2,rfl⟩ F.slot_tuple_lt F.entry_tuple_lt (F.args_tuple_lt_2 _ _) (qn2 l b is js n n2 dd dd2 sl sl2)
  ⟨ho,ho2,c,he,show Value.bool c≠Value.notImplemented/\Q (.bool c) s from⟨(fun x=>nomatch x),h⟩⟩ hu
end Srt
namespace Srt
open PySem PyProof.Rows
def jf(h:Heap)(a:Addr)(vs:List Value): Heap:=((h.update a (Obj.mapSeq fun _=> #[])).push (seqObj "tuple" vs.toArray 0)).push (seqObj "list" #[] 0)
section
variable{prog:Program}{w:World}{A:Around}{E:Value->Shared->Prop}{s:Shared}{κ : SortKind}{G:Value->Prop}{lt:Value->Value->Bool}
theorem qfk{a:Addr}{vs:List Value}{n:Nat}{P:PySem.Fin->Shared->Prop}(ho:s.heap.get? a=some (seqObj "list" vs.toArray n))(hz:vs.length<=sizeLine)
  (hkind:2<=vs.length->∀Q:SortKind->Shared->Prop,Q κ {s with heap:=jf s.heap a vs}->wpAny (model prog w) A (keyKind' vs.toArray) Q E {s with heap:=jf s.heap a vs})
  (C:2<=vs.length->Cmp prog w A {s with heap:=jf s.heap a vs} κ G lt) (g:∀v∈vs,G v)
  (h:∀out:List Value,out.Perm vs->out.Pairwise (fun x y=>lt y x=false)->P (.done (.ret .none)) {s with heap:=sortedHeap s.heap a vs out.toArray}) :
  wpAny (model prog w) A (Builtin.«list.sort» ⟨[.ref a],[]⟩) P E s:=by
 rw [list_sort_plain];have ha:a<s.heap.objs.size:=m8 ho;refine g0 (listItems_at ho rfl ?_);refine g0 (g11 ho rfl ?_ (by simpa using hz) (by simp));obtain⟨e1,ho1⟩:∃e1,(s.heap.update a (Obj.mapSeq fun _=> #[])).get? a=some (seqObj "list" #[] e1):=⟨_,g0o ho (fun _=> #[])⟩
 refine g0 (g30 ho1 rfl ?_);refine g0 (wpAny_newTuple ?_);refine g0 (g25 ?_);refine g05 ?_;have ho6:(jf s.heap a vs).get? a=some (seqObj "list" #[] e1):=by
  unfold jf;rw [pk _ _ _ (by rw [u9,p8];exact mn (g3f ha)),pk _ _ _ (by rw [p8];exact mn ha)];exact ho1
 show wpAny (model prog w) A _ P E {s with heap:=jf s.heap a vs};dsimp only;have hsz:vs.toArray.size=vs.length:=by simp
 by_cases h2:vs.toArray.size<2
 ·rw [m4 h2,m4 h2]
  refine g0 (gh ?_);rw [StateT.run_pure];refine g0 (gh ?_);dsimp only;refine g0 (g30 ho6 rfl ?_);have ez:(Array.map (fun x:Keyed=>x.2) (vs.toArray.zip vs.toArray))=vs.toArray:=by
   apply Array.ext';simp [g3q]
  refine g0 (g11 ho6 rfl ?_ (by simp) (by show(Array.map (fun x:Keyed=>x.2) (vs.toArray.zip vs.toArray)).size<=_;rw [ez,hsz];lia));simp only [g3g,m7,nt];refine gh ?_;show P _ {s with heap:=sortedHeap s.heap a vs (Array.map (fun x:Keyed=>x.2) (vs.toArray.zip vs.toArray))};rw [ez];refine h vs (.refl _) ?_
  match vs,hsz,h2 with
  | [],_,_=>exact .nil
  | [_],_,_=>exact g0y _ _
  | _ :: _ :: _,_,h2=>simp at h2;lia
 ·rw [m9 h2,m9 h2]
  have h2':2<=vs.length:=by lia
  refine g0 (hkind h2' _ ?_);have gp:∀p∈(vs.toArray.zip vs.toArray).toList,G p.1:=fun p hp=>by
   have:p∈vs.zip vs:=by simpa using hp
   exact g _ (mem_zip_self this).2
  refine g0 (t7 (q9w (a₀:=vs.toArray.zip vs.toArray) (st:=SortSt.mk' κ (vs.toArray.zip vs.toArray) #[] 7 none)
   (Q:=fun _ st'=>failedOf st'=none/\(arrOf st').Perm (vs.toArray.zip vs.toArray)/\(arrOf st').toList.Pairwise (le lt)) (C h2') gp rfl rfl rfl rfl fun st' a1 a2 a3=>⟨a1,a2,a3⟩) ?_ fun _ _ e=>e)
  rintro⟨⟨⟩,st'⟩ s' ⟨rfl,hf,hp,hs⟩
  dsimp only;have hl:(arrOf st').toList.Perm (vs.zip vs):=by
   have:=g07.mp hp
   simpa using this
  have e2:(arrOf st').map (·.2)=((arrOf st').toList.map (·.1)).toArray:=by
   apply Array.ext';rw [Array.toList_map];exact g0f fun p hp'=>((mem_zip_self (hl.mem_iff.mp hp')).1).symm
  have hp2:((arrOf st').toList.map (·.1)).Perm vs:=by
   have:=hl.map (·.1);rwa [List.map_fst_zip (gu _)] at this
  refine g0 (g30 ho6 rfl ?_);refine g0 (g11 ho6 rfl ?_ (by simp) (by show(Array.map (fun x:Keyed=>x.2) (arrOf st')).size<=_;rw [e2,gf,hp2.length_eq];lia));rw [hf];simp only [g3g,m7,nt];refine gh ?_;show P _ {s with heap:=sortedHeap s.heap a vs ((arrOf st').map (·.2))};rw [e2];exact h _ hp2 (uf.mpr hs)
def srtH(h:Heap)(vs:List Value): Heap:=((h.push (seqObj "list" #[] 0)).update h.objs.size (Obj.mapSeq (· ++ vs.toArray))).push (seqObj "list" vs.toArray 0)
theorem qdr{l:Addr}{vs:List Value}{Q:Value->Shared->Prop}(hl:s.heap.IsList l vs.toArray)(hz:vs.length<=sizeLine)
  (hkind:2<=vs.length->∀Q:SortKind->Shared->Prop,Q κ {s with heap:=jf (srtH s.heap vs) (s.heap.objs.size+1) vs}->wpAny (model prog w) A.in1.in1 (keyKind' vs.toArray) Q E {s with heap:=jf (srtH s.heap vs) (s.heap.objs.size+1) vs})
  (C:2<=vs.length->Cmp prog w A.in1.in1 {s with heap:=jf (srtH s.heap vs) (s.heap.objs.size+1) vs} κ G lt) (g:∀v∈vs,G v)
  (h:∀out:List Value,out.Perm vs->out.Pairwise (fun x y=>lt y x=false)->Q (.ref (s.heap.objs.size+1)) {s with heap:=sortedAll s.heap vs out.toArray}) :
  wpAny (model prog w) A (call (.builtin "sorted") [.ref l]) Q E s:=by
 refine Calls.call_function_entry kind_sorted plain_sorted entry_sorted (args_sorted1 _) ?_;unfold Builtin.«sorted»;refine g0 (m:=checkCount "sorted" 1 1 _) (gh ?_);refine g0 (collect_list hl ?_ hz);refine g0 (g25 ?_);have hsz:((s.heap.push (seqObj "list" #[] 0)).update s.heap.objs.size (Obj.mapSeq (· ++ vs.toArray))).objs.size=s.heap.objs.size+1:=by
  rw [p8,u9]
 have hoL:(srtH s.heap vs).get? (s.heap.objs.size+1)=some (seqObj "list" vs.toArray 0):=by
  unfold srtH;rw [<- hsz];exact ma _ rfl
 show wpAny _ _ _ _ _ {s with heap:=srtH s.heap vs};rw [hsz];refine g0 (g05 (g09 slot_list_sort ⟨_,hoL,rfl⟩ entry_list_sort (qfk (κ := κ) (G:=G) (lt:=lt) hoL hz hkind C g fun out a1 a2=>⟨_,rfl,?_⟩) (args_list_sort _)));exact gh ⟨_,rfl,h out a1 a2⟩
end
end Srt
namespace DL
open PySem PySem.Spec PyProof.Rows L2 Srt
variable[Lam][Pin]
theorem qfl:∀n,(∀d e:D,sizeOf d<n->shD d e=true->okE d e=true/\eqD d e=(!ltT d e && !ltT e d))/\(∀ds es:List D,sizeOf ds<n->shL ds es=true->xy ds es=true/\eqL ds es=(!kb ds es && !kb es ds)):=by
 intro n
 induction n with
 | zero=>exact⟨fun d e h=>absurd h (ni _),fun d e h=>absurd h (ni _)⟩
 | succ n ih=>
  refine⟨fun d e hn h=>?_,fun ds es hn h=>?_⟩
  ·cases d <;> cases e <;> simp only [shD] at h <;> first|(cases h;done)|skip
   ·refine⟨by simp [okE,flat,flD],?_⟩
    rw [jy,jy];simp only [eqD,eqF];rename_i i j
    by_cases e1:i=j
    ·subst e1;simp
    ·have:(i==j)=false:=by simpa using e1
     rw [this]
     by_cases e2:i<j
     ·simp [e2]
     ·have e3:j<i:=by lia
      simp [e3]
   ·rw [jx,jx]
    simp only [okE,eqD];exact ih.2 _ _ (by simp at hn;lia) h
  ·cases ds with
   | nil=>cases es <;> simp [xy,eqL,kx,yr]
   | cons d ds=>
    cases es with
    | nil=>simp [xy,eqL,kx,yr]
    | cons e es=>
     simp only [shL,gv] at h;obtain⟨a1,a2⟩:=ih.1 d e (by simp at hn;lia) h.1;obtain⟨b1,b2⟩:=ih.2 ds es (by simp at hn;lia) h.2;refine⟨by simp only [xy,a1,b1,g0r],?_⟩;rw [ve,ve];simp only [eqL,a2,b2];cases e1:ltT d e <;> cases e2:ltT e d <;> simp
theorem qok{d e:D}(h:shD d e=true): okE d e=true:=((qfl (sizeOf d+1)).1 d e (uc _) h).1
theorem qiq{d e:D}(h:shD d e=true): eqD d e=(!ltT d e && !ltT e d):=((qfl (sizeOf d+1)).1 d e (uc _) h).2
section
variable{X:Cx}{pins:List (Addr×Obj)}{σ : St}{F H:Hp}{s:Shared}
theorem q7h{A:Around}(I:Inv X pins σ H s)(fh:Same F H)(f:Bool): ∀ {ds es:List D} {xs ys:List V} {us vs:List Value},(∀d∈ds,∀e x y u v,shD d e=true->A.units+vh d<cLine->Rep X.K F d x->Rep X.K F e y->RelV x u->RelV y v->LtAt A s u v (ltT d e)) ->
  shL ds es=true->A.units+ju ds<cLine->RepL X.K F ds xs->RepL X.K F es ys->Vals xs us->Vals ys vs->f=decide (ds.length<es.length)->LexAt A s f (us.zip vs) (kb ds es)
 | [],es,xs,ys,us,vs,_,_,_,k1,k2,w1,w2,hf=>by
  cases k1.nil_inv;cases w1;cases es with
  | nil=>rw [kx];simp only [List.zip_nil_left];rw [show false=f by rw [hf];simp];exact .nil
  | cons e es=>rw [yr];simp only [List.zip_nil_left];rw [show true=f by rw [hf];simp];exact .nil
 | d :: ds,[],xs,ys,us,vs,_,_,_,k1,k2,w1,w2,hf=>by
  cases k2.nil_inv;cases w2;rw [kx];simp only [List.zip_nil_right];rw [show false=f by rw [hf];simp];exact .nil
 | d :: ds,e :: es,xs,ys,us,vs,ih,hs,hu,k1,k2,w1,w2,hf=>by
  obtain⟨x,r,rfl,a1,a2⟩:=k1.cons_inv;obtain⟨y,r',rfl,b1,b2⟩:=k2.cons_inv;cases w1 with
  | cons p1 p2=>
   cases w2 with
   | cons p3 p4=>
    simp only [shL,gv] at hs;simp only [ju] at hu;rw [g35];have he:=q6a I fh A (qok hs.1) (by lia) a1 b1 p1 p3;have hl:=ih d gw e x y _ _ hs.1 (by lia) a1 b1 p1 p3;rw [qiq hs.1] at he;rw [ve];cases e1:ltT d e
    ·cases e2:ltT e d
     ·rw [e1,e2] at he
      simp only [g4g,g2x,Bool.true_and];exact .eq he (q7h I fh f (fun d' hd'=>ih d' (gq _ hd')) hs.2 (by lia) a2 b2 p2 p4 (by rw [hf];simp))
     ·rw [e1,e2] at he
      rw [e1] at hl;exact .ne he hl
    ·rw [e1] at he hl
     exact .ne he hl
theorem qn3(I:Inv X pins σ H s)(fh:Same F H): ∀ {d e:D} {x y:V} {u v:Value} (A:Around),shD d e=true->A.units+vh d<cLine->Rep X.K F d x->Rep X.K F e y->RelV x u->RelV y v->LtAt A s u v (ltT d e):=by
 suffices hh:∀n,(∀d e x y u v (A:Around),sizeOf d<n->shD d e=true->A.units+vh d<cLine->Rep X.K F d x->Rep X.K F e y->RelV x u->RelV y v->LtAt A s u v (ltT d e)) from
  fun {d e x y u v} A=>hh (sizeOf d+1) d e x y u v A (uc _)
 intro n
 induction n with
 | zero=>intro d e x y u v A h;exact absurd h (ni _)
 | succ n ih=>
  intro d e x y u v A hn hs hu r1 r2 q1 q2;cases d <;> cases e <;> simp only [shD] at hs <;> first|(cases hs;done)|skip
  ·cases rep_int.mp r1
   cases rep_int.mp r2;obtain⟨t,rfl⟩:=q1;obtain⟨t',rfl⟩:=q2;rw [jy];intro prog w E Q h;exact lt_int h
  ·rename_i ds es
   obtain⟨a,xs,rfl,k1,k2⟩:=rep_tup.mp r1;obtain⟨b,ys,rfl,k3,k4⟩:=rep_tup.mp r2;cases q1;cases q2;obtain⟨i1,v1,t1,_⟩:=I.tuple (ql fh k1);obtain⟨i2,v2,t2,_⟩:=I.tuple (ql fh k3);simp only [vh] at hu;rw [jx];refine LtAt.tuples (show s.heap.IsTuple a i1.toArray from t1) (show s.heap.IsTuple b i2.toArray from t2) (by lia) ?_;refine q7h I fh _ (fun d hd e x y u v s1 s2 s3 s4 s5 s6=>ih d e x y u v A.in1 ?_ s1 s2 s3 s4 s5 s6) hs (by show A.units+1+ju ds<cLine;lia) k2 k4 v1 v2 ?_
   ·have:=List.sizeOf_lt_of_mem hd
    simp at hn;lia
   ·rw [gf,gf, <- v1.length, <- v2.length, <- k2.length, <- k4.length]
theorem qhm(I:Inv X pins σ H s)(fh:Same F H): ∀ {d e:D} {x:V},kD d=true->kD e=true->Rep X.K F d x->Rep X.K F e x->d=e:=by
 suffices hh:∀n,(∀d e x,sizeOf d<n->kD d=true->kD e=true->Rep X.K F d x->Rep X.K F e x->d=e) from fun {d e x}=>hh (sizeOf d+1) d e x (uc _)
 intro n
 induction n with
 | zero=>intro d e x h;exact absurd h (ni _)
 | succ n ih=>
  intro d e x hn kd ke r1 r2;cases d <;> simp only [kD] at kd <;> first|(cases kd;done)|skip
  all_goals (cases e <;> simp only [kD] at ke <;> first|(cases ke;done)|skip)
  ·cases rep_int.mp r1
   cases rep_int.mp r2
   rfl
  ·cases rep_int.mp r1
   obtain⟨_,_,z,_⟩:=rep_tup.mp r2;cases z
  ·obtain⟨_,_,z,_⟩:=rep_tup.mp r1
   cases rep_int.mp r2;cases z
  ·rename_i ds es
   obtain⟨a,xs,rfl,k1,k2⟩:=rep_tup.mp r1;obtain⟨b,ys,z,k3,k4⟩:=rep_tup.mp r2;cases z;cases I.tuple_inj (ql fh k1) (ql fh k3);have seq:∀(ds es:List D) (xs:List V),sizeOf ds<n->kDL ds=true->kDL es=true->RepL X.K F ds xs->RepL X.K F es xs->ds=es:=by
    intro ds
    induction ds with
    | nil=>
     intro es xs _ _ _ k1 k2;cases k1.nil_inv;cases es with
     | nil=>rfl
     | cons e es=>obtain⟨_,_,z,_⟩:=k2.cons_inv;cases z
    | cons d ds ihd=>
     intro es xs hs h1 h2 k1 k2;obtain⟨x,r,rfl,a1,a2⟩:=k1.cons_inv;cases es with
     | nil=>cases k2.nil_inv
     | cons e es=>
      obtain⟨x',r',z,b1,b2⟩:=k2.cons_inv;cases z;simp only [kDL,gv] at h1 h2;rw [ih d e x (by simp at hs;lia) h1.1 h2.1 a1 b1,ihd es r (by simp at hs;lia) h1.2 h2.2 a2 b2]
   rw [seq ds es xs (by simp at hn;lia) kd ke k2 k4]
theorem qfm{d e:D}{x y:V}{u:Value}{K:Frag}(kd:kD d=true)(ke:kD e=true)(r1:Rep K F d x)(r2:Rep K F e y)(q1:RelV x u)(q2:RelV y u): x=y:=by
 cases d <;> simp only [kD] at kd <;> first|(cases kd;done)|skip
 all_goals (cases e <;> simp only [kD] at ke <;> first|(cases ke;done)|skip)
 ·cases rep_int.mp r1
  cases rep_int.mp r2;obtain⟨t,rfl⟩:=q1;obtain⟨t',z⟩:=q2;cases z
  rfl
 ·cases rep_int.mp r1
  obtain⟨_,_,rfl,_⟩:=rep_tup.mp r2;obtain⟨t,rfl⟩:=q1;cases q2
 ·obtain⟨_,_,rfl,_⟩:=rep_tup.mp r1
  cases rep_int.mp r2;cases q1;obtain⟨t',z⟩:=q2;cases z
 ·obtain⟨_,_,rfl,_⟩:=rep_tup.mp r1
  obtain⟨_,_,rfl,_⟩:=rep_tup.mp r2;cases q1;cases q2
  rfl
def q1c(K:Frag)(F:Hp)(d:D)(u:Value): Prop:=kD d=true/\∃x,Rep K F d x/\RelV x u
open Classical in
noncomputable def keyOf(K:Frag)(F:Hp)(u:Value): D:=if h:∃d,q1c K F d u then Classical.choose h else .non
theorem q2v(I:Inv X pins σ H s)(fh:Same F H){d:D}{u:Value}(h:q1c X.K F d u): keyOf X.K F u=d:=by
 unfold keyOf;rw [dif_pos ⟨d,h⟩];obtain⟨k1,x,a1,a2⟩:=Classical.choose_spec (⟨d,h⟩:∃d,q1c X.K F d u);obtain⟨k2,y,b1,b2⟩:=h;obtain rfl:=qfm k1 k2 a1 b1 a2 b2;exact qhm I fh k1 k2 a1 b1
theorem q87{α β : Type}(f : α -> β){l:List β}{m:List β}(p:l.Perm m): ∀ {L:List α},m=L.map f->∃L':List α,L'.Perm L/\l=L'.map f:=by
 induction p with
 | nil=>intro L h;cases L with
  | nil=>exact⟨[],.refl _,rfl⟩
  | cons a L=>cases h
 | cons x p ih=>
  intro L h;cases L with
  | nil=>cases h
  | cons a L=>
   rw [gd] at h;injection h with h1 h2
   obtain⟨L',p',e⟩:=ih h2;exact⟨a :: L',p'.cons a,by rw [gd, <- e,h1]⟩
 | swap x y r=>
  intro L h
  match L,h with
  | [],h=>cases h
  | [a],h=>injection h with h1 h2;cases h2
  | a :: b :: L,h=>
   rw [gd,gd] at h;injection h with h1 h2
   injection h2 with h2 h3
   exact⟨b :: a :: L,.swap a b L,by rw [gd,gd, <- h1, <- h2, <- h3]⟩
 | trans p q ih1 ih2=>
  intro L h;obtain⟨L2,p2,e2⟩:=ih2 h;obtain⟨L1,p1,e1⟩:=ih1 e2;exact⟨L1,p1.trans p2,e1⟩
end
end DL
namespace DL
open PySem PySem.Spec PyProof.Rows L2 Srt PySem.W
variable[Lam][Pin]
def isI:D->Bool
 | .int _=>true
 | _=>false
def qir:D->Bool
 | .tup (.int _ :: _)=>true
 | _=>false
def q0h(ks:List D): Bool:=ks.all kD&&(ks.all fun d=>ks.all fun e=>shD d e)&&(ks.all isI || (ks.all qir&&ks.all fun d=>decide (vh d<=50)))
section
variable{X:Cx}{pins:List (Addr×Obj)}{σ : St}{F H:Hp}{s:Shared}
theorem qfn{prog:Program}{w:World}{A:Around}{f c:Bool}{Q:Bool->Shared->Prop}{l:List (Value×Value)}(h:LexAt A s f l c): ∀i,1<=i->Q c s->KatLex prog w A true f Q l i s:=by
 induction h with
 | nil=>intro i _ q;exact kat_nil q
 | eq e _ ih=>intro i hi q;exact kat_cons (e prog w _ _ (kat_yes (ih (i+1) (by lia) q)))
 | ne e k=>
  intro i hi q;refine kat_cons (e prog w _ _ (kat_no ?_));have:(true&&i==0)=false:=by simp;lia
  rw [this];exact kat_one _ _ (k prog w _ _ q)
theorem q6h{h:Heap}: ∀ {vs:List Value},(∀v∈vs,∃a o xs n i t,v=.ref a/\h.get? a=some o/\o.cls=.type "tuple" /\ o.data=.seq xs n/\xs[0]? = some (Value.int i t)) ->
  ∃fs:List Value,KatTups h vs fs/\fs.length=vs.length/\∀v∈fs,∃i t,v=Value.int i t
 | [],_=>⟨[],.nil,rfl,fun v hv=>by cases hv⟩
 | v :: vs,hh=>by
  obtain⟨a,o,xs,n,i,t,rfl,h1,h2,h3,h4⟩:=hh v gw;obtain⟨fs,k1,k2,k3⟩:=q6h fun v hv=>hh v (gq _ hv);refine⟨.int i t :: fs,.cons h1 h2 h3 h4 k1,by simp [k2],fun v hv=>?_⟩;rcases mw.mp hv with rfl|hv
  ·exact⟨i,t,rfl⟩
  ·exact k3 v hv
theorem qis(I:Inv X pins σ H s)(fh:Same F H)(A:Around)(hu:A.units+60<cLine){us:List Value}{ks:List D}(st:∀u∈us,∃d∈ks,q1c X.K F d u)(ok:q0h ks=true):
  ∃ κ,(2<=us.length->∀(E:Value->Shared->Prop) (Q:SortKind->Shared->Prop),Q κ s->wpAny (model X.prog X.w) A (keyKind' us.toArray) Q E s) /\
   Cmp X.prog X.w A s κ (fun u=>u∈us) (fun u v=>ltT (keyOf X.K F u) (keyOf X.K F v)):=by
 unfold q0h at ok;rw [gv,gv,g0m,gv] at ok;obtain⟨⟨_,o2⟩,o3⟩:=ok;have sh:∀d∈ks,∀e∈ks,shD d e=true:=fun d hd e he=>mv.mp (mv.mp o2 d hd) e he;rcases o3 with o3|⟨o3,o4⟩
 ·have hin:∀u∈us,∃n t,u=Value.int n t/\keyOf X.K F u=.int n:=fun u hu=>by
   obtain⟨d,hd,hs⟩:=st u hu;have hk:=q2v I fh hs;have:=mv.mp o3 d hd;cases d <;> simp only [isI] at this <;> first|(cases this;done)|skip
   obtain⟨_,x,r,q⟩:=hs;cases rep_int.mp r;obtain⟨t,rfl⟩:=q;exact⟨_,t,rfl,hk⟩
  refine⟨oneType',fun h2 E Q q=>?_,⟨fun x y gx gy Q q=>?_,fun x y h=>q6d h,fun x y z h k=>q9r h k⟩⟩
  ·match us,h2,hin with
   | v₁ :: v₂ :: vs,_,hin=>
    rw [keyKind_ints (intsAre_map _ fun v hv=>let⟨n,t,e,_⟩:=hin v hv; ⟨n,t,e⟩)];exact gh q
  ·obtain⟨n,t,rfl,e1⟩:=hin x gx
   obtain⟨m,t',rfl,e2⟩:=hin y gy;rw [e1,e2,jy] at q;exact kat_lt_int q
 ·have tups:∀u∈us,∃d∈ks,q1c X.K F d u/\keyOf X.K F u=d/\vh d<=50/\∃i ds,d=.tup (.int i :: ds):=fun u hu=>by
   obtain⟨d,hd,hs⟩:=st u hu;have hk:=q2v I fh hs;have:=mv.mp o3 d hd;have h4:=ue (mv.mp o4 d hd);unfold qir at this
   split at this
   ·exact⟨_,hd,hs,hk,h4,_,_,rfl⟩
   ·cases this
  refine⟨tuples' true,fun h2 E Q q=>?_,⟨fun x y gx gy Q q=>?_,fun x y h=>q6d h,fun x y z h k=>q9r h k⟩⟩
  ·obtain⟨fs,k1,k2,k3⟩:=q6h (h:=s.heap) (vs:=us) fun v hv=>by
    obtain⟨d,_,⟨_,x,r,qx⟩,_,_,i,ds,rfl⟩:=tups v hv;obtain⟨a,xs,rfl,q1,q2⟩:=rep_tup.mp r;cases qx;obtain⟨x0,r0,rfl,z1,z2⟩:=q2.cons_inv;cases rep_int.mp z1;obtain⟨its,r1,⟨o,ho,hc,n,hd⟩,_⟩:=I.tuple (ql fh q1);cases r1 with
    | cons p1 p2=>
     obtain⟨t,rfl⟩:=p1;exact⟨a,o,_,n,i,t,rfl,ho,hc,hd,by simp⟩
   refine kat_kind (T:=.type "int") k1 (by lia) (fun v hv=>?_) (by rfl) q;obtain⟨i,t,rfl⟩:=k3 v hv;exact Looks.of_pure rfl
  ·obtain⟨d,hd,⟨_,x',r,qx⟩,e1,dp,i,ds,rfl⟩:=tups x gx
   obtain⟨e,he,⟨_,y',r',qy⟩,e2,dp',j,es,rfl⟩:=tups y gy;rw [e1,e2] at q;have hs:=sh _ hd _ he;obtain⟨a,xs,rfl,q1,q2⟩:=rep_tup.mp r;obtain⟨b,ys,rfl,q3,q4⟩:=rep_tup.mp r';cases qx;cases qy;obtain⟨x0,r0,rfl,z1,z2⟩:=q2.cons_inv;obtain⟨y0,w0,rfl,z3,z4⟩:=q4.cons_inv;have z1':=z1;have z3':=z3;cases rep_int.mp z1;cases rep_int.mp z3;obtain⟨its,r1,⟨o,ho,hc,n,hdt⟩,_⟩:=I.tuple (ql fh q1);obtain⟨its2,r2,⟨o2,ho2,hc2,n2,hdt2⟩,_⟩:=I.tuple (ql fh q3);have l1:=r1.length;have l2:=r2.length;have m1:=q2.length;have m2:=q4.length;cases r1 with
   | cons p1 p2=>
    cases r2 with
    | cons p3 p4=>
     have hp1:=p1;have hp3:=p3;obtain⟨t,rfl⟩:=p1;obtain⟨t',rfl⟩:=p3;simp only [shD,shL,gv] at hs;simp only [vh,ju] at dp;refine kat_lt ho hdt ho2 hdt2 ?_;rw [jx,ve] at q;have hE:=q6a I fh A (d:=.int i) (e:=.int j) (by simp [okE,flat,flD]) (by simp only [vh];lia) z1' z3' hp1 hp3;rw [qiq (by simp only [shD])] at hE;simp only [g35];have lex:=q7h I fh (A:=A) (decide (ds.length<es.length)) (fun d _ e x y u v s1 s2 s3 s4 s5 s6=>qn3 I fh A s1 s2 s3 s4 s5 s6) hs.2 (by lia) z2 z4 p2 p4 rfl;have ef:∀ {m1 m2:List Value},Paired RelV r0 m1->Paired RelV w0 m2->decide ((Value.int i t :: m1).toArray.size<(Value.int j t' :: m2).toArray.size)=decide (ds.length<es.length):=fun a3 a4=>by
      simp only [gf,ph];rw [<- g38 a3, <- g38 a4, <- z2.length, <- z4.length];simp
     rw [ef p2 p4];cases c1:ltT (.int i) (.int j)
     ·cases c2:ltT (.int j) (.int i)
      ·rw [c1,c2] at hE q
       simp only [g4g,g2x,Bool.true_and] at q;exact kat_cons (hE X.prog X.w _ _ (kat_yes (qfn lex 1 (gu _) q)))
      ·rw [c1,c2] at hE q
       refine kat_cons (hE X.prog X.w _ _ (kat_no ?_));have c1':decide (i<j)=false:=by rw [<- jy];exact c1
       refine oneLt_int ?_;rw [c1'];exact q
     ·rw [c1] at hE q
      refine kat_cons (hE X.prog X.w _ _ (kat_no ?_));have c1':decide (i<j)=true:=by rw [<- jy];exact c1
      refine oneLt_int ?_;rw [c1'];exact q
theorem qhn{K:Frag}: ∀ {ds:List D} {ys:List V} {its:List Value},RepL K F ds ys->Vals ys its->∃T:List (V×Value×D),T.map (·.1)=ys/\T.map (·.2.1)=its/\T.map (·.2.2)=ds/\∀t∈T,Rep K F t.2.2 t.1/\RelV t.1 t.2.1
 | [],ys,its,k2,r1=>by
  cases k2.nil_inv;cases r1;exact⟨[],rfl,rfl,rfl,fun t ht=>by cases ht⟩
 | d :: ds,ys,its,k2,r1=>by
  obtain⟨x,r,rfl,a1,a2⟩:=k2.cons_inv;cases r1 with
  | cons b1 b2=>
   rename_i u' us';obtain⟨T,t1,t2,t3,t4⟩:=qhn a2 b2;refine⟨(x,u',d) :: T,by simp [t1],by simp [t2],by simp [t3],fun t ht=>?_⟩;rcases mw.mp ht with rfl|ht
   ·exact⟨a1,b1⟩
   ·exact t4 t ht
def q3p:List D->Option (List D)
 | [.lst ds]=>if q0h ds then some ((yj (ds.map fun d=>(d,d))).map Prod.snd) else none
 | _=>none
theorem qho(hu:X.A.units+64<cLine): xf X (.builtin "sorted") (rCL X.K q3p):=fun pins s σ H xs us Q I rv ⟨F,ds,es,fh,rl,ho,q⟩=>by
 unfold q3p at ho
 split at ho
 ·rename_i ds
  split at ho
  ·rename_i hok
   cases ho;obtain⟨x,rfl,rx⟩:=rep1 rl;obtain⟨a,ys,rfl,k1,k2⟩:=rep_lst.mp rx;obtain⟨u,rfl,ru⟩:=vals1 rv;cases ru;obtain⟨its,r1,p1,hz⟩:=I.list (fh.seq k1);obtain⟨T,t1,t2,t3,t4⟩:=qhn k2 r1;have kds:∀d∈ds,kD d=true:=by
    unfold q0h at hok;rw [gv,gv] at hok;exact mv.mp hok.1.1
   have st:∀t∈T,q1c X.K F t.2.2 t.2.1:=fun t ht=>⟨kds _ (by rw [<- t3];exact g2u ht),t.1,t4 t ht⟩
   have hlen:its.length<=sizeLine:=by rw [<- r1.length];exact hz
   have keep:∀b o,s.heap.get? b=some o->(jf (srtH s.heap its) (s.heap.objs.size+1) its).get? b=some o:=fun b o qb=>by
    have hlt:b<s.heap.objs.size:=m8 qb;unfold jf srtH;have z1:((s.heap.push (seqObj "list" #[] 0)).update s.heap.objs.size (Obj.mapSeq (· ++ its.toArray))).objs.size=s.heap.objs.size+1:=by rw [p8,u9]
    have ne:∀k,b≠s.heap.objs.size+k:=fun k=>mn (mf hlt (g28 _ _));rw [pk _ _ _ (by rw [u9,p8,u9,z1];exact ne 3),pk _ _ _ (by rw [p8,u9,z1];exact ne 2),tu _ _ _ _ (ne 1),
     pk _ _ _ (by rw [z1];exact ne 1),tu _ _ _ _ (show b≠s.heap.objs.size from ne 0),pk _ _ _ (show b≠s.heap.objs.size from ne 0)]
    exact qb
   have I6:Inv X pins σ H {s with heap:=jf (srtH s.heap its) (s.heap.objs.size+1) its}:=I.kept (t':=s.toks) keep;obtain⟨κ,hk,C⟩:=qis I6 fh X.A.in1.in1 (by show X.A.units+1+1+60<cLine;lia) (us:=its) (ks:=ds) (fun u hu=>by
    rw [<- t2] at hu;obtain⟨t,ht,rfl⟩:=nu.mp hu;exact⟨t.2.2,by rw [<- t3];exact g2u ht,st t ht⟩) hok
   refine qdr p1.isList hlen (fun h2 Q q=>hk h2 _ Q q) (fun _=>C) (fun v hv=>hv) fun out a1 a2=>?_;obtain⟨T',pT,eT⟩:=q87 (fun t:V×Value×D=>t.2.1) a1 t2.symm;have hT':∀t∈T',Rep X.K F t.2.2 t.1/\RelV t.1 t.2.1:=fun t ht=>t4 t (pT.mem_iff.mp ht);have hk':∀t∈T',keyOf X.K F t.2.1=t.2.2:=fun t ht=>q2v I fh (st t (pT.mem_iff.mp ht));have eD:T'.map (·.2.2)=(yj (ds.map fun d=>(d,d))).map Prod.snd:=by
    have e1:T'.map (fun t=>(t.2.2,t.2.2))=yj (ds.map fun d=>(d,d)):=by
     refine q2q ?_ ?_ ?_
     ·have:=pT.map (fun t:V×Value×D=>(t.2.2,t.2.2))
      rw [<- t3,nv];exact this
     ·rw [uf]
      rw [eT,uf] at a2;refine g3r (fun {x y} hx hy h=>?_) a2;rw [hk' x hx,hk' y hy] at h;exact h
     ·intro x hx y hy h1 h2
      obtain⟨d,hd,rfl⟩:=nu.mp hx;obtain⟨e,he,rfl⟩:=nu.mp hy;rw [lt_eq (kds d hd) (kds e he) h1 h2]
    rw [<- e1,nv]
    rfl
   have hn:H (s.heap.objs.size+1)=none:=I.hok.fresh (g1e _);have vo:Vals (T'.map (·.1)) out:=by
    rw [eT];clear eT eD pT hk'
    induction T' with
    | nil=>exact .nil
    | cons t T' ih=>exact .cons (hT' t gw).2 (ih fun t ht=>hT' t (gq _ ht))
   have ro:RepL X.K F (T'.map (·.2.2)) (T'.map (·.1)):=by
    clear eT eD pT hk' vo
    induction T' with
    | nil=>exact .nil
    | cons t T' ih=>exact .cons (hT' t gw).1 (ih fun t ht=>hT' t (gq _ ht))
   obtain⟨e,he⟩:=sortedAll_at s.heap its out.toArray;have ll:(T'.map (·.1)).length<=sizeLine:=by
    rw [gr,pT.length_eq, <- gr (f:=fun t:V×Value×D=>t.1) (as:=T),t1];exact hz
   refine⟨.ref (s.heap.objs.size+1),_,I.laid (t':=s.toks) (a:=s.heap.objs.size+1) (o:=.lst (T'.map (·.1))) (fun b ob q=>sortedAll_old q) (g1e _) ⟨ll,out,e,vo,he⟩,rfl,?_⟩;exact q _ _ F _ (Grow.own fh hn) (fh.free hn) hn qq (by rw [<- eD];exact ro)
  ·cases ho
 ·cases ho
end
end DL
namespace Srt
open PySem PyProof.Rows
section
variable{prog:Program}{w:World}{A:Around}{E:Value->Shared->Prop}{s:Shared}
theorem q9x{kS:Addr}{f:Value}{vs:List Value}{J:List Value->Shared->Prop}{body:Value->PUnit->Sem (ForInStep PUnit)}(hz:vs.length<=sizeLine)
  (hb:∀x ks (s:Shared) (C:Value->Shared->Prop),ks.length<vs.length->wpAny (model prog w) A (call f [x]) (fun k s'=>(∃e,s'.heap.get? kS=some (seqObj "list" (List.toArray ks) e))/\C k {s' with heap:=s'.heap.update kS (Obj.mapSeq (·.push k))}) (fun _ _=>False) s ->
   wpAny (model prog w) A (body x ⟨⟩) (fun r s'=>r=.yield ⟨⟩/\∃k,C k s') E s)
  (hstep:∀l v r,vs=l++v :: r->∀ks s',ks.length=l.length->J ks s'->wpAny (model prog w) A (call f [v]) (fun k s''=>(∃e,s''.heap.get? kS=some (seqObj "list" (List.toArray ks) e))/\J (ks++[k]) {s'' with heap:=s''.heap.update kS (Obj.mapSeq (·.push k))}) (fun _ _=>False) s') :
  ∀(r l ks:List Value) (s:Shared),vs=l++r->ks.length=l.length->J ks s->wpAny (model prog w) A (forIn r PUnit.unit body) (fun _ s'=>∃ks,ks.length=vs.length/\J ks s') E s
 | [],l,ks,s,h1,h2,h3=>by
  rw [g4b];exact gh ⟨ks,by rw [h2,h1];simp,h3⟩
 | x :: r,l,ks,s,h1,h2,h3=>by
  rw [g1i];refine g0 (t7 (hb x ks s (fun k s'=>J (ks++[k]) s') (by rw [h1,h2];simp) (hstep l x r h1 ks s h2 h3)) (fun q s' hq=>?_) fun _ _ x=>x);obtain⟨rfl,k,hk⟩:=hq;show wpAny (model prog w) A (forIn r PUnit.unit body) _ E s';exact q9x hz hb hstep r (l++[x]) (ks++[k]) s' (by rw [h1];simp) (by simp [h2]) hk
theorem qhp{a:Addr}{f:Value}{vs:List Value}{n:Nat}{P:PySem.Fin->Shared->Prop}(ho:s.heap.get? a=some (seqObj "list" vs.toArray n))(hz:vs.length<=sizeLine)(J:List Value->Shared->Prop)
  (h0:J [] {s with heap:=jf s.heap a vs})
  (hstep:∀l v r,vs=l++v :: r->∀ks s',ks.length=l.length->J ks s'->wpAny (model prog w) A (call f [v]) (fun k s''=>(∃e,s''.heap.get? (s.heap.objs.size+1)=some (seqObj "list" (List.toArray ks) e))/\J (ks++[k]) {s'' with heap:=s''.heap.update (s.heap.objs.size+1) (Obj.mapSeq (·.push k))}) (fun _ _=>False) s')
  (hfin:∀ks s',ks.length=vs.length->J ks s'->(∃e,s'.heap.get? (s.heap.objs.size+1)=some (seqObj "list" (List.toArray ks) e))/\s'.heap.get? a=(jf s.heap a vs).get? a /\
   ∃ κ G lt,(2<=vs.length->∀(E:Value->Shared->Prop) (Q:SortKind->Shared->Prop),Q κ s'->wpAny (model prog w) A (keyKind' ks.toArray) Q E s')/\(2<=vs.length->Cmp prog w A s' κ G lt)/\(∀k∈ks,G k) /\
    ∀T:List (Value×Value),T.Perm (ks.zip vs)->T.Pairwise (le lt)->P (.done (.ret .none)) {s' with heap:=(s'.heap.update (s.heap.objs.size+1) (Obj.mapSeq fun _=> #[])).update a (Obj.mapSeq fun _=>(T.map (·.2)).toArray)}) :
  wpAny (model prog w) A (ksk_tree a f false) P E s:=by
 have ha:a<s.heap.objs.size:=m8 ho;obtain⟨e1,ho1⟩:∃e1,(s.heap.update a (Obj.mapSeq fun _=>(#[]:Array Value))).get? a=some (seqObj "list" #[] e1):=⟨_,g0o ho fun _=> #[]⟩
 have hkS:((s.heap.update a (Obj.mapSeq fun _=>(#[]:Array Value))).push (seqObj "tuple" vs.toArray 0)).objs.size=s.heap.objs.size+1:=by rw [u9,p8]
 have ho6:(jf s.heap a vs).get? a=some (seqObj "list" #[] e1):=by
  unfold jf;rw [pk _ _ _ (by rw [u9,p8];exact mn (g3f ha)),pk _ _ _ (by rw [p8];exact mn ha)];exact ho1
 have hsz:vs.toArray.size=vs.length:=by simp
 unfold ksk_tree;refine g0 (listItems_at ho rfl ?_);refine g0 (g11 ho rfl ?_ (by simpa using hz) (g0b _));refine g0 (g30 ho1 rfl ?_);refine g0 (wpAny_newTuple ?_ (by simpa using hz));refine g0 (g25 ?_ (g0b _));refine g05 ?_;rw [hkS];show wpAny (model prog w) A (ksk_rest a f false vs.toArray e1 (.ref (s.heap.objs.size+1))) P E {s with heap:=jf s.heap a vs};unfold ksk_rest;refine g0 (g06 ?_);rw [List.forIn_toArray];refine g0 (t7 (q9x (vs:=vs) (J:=J) hz (fun x ks s' C hl hx=>?_) hstep vs [] [] _ rfl rfl h0) (fun _ s' hd=>?_) fun _ _ x=>x)
 ·refine g0 (g1d (t7 hx (fun k s'' hk=>?_) fun _ _ hF=>hF.elim))
  obtain⟨⟨e,he⟩,hc⟩:=hk;dsimp only;refine g0 (g11 he rfl ?_ (by rw [gf];lia) (ml (g4i (Array.size_push ..)) (by rw [gf];lia)));exact gh ⟨rfl,k,hc⟩
 ·obtain⟨ks,hl,hJ⟩:=hd
  obtain⟨⟨e,he⟩,hA, κ,G,lt,hkind,C,g,fin⟩:=hfin ks s' hl hJ;rw [ho6] at hA;refine g0 (listItems_at he rfl ?_);unfold ksk_end;dsimp only;rw [m9 (by simp)];have hks:a≠s.heap.objs.size+1:=mn (g3f ha);have tail:∀st':SortSt,failedOf st'=none->(arrOf st').toList.Perm (ks.zip vs)->(arrOf st').toList.Pairwise (le lt)->wpAny (model prog w) A (ksk_tail a false e1 (.ref (s.heap.objs.size+1)) st') P E s':=by
   intro st' hf hp hs;unfold ksk_tail;dsimp only;have eo:(arrOf st').map (·.2)=((arrOf st').toList.map (·.2)).toArray:=by
    apply Array.ext';rw [Array.toList_map]
   rw [eo];have hlen:((arrOf st').toList.map (·.2)).length=vs.length:=by rw [gr,hp.length_eq,g0c,hl,g2h]
   refine g0 (g11 he rfl ?_ (by rw [gf,hl];exact hz) (g0b _));refine g0 (g43 ?_);have hA2:(s'.heap.update (s.heap.objs.size+1) (Obj.mapSeq fun _=> #[])).get? a=some (seqObj "list" #[] e1):=by
    rw [tu _ _ _ _ hks];exact hA
   refine g0 (g30 hA2 rfl ?_);refine g0 (g11 hA2 rfl ?_ (g0b _) (by simp only [m7,nt];rw [gf,hlen];lia));rw [hf];simp only [g3g,m7,nt];exact gh (fin _ hp hs)
  have ez:(ks.toArray.zip vs.toArray).toList=ks.zip vs:=by simp
  by_cases h2:vs.toArray.size<2
  ·rw [m4 h2,m4 h2]
   refine g0 (gh ?_);rw [StateT.run_pure];refine g0 (gh ?_);dsimp only;refine tail _ rfl ?_ ?_
   ·show(ks.toArray.zip vs.toArray).toList.Perm _
    rw [ez]
   ·show(ks.toArray.zip vs.toArray).toList.Pairwise _
    rw [ez];have:(ks.zip vs).length<2:=by rw [g0c,hl,g2h];lia
    match ks.zip vs,this with
    | [],_=>exact .nil
    | [_],_=>exact g0y _ _
    | _ :: _ :: _,h=>simp at h;lia
  ·rw [m9 h2,m9 h2]
   have h2':2<=vs.length:=by lia
   refine g0 (hkind h2' _ _ ?_);have gp:∀p∈(ks.toArray.zip vs.toArray).toList,G p.1:=fun p hp=>by
    rw [ez] at hp;exact g _ (g15 hp).1
   refine g0 (t7 (q9w (a₀:=ks.toArray.zip vs.toArray) (st:=SortSt.mk' κ (ks.toArray.zip vs.toArray) #[] 7 none)
    (Q:=fun _ st'=>failedOf st'=none/\(arrOf st').Perm (ks.toArray.zip vs.toArray)/\(arrOf st').toList.Pairwise (le lt)) (C h2') gp rfl rfl rfl rfl fun st' a1 a2 a3=>⟨a1,a2,a3⟩) ?_ fun _ _ e=>e)
   rintro⟨⟨⟩,st'⟩ s'' ⟨rfl,hf,hp,hs⟩
   dsimp only;refine tail st' hf ?_ hs;rw [<- ez];exact g07.mp hp
theorem qb5{l fa:Addr}{vs:List Value}{Q:Value->Shared->Prop}(hl:s.heap.IsList l vs.toArray)(hz:vs.length<=sizeLine)(J:List Value->Shared->Prop)
  (h0:J [] {s with heap:=jf (srtH s.heap vs) (s.heap.objs.size+1) vs})
  (hstep:∀l v r,vs=l++v :: r->∀ks s',ks.length=l.length->J ks s'->wpAny (model prog w) A.in1.in1 (call (.ref fa) [v]) (fun k s''=>(∃e,s''.heap.get? (s.heap.objs.size+3)=some (seqObj "list" (List.toArray ks) e))/\J (ks++[k]) {s'' with heap:=s''.heap.update (s.heap.objs.size+3) (Obj.mapSeq (·.push k))}) (fun _ _=>False) s')
  (hfin:∀ks s',ks.length=vs.length->J ks s'->(∃e,s'.heap.get? (s.heap.objs.size+3)=some (seqObj "list" (List.toArray ks) e))/\s'.heap.get? (s.heap.objs.size+1)=(jf (srtH s.heap vs) (s.heap.objs.size+1) vs).get? (s.heap.objs.size+1) /\
   ∃ κ G lt,(2<=vs.length->∀(E:Value->Shared->Prop) (Q:SortKind->Shared->Prop),Q κ s'->wpAny (model prog w) A.in1.in1 (keyKind' ks.toArray) Q E s')/\(2<=vs.length->Cmp prog w A.in1.in1 s' κ G lt)/\(∀k∈ks,G k) /\
    ∀T:List (Value×Value),T.Perm (ks.zip vs)->T.Pairwise (le lt)->Q (.ref (s.heap.objs.size+1)) {s' with heap:=(s'.heap.update (s.heap.objs.size+3) (Obj.mapSeq fun _=> #[])).update (s.heap.objs.size+1) (Obj.mapSeq fun _=>(T.map (·.2)).toArray)}) :
  wpAny (model prog w) A (call (.builtin "sorted") [.ref l] [(Str.ofString "key",.ref fa)]) Q E s:=by
 refine call_function_entry_kw kind_sorted plain_sorted entry_sorted (ksk_s1 _ _) ?_;unfold Builtin.«sorted»;refine g0 (m:=checkCount "sorted" 1 1 _) (gh ?_);refine g0 (collect_list hl ?_ hz);refine g0 (g25 ?_ (by simpa using hz));have hsz:((s.heap.push (seqObj "list" #[] 0)).update s.heap.objs.size (Obj.mapSeq (· ++ vs.toArray))).objs.size=s.heap.objs.size+1:=by
  rw [p8,u9]
 have hsz2:(srtH s.heap vs).objs.size=s.heap.objs.size+2:=by unfold srtH;rw [u9,hsz]
 have hoL:(srtH s.heap vs).get? (s.heap.objs.size+1)=some (seqObj "list" vs.toArray 0):=by
  unfold srtH;rw [<- hsz];exact ma _ rfl
 show wpAny _ _ _ _ _ {s with heap:=srtH s.heap vs};rw [hsz];refine g0 (g05 (wpAny_call_entry_kw slot_list_sort ⟨_,hoL,rfl⟩ entry_list_sort ?_ (ksk_l1 _ _)));show wpAny (model prog w) A.in1.in1 (Builtin.«list.sort» ⟨[.ref (s.heap.objs.size+1)],[(Str.ofString "key",.ref fa)]⟩) _ _ _;rw [ksk_t1];refine qhp (s:={s with heap:=srtH s.heap vs}) hoL hz J h0 ?_ ?_
 ·show ∀l v r,vs=l++v :: r->∀ks s',ks.length=l.length->J ks s'->wpAny (model prog w) A.in1.in1 (call (.ref fa) [v]) (fun k s''=>(∃e,s''.heap.get? ((srtH s.heap vs).objs.size+1)=some (seqObj "list" (List.toArray ks) e))/\J (ks++[k]) {s'' with heap:=s''.heap.update ((srtH s.heap vs).objs.size+1) (Obj.mapSeq (·.push k))}) (fun _ _=>False) s'
  rw [hsz2];exact hstep
 ·intro ks s' h1 h2
  show(∃e,s'.heap.get? ((srtH s.heap vs).objs.size+1)=some (seqObj "list" (List.toArray ks) e))/\s'.heap.get? (s.heap.objs.size+1)=(jf (srtH s.heap vs) (s.heap.objs.size+1) vs).get? (s.heap.objs.size+1)/\_;obtain⟨b1,b2, κ,G,lt,b3,b4,b5,b6⟩:=hfin ks s' h1 h2;rw [hsz2];exact⟨b1,b2, κ,G,lt,b3,b4,b5,fun T t1 t2=>⟨_,rfl,gh ⟨_,rfl,b6 T t1 t2⟩⟩⟩
end
end Srt
namespace DL
open PySem PySem.Spec PyProof.Rows L2 Srt PySem.W
variable[Lam][Pin]
section
variable{X:Cx}{pins:List (Addr×Obj)}{σ : St}{F H:Hp}{s:Shared}
structure Late(X:Cx)(pins:List (Addr×Obj))(b:Addr): Prop where
 loc:b≠X.env.locals
 up:X.s₀.heap.objs.size<=b
 cel:∀x c,X.env.cells.lookup x=some c->c≠b
 pin:∀p∈X.pn++pins,p.1≠b
 frs:b∉frs X.stack
theorem qn4(I:Inv X pins σ H s){b:Addr}(hb:s.heap.objs.size<=b): Late X pins b where
 loc:=g03 (mf I.lt hb)
 up:=ml I.sz hb
 cel:=fun x c e z=>by
  subst z;obtain⟨v,o,ho,_⟩:=I.cell x c e;exact absurd (m8 ho) (Nat.not_lt.mpr hb)
 pin:=fun p hp z=>by
  subst z;exact absurd (m8 (I.pin p hp).1) (Nat.not_lt.mpr hb)
 frs:=fun z=>(mw.mp (I.stkSub b z)).elim (g03 (mf I.lt hb)) (I.nofs hb)
theorem q9y(I:Inv X pins σ H s){b:Addr}(l:Late X pins b){h':Heap}(k:∀c o,c≠b->s.heap.get? c=some o->h'.get? c=some o)(hn:H b=none): Inv X pins σ H {s with heap:=h'}:=
 I.turned (t':=s.toks) k hn l.loc (.inr l.up) l.cel l.pin
theorem qfo(I:Inv X pins σ H s){b:Addr}(l:Late X pins b){h':Heap}{o:HO}(k:∀c o,c≠b->s.heap.get? c=some o->h'.get? c=some o)(hn:H b=none)(new:ObjOk X.prog X.w (upd H b o) h' b o):
  Inv X pins σ (upd H b o) {s with heap:=h'}:=by
 have nb:∀c u,H c=some u->c≠b:=fun c u e z=>by rw [z,hn] at e;cases e
 refine I.step (t':=s.toks) (g':=s.gens) (d':=s.drawn) (ch:=[b]) (fun c hc=>?_) (fun c u _ _ hc e _=>k c u (fun z=>hc (by simp [z])) e) (fun c u _ _ hc e _=>⟨u.slots,k c u (fun z=>hc (by simp [z])) e⟩)
  (fun c u hc _ n=>by rw [qh (fun z=>hc (by simp [z]))];exact n) (fun c u hc e=>⟨u,k c u (fun z=>hc (by simp [z])) e⟩) (fun c xs e=>by rw [qh (nb c _ e)];exact e) (fun c _ _ e=>by rw [qh (nb c _ e)];exact e)
  (fun c ps e=>⟨#[],by rw [qh (nb c _ e),e];simp⟩) (fun m hm=>?_) (fun c u e=>?_) I.bare
 ·have e:c=b:=by simpa using hc
  subst e;exact⟨.inr l.up,l.loc,l.cel,l.pin⟩
 ·obtain⟨u,es,ep,ho,r⟩:=hm
  exact⟨u,es,ep,k _ u (mi l.loc) ho,r⟩
 ·by_cases hc:c=b
  ·subst hc;rw [qq] at e;cases e;exact new
  ·rw [qh hc] at e
   refine(I.hok c u e).stay (fun d v hd q=>k d v ?_ q) (fun d q=>by rw [qh (nb d _ q)];exact q) fun d xs q=>by rw [qh (nb d _ q)];exact q
   rcases hd with z|z
   ·rw [z];exact hc
   ·exact nb d _ z
def yk(op:List D->Option D): List D->Option (List D)
 | []=>some []
 | d :: ds=>(op [d]).bind fun k=>(yk op ds).map fun ks=>k :: ks
def q3q:List D->Bool
 | []=>true
 | k :: r=>(r.all fun e=>ltT k e || ltT e k)&&q3q r
def q1d(op:List D->Option D): D->Option (List D)
 | .lst ds=>(yk op ds).bind fun ks=>if q0h ks&&q3q ks then some ((yj (ks.zip ds)).map Prod.snd) else none
 | _=>none
theorem q6i{op:List D->Option D}: ∀ {l:List D} {d k:D} {ks:List D},yk op l=some ks->op [d]=some k->yk op (l++[d])=some (ks++[k])
 | [],d,k,ks,h,e=>by
  cases h;simp [yk,e]
 | x :: l,d,k,ks,h,e=>by
  simp only [yk] at h;obtain⟨k1,h1,h2⟩:=g6.mp h;obtain⟨ks1,h3,h4⟩:=md.mp h2;subst h4;simp only [g0w,yk,h1,gm,q6i h3 e,pf]
theorem q88{op:List D->Option D}: ∀ {l ks:List D},yk op l=some ks->ks.length=l.length
 | [],ks,h=>by cases h;rfl
 | x :: l,ks,h=>by
  simp only [yk] at h;obtain⟨k1,h1,h2⟩:=g6.mp h;obtain⟨ks1,h3,h4⟩:=md.mp h2;subst h4;simp [q88 h3]
theorem q89{op:List D->Option D}: ∀ {l ks:List D} {d:D},yk op l=some ks->d∈l->∃k,op [d]=some k
 | x :: l,ks,d,h,hd=>by
  simp only [yk] at h;obtain⟨k1,h1,h2⟩:=g6.mp h;obtain⟨ks1,h3,h4⟩:=md.mp h2;rcases mw.mp hd with rfl|hd
  ·exact⟨k1,h1⟩
  ·exact q89 h3 hd
theorem qcl:∀ {ks:List D},q3q ks=true->∀ {i j:Nat} (hi:i<ks.length) (hj:j<ks.length),ltT ks[i] ks[j]=false->ltT ks[j] ks[i]=false->i=j
 | k :: r,h,0,0,_,_,_,_=>rfl
 | k :: r,h,0,j+1,hi,hj,a,b=>by
  simp only [q3q,gv] at h;have:=mv.mp h.1 (r[j]'(by simpa using hj)) (by simp);simp only [g46,g23] at a b;rw [a,b] at this;cases this
 | k :: r,h,i+1,0,hi,hj,a,b=>by
  simp only [q3q,gv] at h;have:=mv.mp h.1 (r[i]'(by simpa using hi)) (by simp);simp only [g46,g23] at a b;rw [a,b] at this;cases this
 | k :: r,h,i+1,j+1,hi,hj,a,b=>by
  simp only [q3q,gv] at h;simp only [g23] at a b;rw [qcl h.2 (by simpa using hi) (by simpa using hj) a b]
theorem q9z{α β γ δ : Type}: ∀ {a:List α} {b:List β} {c:List γ} {d:List δ},a.length=b.length->b.length=c.length->c.length=d.length ->
  ∃T:List (α × β × γ × δ),T.map (·.1)=a/\T.map (·.2.1)=b/\T.map (·.2.2.1)=c/\T.map (·.2.2.2)=d
 | [],[],[],[],_,_,_=>⟨[],rfl,rfl,rfl,rfl⟩
 | x :: a,y :: b,z :: c,w :: d,h1,h2,h3=>by
  obtain⟨T,t1,t2,t3,t4⟩:=q9z (a:=a) (b:=b) (c:=c) (d:=d) (by simpa using h1) (by simpa using h2) (by simpa using h3);exact⟨(x,y,z,w) :: T,by simp [t1],by simp [t2],by simp [t3],by simp [t4]⟩
theorem qa0{h:Heap}{a:Addr}{ks:List Value}{e:Nat}(ho:h.get? a=some (seqObj "list" ks.toArray e))(k:Value): ∃e',(h.update a (Obj.mapSeq (·.push k))).get? a=some (seqObj "list" (ks++[k]).toArray e'):=by
 have:=g0o ho (·.push k);have e2:(ks.toArray.push k)=(ks++[k]).toArray:=by simp
 rw [e2] at this;exact⟨_,this⟩
theorem qfp{k k':Nat}{fn l:Addr}{fd:FuncData}{ps:List Str}{sp:Sp}{op:List D->Option D}{ds es:List D}{Q:VK}(Fk:FnOk X.prog X.w X.K X.mg X.base CX0 k fn fd ps sp)
  (hsp:∀(F' H':Hp) (dv kd:D) (x:V) (Q':VK),Grow F H F' H'->Rep X.K F' dv x->op [dv]=some kd->(∀v F'' H'',Grow F' H' F'' H''->Rep X.K F'' kd v->Q' v H'')->sp [x] H' Q' E0) (hb:Binds X.K fd ps []) (hr:Room k' X.A) (hk:k+2<=k')
  (I:Inv X pins σ H s) (fh:Same F H) (rl:Rep X.K F (.lst ds) (.ref l)) (ho:q1d op (.lst ds)=some es)
  (q:∀a ys F' H',Grow F H F' H'->F' a=none->H a=none->H' a=some (.lst ys)->RepL X.K F' es ys->Q (.ref a) H') :
  wpAny (model X.prog X.w) X.A (call (.builtin "sorted") [.ref l] [(Str.ofString "key",.ref fn)]) (EP X pins σ Q) X.xe s:=by
 unfold q1d at ho;dsimp only at ho;obtain⟨dks,hks,ho⟩:=g6.mp ho
 split at ho
 ·rename_i hok
  rw [gv] at hok;cases ho;obtain⟨a,ys,z,k1,k2⟩:=rep_lst.mp rl;cases z;obtain⟨its,r1,p1,hz⟩:=I.list (fh.seq k1);have hlen:its.length<=sizeLine:=by rw [<- r1.length];exact hz
  have hlds:ds.length=its.length:=by rw [k2.length,r1.length]
  have hlks:=q88 hks;have L1:Late X pins (s.heap.objs.size+1):=qn4 I (g1e _);have L3:Late X pins (s.heap.objs.size+3):=qn4 I (g28 _ _);have rm:Room k X.A.in1.in1:=((hr.mono hk).in1).in1;have hu:X.A.in1.in1.units+60<cLine:=by have:=rm.units;lia
  have z1:((s.heap.push (seqObj "list" #[] 0)).update s.heap.objs.size (Obj.mapSeq (· ++ its.toArray))).objs.size=s.heap.objs.size+1:=by rw [p8,u9]
  have keep:∀b o,s.heap.get? b=some o->(jf (srtH s.heap its) (s.heap.objs.size+1) its).get? b=some o:=fun b o qb=>by
   have hlt:b<s.heap.objs.size:=m8 qb;unfold jf srtH;have ne:∀k,b≠s.heap.objs.size+k:=fun k=>mn (mf hlt (g28 _ _));rw [pk _ _ _ (by rw [u9,p8,u9,z1];exact ne 3),pk _ _ _ (by rw [p8,u9,z1];exact ne 2),tu _ _ _ _ (ne 1),
    pk _ _ _ (by rw [z1];exact ne 1),tu _ _ _ _ (show b≠s.heap.objs.size from ne 0),pk _ _ _ (show b≠s.heap.objs.size from ne 0)]
   exact qb
  have I6:Inv X pins σ H {s with heap:=jf (srtH s.heap its) (s.heap.objs.size+1) its}:=I.kept (t':=s.toks) keep;have hoL:(srtH s.heap its).get? (s.heap.objs.size+1)=some (seqObj "list" its.toArray 0):=by
   unfold srtH;rw [<- z1];exact ma _ rfl
  have zs:(srtH s.heap its).objs.size=s.heap.objs.size+2:=by unfold srtH;rw [u9,z1]
  obtain⟨e1,ho1⟩:∃e1,((srtH s.heap its).update (s.heap.objs.size+1) (Obj.mapSeq fun _=>(#[]:Array Value))).get? (s.heap.objs.size+1)=some (seqObj "list" #[] e1):=⟨_,g0o hoL fun _=> #[]⟩
  have hoA:(jf (srtH s.heap its) (s.heap.objs.size+1) its).get? (s.heap.objs.size+1)=some (seqObj "list" #[] e1):=by
   unfold jf;rw [pk _ _ _ (by rw [u9,p8,zs];exact mn (by lia)),pk _ _ _ (by rw [p8,zs];exact mn (by lia))];exact ho1
  have hoK:(jf (srtH s.heap its) (s.heap.objs.size+1) its).get? (s.heap.objs.size+3)=some (seqObj "list" ([]:List Value).toArray 0):=by
   unfold jf;have:s.heap.objs.size+3=(((srtH s.heap its).update (s.heap.objs.size+1) (Obj.mapSeq fun _=>(#[]:Array Value))).push (seqObj "tuple" its.toArray 0)).objs.size:=by rw [u9,p8,zs]
   rw [this];exact ma _ rfl
  have hn1:H (s.heap.objs.size+1)=none:=I.hok.fresh (g1e _);have hn3:H (s.heap.objs.size+3)=none:=I.hok.fresh (g28 _ _);refine qb5 p1.isList hlen (fun ks s'=>∃F' H' xks kds e,Inv X pins σ H' s'/\Grow F H F' H'/\RepL X.K F' kds xks/\Vals xks ks/\yk op (ds.take ks.length)=some kds /\
   s'.heap.get? (s.heap.objs.size+3)=some (seqObj "list" ks.toArray e)/\H' (s.heap.objs.size+3)=none/\s'.heap.get? (s.heap.objs.size+1)=some (seqObj "list" #[] e1)/\H' (s.heap.objs.size+1)=none)
   ⟨F,H,[],[],0,I6,.refl fh,.nil,.nil,rfl,hoK,hn3,hoA,hn1⟩ ?_ ?_
  ·rintro l0 v r0 hv ks s' hl ⟨F',H',xks,kds,e,I',g',rk,vk,hkd,hK,nK,hA,nA⟩
   -- the next item
   have hi:ks.length<ds.length:=by rw [hlds,hv,hl];simp
   have hvi:its[ks.length]? = some v:=by rw [hv,hl];simp
   obtain⟨dv,hdv⟩:∃dv,ds[ks.length]? = some dv:=⟨_,g1n ds _ hi⟩
   obtain⟨x,hx,rx⟩:=k2.get hdv;obtain⟨u,hu',ru⟩:=r1.get hx;rw [hvi] at hu';obtain rfl:v=u:=m6 hu';obtain⟨kd,hkd'⟩:=q89 hks (p6 hdv);have hbs:BindsTo s' fd ⟨[v],[]⟩ (ps.zip ([v]++[])):=hb s' [v] I'.kIn (by
    have:=Fk.len [x] H' (fun v H''=>∃F'',Grow F' H' F'' H''/\Rep X.K F'' kd v) E0 (hsp F' H' dv kd x _ g' (rx.mono g'.ff) hkd' fun v F'' H'' g'' r''=>⟨F'',g'',r''⟩)
    simpa using this)
   refine g3h (g2e (Fk.run X.A.in1.in1 X.stack s' H' ⟨[v],[]⟩ [v] [x] (fun v H''=>∃F'',Grow F' H' F'' H''/\Rep X.K F'' kd v) E0 rm ⟨I'.ok.frames,I'.ok.mod,I'.bs,ml I'.ok.bsz I'.sz,I'.stack,I'.stkFree,I'.hok,I'.bare⟩ hbs (.cons ru .nil)
    (hsp F' H' dv kd x _ g' (rx.mono g'.ff) hkd' fun v F'' H'' g'' r''=>⟨F'',g'',r''⟩)) fun r s'' hq=>?_)
   cases r with
   | error er=>exact hq.elim
   | ok fl=>
    cases fl with
    | next=>exact False.elim hq
    | brk=>exact False.elim hq
    | cont=>exact False.elim hq
    | ret kv=>
     obtain⟨vv,H'',os,bare,un,hok',rv,F'',g'',rr⟩:=(show CE X.stack X.prog X.w H' s' _ kv s'' from hq)
     have hK2:=un.keep _ _ hK nK L3.frs (by simp);have hA2:=un.keep _ _ hA nA L1.frs (by simp);have nK2:=un.free _ _ hK nK (by simp);have nA2:=un.free _ _ hA nA (by simp);obtain⟨hh,gg,dd,tt,oo⟩:=s'';obtain rfl:oo=s'.os:=os;have I2:=I'.call (h':=hh) (g':=gg) (d':=dd) (t':=tt) (ch:=[]) un hok' bare (fun b z=>absurd z (by simp));obtain⟨e',hK3⟩:=qa0 hK2 kv;have I3:=q9y I2 L3 (h':=hh.update (s.heap.objs.size+3) (Obj.mapSeq (·.push kv))) (fun c o hc e=>by rw [tu _ _ _ _ hc];exact e) nK2;refine⟨⟨e,hK2⟩,F'',H'',xks++[vv],kds++[kd],e',I3,g'.trans g'',(rk.mono g''.ff).append (.cons rr .nil),vk.append (.cons rv .nil),?_,hK3,nK2,?_,nA2⟩
     ·rw [n9,g0l,p7 hi]
      refine q6i hkd ?_;have:ds[ks.length]=dv:=by rw [g1n ds _ hi] at hdv;exact m6 hdv
      rw [this];exact hkd'
     ·show(hh.update _ _).get? _=_
      rw [tu _ _ _ _ (mn (by lia))];exact hA2
  ·rintro ks s' hl ⟨F',H',xks,kds,e,I',g',rk,vk,hkd,hK,nK,hA,nA⟩
   rw [hl, <- hlds,List.take_length,hks] at hkd;obtain rfl:dks=kds:=m6 hkd;refine⟨⟨e,hK⟩,by rw [hA,hoA],?_⟩;have hkl:ks.length=dks.length:=by rw [<- vk.length,rk.length]
   obtain⟨T,t1,t2,t3,t4⟩:=qhn rk vk;have kdk:∀d∈dks,kD d=true:=by
    have:=hok.1;unfold q0h at this;rw [gv,gv] at this;exact mv.mp this.1.1
   have st:∀u∈ks,∃d∈dks,q1c X.K F' d u:=fun u hu=>by
    rw [<- t2] at hu;obtain⟨t,ht,rfl⟩:=nu.mp hu;have hm:t.2.2∈dks:=by rw [<- t3];exact g2u ht
    exact⟨t.2.2,hm,kdk _ hm,t.1,t4 t ht⟩
   obtain⟨κ,hkind,C⟩:=qis I' g'.fh X.A.in1.in1 hu st hok.1;refine⟨κ,_,_,fun h2=>hkind (by lia),fun _=>C,fun _ h=>h,fun Tz tp ts=>?_⟩
   -- all five rows together
   obtain⟨T,w1,w2,w3,w4⟩:=q9z (a:=xks.zip ks) (b:=dks) (c:=its) (d:=ys.zip ds) (by rw [g0c,rk.length,vk.length];simp) (by rw [hlks,hlds]) (by rw [g0c,r1.length,hlds];simp);have uT:ks.zip its=T.map fun t=>(t.1.2,t.2.2.1):=by
    rw [<- w3, <- g3q (l₁:=xks) (l₂:=ks) (by rw [vk.length];exact gu _), <- w1];simp [g4h,nv,Function.comp_def]
   obtain⟨T',pT,eT⟩:=q87 (fun t:(V×Value)×D×Value×V×D=>(t.1.2,t.2.2.1)) tp uT;have rel:∀t∈T,Rep X.K F' t.2.1 t.1.1/\RelV t.1.1 t.1.2/\Rep X.K F' t.2.2.2.2 t.2.2.2.1/\RelV t.2.2.2.1 t.2.2.1/\t.2.1∈dks:=by
    intro t ht;obtain⟨i,hi,rfl⟩:=t9.mp ht;have e1':(xks.zip ks)[i]? = some T[i].1:=by rw [<- w1];simp [hi]
    have e2':dks[i]? = some T[i].2.1:=by rw [<- w2];simp [hi]
    have e3':its[i]? = some T[i].2.2.1:=by rw [<- w3];simp [hi]
    have e4':(ys.zip ds)[i]? = some T[i].2.2.2:=by rw [<- w4];simp [hi]
    rw [g3j] at e1' e4';obtain⟨x,hx,rx⟩:=rk.get e2';rw [e1'.1] at hx;obtain rfl:=m6 hx;obtain⟨u,hu2,ru⟩:=vk.get e1'.1;rw [e1'.2] at hu2;obtain rfl:=m6 hu2;obtain⟨y,hy,ry⟩:=k2.get e4'.2;rw [e4'.1] at hy;obtain rfl:=m6 hy;obtain⟨w,hw,rw'⟩:=r1.get e4'.1;rw [e3'] at hw;obtain rfl:=m6 hw;exact⟨rx,ru,ry.mono g'.ff,rw',p6 e2'⟩
   have rel':∀t∈T',_:=fun t ht=>rel t (pT.mem_iff.mp ht);have hkey:∀t∈T',keyOf X.K F' t.1.2=t.2.1:=fun t ht=>q2v I' g'.fh ⟨kdk _ (rel' t ht).2.2.2.2,_,(rel' t ht).1,(rel' t ht).2.1⟩;have eD:T'.map (fun t=>t.2.2.2.2)=(yj (dks.zip ds)).map Prod.snd:=by
    have ez:dks.zip ds=T.map fun t=>(t.2.1,t.2.2.2.2):=by
     rw [<- w2, <- g3q (l₁:=ys) (l₂:=ds) (by rw [<- k2.length];exact gu _), <- w4];simp [g4h,nv,Function.comp_def]
    have e1:T'.map (fun t=>(t.2.1,t.2.2.2.2))=yj (dks.zip ds):=by
     refine q2q ?_ ?_ ?_
     ·rw [ez];exact pT.map _
     ·rw [uf]
      rw [eT,uf] at ts;refine g3r (fun {x y} hx hy h=>?_) ts;have h':ltT (keyOf X.K F' y.1.2) (keyOf X.K F' x.1.2)=false:=h;rw [hkey x hx,hkey y hy] at h';exact h'
     ·intro x hx y hy h1 h2
      obtain⟨i,hi,rfl⟩:=t9.mp hx;obtain⟨j,hj,rfl⟩:=t9.mp hy;rw [g0c] at hi hj;simp only [List.getElem_zip] at h1 h2 ⊢;have:i=j:=qcl hok.2 (by lia) (by lia) h1 h2;subst this;rfl
    rw [<- e1,nv]
    rfl
   have hout:Tz.map (·.2)=T'.map fun t=>t.2.2.1:=by rw [eT,nv];rfl
   have vo:Vals (T'.map fun t=>t.2.2.2.1) (Tz.map (·.2)):=by
    rw [hout];clear eT eD pT hkey hout
    induction T' with
    | nil=>exact .nil
    | cons t T' ih=>exact .cons (rel' t gw).2.2.2.1 (ih fun t ht=>rel' t (gq _ ht))
   have ro:RepL X.K F' (T'.map fun t=>t.2.2.2.2) (T'.map fun t=>t.2.2.2.1):=by
    clear eT eD pT hkey hout vo
    induction T' with
    | nil=>exact .nil
    | cons t T' ih=>exact .cons (rel' t gw).2.2.1 (ih fun t ht=>rel' t (gq _ ht))
   have ll:(T'.map fun t=>t.2.2.2.1).length<=sizeLine:=by
    rw [gr,pT.length_eq];have:=uy List.length w3;rw [gr] at this;rw [this];exact hlen
   have I8:=q9y I' L3 (h':=s'.heap.update (s.heap.objs.size+3) (Obj.mapSeq fun _=> #[])) (fun c o hc e=>by rw [tu _ _ _ _ hc];exact e) nK;have hA8:(s'.heap.update (s.heap.objs.size+3) (Obj.mapSeq fun _=> #[])).get? (s.heap.objs.size+1)=some (seqObj "list" #[] e1):=by
    rw [tu _ _ _ _ (mn (by lia))];exact hA
   obtain⟨e9,hA9⟩:∃e9,((s'.heap.update (s.heap.objs.size+3) (Obj.mapSeq fun _=> #[])).update (s.heap.objs.size+1) (Obj.mapSeq fun _=>(Tz.map (·.2)).toArray)).get? (s.heap.objs.size+1)=some (seqObj "list" (Tz.map (·.2)).toArray e9):=⟨_,g0o hA8 fun _=>(Tz.map (·.2)).toArray⟩
   have I9:=qfo I8 L1 (o:=.lst (T'.map fun t=>t.2.2.2.1)) (h':=(s'.heap.update (s.heap.objs.size+3) (Obj.mapSeq fun _=> #[])).update (s.heap.objs.size+1) (Obj.mapSeq fun _=>(Tz.map (·.2)).toArray))
    (fun c o hc e=>by rw [tu _ _ _ _ hc];exact e) nA ⟨ll,_,e9,vo,hA9⟩
   refine⟨.ref (s.heap.objs.size+1),_,I9,rfl,?_⟩;have gg:Grow F' H' F' (upd H' (s.heap.objs.size+1) (.lst (T'.map fun t=>t.2.2.2.1))):=Grow.own g'.fh nA;exact q _ _ F' _ (g'.trans gg) (g'.fh.free nA) hn1 qq (by rw [<- eD];exact ro)
 ·cases ho
def q4r(op:List D->Option D): List D->Option (List D)
 | [d]=>q1d op d
 | _=>none
end
def q11(mg:Str->Option Value)(base:Heap): Prop:=∃bm ob,mg "__builtins__" = some (.ref bm)/\bm≠builtinsNs/\base.get? bm=some ob/\ob.cls=.type "module" /\ ob.dict=some builtinsNs/\ob.data=.plain
def tabOf(o:Obj): Option Addr:=match o.data with
 | .fields vs=>(match(vs[11]? : Option Value) with
  | some (.ref P)=>some P
  | _=>none)
 | _=>none
omit [Lam] [Pin] in
theorem qhq{K:Frag}{x:Str}{f c P:Addr}{oc:Value}{od:Option Addr}{fd:FuncData}{sl:Array (Option Value)}{o:Obj}(h1:nsIn K mainGlobals x=some (some (.ref f)))(h2:K.lookup f=some ⟨oc,od,.func fd,sl⟩)(h3:fd.code=.ref c)(h4:K.lookup c=some o)(h5:tabOf o=some P): tabIn K x=some (c,P):=by
 unfold tabIn;rw [h1];dsimp only;rw [h2];dsimp only;rw [h3];dsimp only;rw [h4];obtain⟨a,b,d,e⟩:=o;unfold tabOf at h5;dsimp only at h5;cases d <;> simp only at h5 ⊢ <;> first|(cases h5;done)|skip
 split at h5
 ·rename_i hv
  rw [hv];cases h5
  rfl
 ·cases h5
omit [Lam] [Pin] in
theorem qb6{K:Frag}{c P:Addr}{o:Obj}(h1:K.lookup c=some o)(h2:codeHdIn [(c,o)] c P=true): codeHdIn K c P=true:=by
 have e:List.lookup c [(c,o)]=some o:=by simp [List.lookup]
 unfold codeHdIn at h2 ⊢;rw [h1];rw [e] at h2;exact h2
def qol(K:Frag)(ar:Nat)(op:List D->Option D)(f c:Addr)(φ ψ : Heap->Prop): Sp:=fun vs H Q E=>H f=some (.ext φ)/\H c=some (.ext ψ)/\spD K ar op vs H Q E
theorem qn5{P:Program}{w:World}{K:Frag}{mg:Str->Option Value}{base:Heap}{k:Nat}{f c:Addr}{qual:Str}{params:Arguments}{body:Expr}{scope:Scope}{pm ct:Value}{N ps:List Str}{u:FE}{φ ψ : Heap->Prop}
  (hφ : ∀h, φ h->h.get? f=some (kla_obj "<lambda>" qual params body scope [] pm c ct)) (hψ : ∀h, ψ h->h.CodeRec (.ref c) qual) (S:FnScope N ps scope)
  (hb:∀(A:Around) (outer:List Env) (s:Shared) (H:Hp) (E:XK),Room k (A.deeper (envOfC qual scope s.heap.objs.size f (.ref c)))->PE (zq CX0 P w K mg base N qual scope f (.ref c) A outer s H E).nox body (tD K u)) :
  FnOk P w K mg base CX0 (k+1) f (kla_fn "<lambda>" qual params body scope [] pm (.ref c) ct) ps (qol K ps.length (ze N.length (zi u)) f c φ ψ):=by
 have hpl:ps.length<=N.length:=by have:=uy List.length S.pre;rw [tf] at this;omega
 refine⟨fun vs H Q E h=>?_,fun A outer s H args us vs Q E hr e0 hbd r ⟨h1,h2,hsp⟩=>?_⟩
 ·obtain⟨_,_,F,ds,d,_,rl,el,_⟩:=h
  rw [<- rl.length];exact el
 have hl:vs.length=ps.length:=by
  obtain⟨F,ds,d,_,rl,el,_⟩:=id hsp;rw [<- rl.length];exact el
 have lim:s.heap.NoLimit:=e0.mod.nolimit.keeps fun b o e=>(e0.bs b o e).1;have hkind:∀y∈ps.zip us,scope.names.lookup y.1=some .local\/(scope.names.lookup y.1=some .cell/\((cellsFrom (s.heap.objs.size+1) scope.names []).lookup y.1).isSome=true):=fun⟨n,v⟩ hy=>by
  rcases S.par n (g15 hy).1 with q|q
  ·exact .inl q
  ·exact .inr ⟨q,g1y _ _ _ (.inl q)⟩
 have ho:=hφ _ (e0.hok f _ h1).1;have hcd:=hψ _ (e0.hok c _ h2).1;refine kla_callFunE hr.depth ho rfl S.co S.gen rfl hcd (hbd _ _ _ _ ?_);refine wpAny_newFunctionEnv_cells S.kind hkind fun env he s1 x=>?_;subst he;refine⟨lim.keeps x.toInCall.keep,kla_codeExpr ?_⟩;have I:Inv (zq CX0 P w K mg base N qual scope f (.ref c) A outer s H E) [] (start N vs) H s1:=q7x S hr.hd e0 hl r x;have hD:tD K u (start N vs) H Q:=by
  obtain⟨F0,H0,F, ρ,fl, ρ',r',hf,q⟩:=qf4 (P:=P) (w:=w) hpl hsp;obtain⟨d,h3,h4⟩:=md.mp hf;cases h4;exact⟨F0,H0,F, ρ,d,r',h3,fun v F' H' g' r''=>q v F' H' (r'.g.trans g') r''⟩
 refine t7 ((hb A outer s H E (hr.deeper _)).nox [] s1 (start N vs) H Q I hD) (fun v s' hs=>?_) fun e s' hs=>hs;obtain⟨v',H',J,rv,q⟩:=hs;exact⟨v',H',J.os,J.bare,J.base,J.hok,rv,q⟩
theorem qds{pos pos':Pos}{c cv:Value}: ∀(l:List Value),TriplesOk l->codeAmong pos' (l++[rawInt pos.line,rawInt pos.col,c])=some cv->codeAmong pos' l=some cv\/cv=c:=fun l h e=>by
 fun_induction TriplesOk l with
 | case1=>
  simp only [g0p,codeAmong,rawInt] at e
  split at e
  ·exact .inr (m6 e).symm
  ·cases e
 | case2 a t b u x rest ih=>
  simp only [g0w,codeAmong] at e ⊢
  split at e
  ·rename_i hc;rw [m4 hc];exact .inl e
  ·rename_i hc;rw [m9 hc];exact ih h e
 | case3 l h1 h2=>exact h.elim
section
variable{X:Cx}{pins:List (Addr×Obj)}{σ : St}{F H:Hp}{s:Shared}
theorem qhr{c P:Addr}{q:Str}{params:Arguments}{body:Expr}{scope:Scope}{pos:Pos}{Q:Value->Shared->Prop}(hcode:X.env.code=.ref c)(hd:codeHdIn X.K c P=true)(hP:(P,q)∈Lam.tab)(hU:∀p∈Lam.tab,p.1=P->p.2=q)
  (hq:X.env.qual++"<lambda>" = q) (B:q11 X.mg X.base) (hdef:defaultsOf params X.env=([],[])) (hcl:closureFor scope X.env=pure []) (I:Inv X pins σ H s) (st:SameT F H)
  (h:∀f c' φ ψ ct pm s' H',Inv X pins σ H' s'->Grow F H F H'->H' f=some (.ext φ)->H' c'=some (.ext ψ)->(∀h, φ h->h.get? f=some (kla_obj "<lambda>" q params body scope [] pm c' ct))->(∀h, ψ h->h.CodeRec (.ref c') q)->Q (.ref f) s') :
  wpAny (model X.prog X.w) X.A (eval (.Lambda params body scope pos) X.env) Q X.xe s:=by
 refine kla_eval hdef ?_;rw [hq];obtain⟨ps,e,ht,k⟩:=st.t _ hP;have hPg:s.heap.get? P=some (tabObj ps):=I.hok P _ e;have C:CodeHd s.heap c P:=codeHd_of_K I.kIn hd;have hg:s.heap.Ns mainGlobals X.mg:=I.mod.glob.keeps I.bk;obtain⟨bm,ob,B1,B2,B3,B4,B5,B6⟩:=B;have hbo:=I.bk _ _ B3;have hbP:bm≠P:=fun z=>by
  have e1:=hbo;rw [z,hPg] at e1;have e2:=B4;rw [<- m6 e1] at e2;cases e2
 have hgP:mainGlobals≠P:=fun z=>by
  obtain⟨o,es,ep,e1,e2,_⟩:=hg;rw [z,hPg] at e1;rw [<- m6 e1] at e2;cases e2
 have hb:s.heap.BuiltinsAt X.mg P:=⟨bm,ob,B1,B2,fun z=>(by
  obtain⟨o,es,ep,e1,e2,_⟩:=hg;rw [<- z,hbo] at e1;rw [<- m6 e1,B6] at e2;cases e2),hbP,hbo,B4,B5,B6⟩
 cases hf:codeAmong pos ps.toList with
 | some cv=>
  obtain⟨c', ψ,rfl,e2,e3⟩:=k pos cv hf;refine kla_makeFunctionHit hcl I.ok.glob hg hcode C hPg ht hf hb fun ctv h' tk hk hsz=>?_;have I1:Inv X pins σ H {s with heap:=h',toks:=tk}:=I.kept (t':=tk) hk;have hn:H h'.objs.size=none:=I1.hok.fresh (gu _);have I2:=I1.laid (t':=tk) (a:=h'.objs.size) (o:=.ext fun g=>g.get? h'.objs.size=some (kla_obj "<lambda>" q params body scope [] ((X.mg "__name__").getD .none) c' ctv)) (h':=h'.push (kla_obj "<lambda>" q params body scope [] ((X.mg "__name__").getD .none) c' ctv))
   (fun b u z=>g9 _ z) (gu _) ⟨ma _ rfl,⟨_,ma _ rfl⟩,fun h1 h2 z1 z2=>z2 _ z1⟩
  exact h _ c' _ ψ ctv _ _ _ I2 (Grow.own st.s hn) qq ((Kept.new hn).ext _ _ e2) (fun g z=>z) e3
 | none=>
  refine kla_makeFunction hcl I.ok.glob hg hcode C hPg ht hf hgP hb fun c' ctv h' tk hx hge hlt hrec htb=>?_;have hnc:H c'=none:=I.hok.fresh hge;have hcP:c'≠P:=fun z=>by rw [z,e] at hnc;cases hnc
  have nP:∀b o,H b=some o->(∀ps,o ≠ .tbl ps)->b≠P:=fun b o z n y=>by rw [y,e] at z;exact n _ (m6 z).symm
  have nP':∀b,H b=none->b≠P:=fun b z y=>by rw [y,e] at z;cases z
  have nc:∀b o,H b=some o->b≠c':=fun b o z y=>by rw [y,hnc] at z;cases z
  have ncs:∀b o,s.heap.get? b=some o->b≠c':=fun b o z y=>absurd (m8 z) (by rw [y];exact Nat.not_lt.mpr hge)
  let H1:Hp:=upd (upd H P (.tbl (ps ++ #[rawInt pos.line,rawInt pos.col,.ref c']))) c' (.ext fun g=>g.CodeRec (.ref c') q)
  have a1:∀b,b≠P->b≠c'->H1 b=H b:=fun b z1 z2=>by show upd (upd H P _) c' _ b=_;rw [qh z2,qh z1]
  have a2:H1 P=some (.tbl (ps ++ #[rawInt pos.line,rawInt pos.col,.ref c'])):=by show upd (upd H P _) c' _ P=_;rw [qh (mi hcP),qq]
  have a3:H1 c'=some (.ext fun g=>g.CodeRec (.ref c') q):=qq;have un:Un X.fs [] H H1 s.heap h':=⟨fun b o z n _ _=>hx b o (nP' b n) z,fun b o z n _ _=>⟨o.slots,hx b o (nP' b n) z⟩,fun b o z n _=>by rw [a1 b (nP' b n) (ncs b o z)];exact n,
   fun b o z _=>by
    by_cases y:b=P
    ·exact⟨_,by rw [y];exact htb⟩
    ·exact⟨o,hx b o y z⟩,fun b xs z=>by rw [a1 b (nP b _ z nofun) (nc b _ z)];exact z,fun b o' u z=>by rw [a1 b (nP b _ z nofun) (nc b _ z)];exact z,
   fun b ps' z=>by
    by_cases y:b=P
    ·subst y
     rw [e] at z;cases z;exact⟨_,a2⟩
    ·exact⟨#[],by rw [a1 b y (nc b _ z),z];simp⟩⟩
  have hok:HOk X.prog X.w H1 h':=fun b o z=>by
   by_cases y:b=P
   ·subst y
    rw [a2] at z;cases z;exact htb
   by_cases y2:b=c'
   ·subst y2
    rw [a3] at z;cases z;obtain⟨c2,oc,vs,t,e2,hoc,r⟩:=hrec;cases e2;exact⟨⟨_,oc,vs,t,rfl,hoc,r⟩,⟨_,hoc⟩,fun h1 h2 ⟨c3,o3,v3,t3,e3,h3,r3⟩ z2=>by cases e3;exact⟨_,o3,v3,t3,rfl,z2 _ h3,r3⟩⟩
   rw [a1 b y y2] at z;refine(I.hok b o z).stay (fun b' u hb' z'=>hx b' u ?_ z') (fun b' z'=>by rw [a1 b' (nP b' _ z' nofun) (nc b' _ z')];exact z') fun b' xs z'=>by rw [a1 b' (nP b' _ z' nofun) (nc b' _ z')];exact z'
   rcases hb' with z1|z1
   ·rw [z1];exact y
   ·exact nP b' _ z1 nofun
  have I1:Inv X pins σ H1 {s with heap:=h',toks:=tk}:=I.un (t':=tk) un hok;have hn:H1 h'.objs.size=none:=I1.hok.fresh (gu _);have I2:=I1.laid (t':=tk) (a:=h'.objs.size) (o:=.ext fun g=>g.get? h'.objs.size=some (kla_obj "<lambda>" q params body scope [] ((X.mg "__name__").getD .none) c' ctv)) (h':=h'.push (kla_obj "<lambda>" q params body scope [] ((X.mg "__name__").getD .none) c' ctv))
   (fun b u z=>g9 _ z) (gu _) ⟨ma _ rfl,⟨_,ma _ rfl⟩,fun h1 h2 z1 z2=>z2 _ z1⟩
  have hfP:h'.objs.size≠P:=fun z=>by rw [z,a2] at hn;cases hn
  have kp:Kept H H1:=⟨fun b xs z=>by rw [a1 b (nP b _ z nofun) (nc b _ z)];exact z,fun b φ z=>by rw [a1 b (nP b _ z nofun) (nc b _ z)];exact z,fun {b} z=>by
    by_cases y:b=P
    ·subst y;rw [a2] at z;cases z
    by_cases y2:b=c'
    ·rw [y2];exact hnc
    rw [a1 b y y2] at z;exact z,fun t p hp=>by
    obtain⟨ps1,e1,t1,k1⟩:=t p hp
    by_cases y:p.1=P
    ·have e2:=hU p hp y
     rw [y,e] at e1;cases e1;rw [y];refine⟨_,a2,by simpa using TriplesOk_snoc pos.line pos.col (.ref c') ps.toList ht,fun pos' cv z=>?_⟩;rw [p5] at z;rcases qds ps.toList ht (by simpa using z) with z|z
     ·obtain⟨c2, φ,z1,z2,z3⟩:=k1 pos' cv z
      exact⟨c2, φ,z1,by rw [a1 c2 (nP _ _ z2 nofun) (nc _ _ z2)];exact z2,z3⟩
     ·exact⟨c',_,z,a3,fun g z=>by rw [e2];exact z⟩
    ·refine⟨ps1,by rw [a1 _ y (nc _ _ e1)];exact e1,t1,fun pos' cv z=>?_⟩
     obtain⟨c2, φ,z1,z2,z3⟩:=k1 pos' cv z;exact⟨c2, φ,z1,by rw [a1 c2 (nP _ _ z2 nofun) (nc _ _ z2)];exact z2,z3⟩,fun b φ z=>by rw [a1 b (nP b _ z nofun) (nc b _ z)];exact z⟩
  have g1:Grow F H F H1:=⟨.refl _,kp,fun b o z=>by
    have y:b≠P:=fun y=>by have:=st.f _ hP;rw [show b=P from y] at z;rw [z] at this;cases this
    rw [a1 b y (nc b _ (st.s b o z))];exact st.s b o z,fun _ z=>.inl z⟩
  exact h _ c' _ _ ctv _ _ _ I2 (g1.trans (Grow.own g1.fh hn)) qq ((Kept.new hn).ext _ _ a3) (fun g z=>z) fun g z=>z
end
section
variable{X:Cx}{pins:List (Addr×Obj)}{σ : St}{F H:Hp}{s:Shared}
theorem qhs{e:Expr}{p kp pos lpos:Pos}{params:Arguments}{body:Expr}{scope:Scope}{k k':Nat}{c P:Addr}{q:Str}{N ps:List Str}{u:FE}{fa:FA}(hcode:X.env.code=.ref c)(hd:codeHdIn X.K c P=true)(hP:(P,q)∈Lam.tab)
  (hU:∀p∈Lam.tab,p.1=P->p.2=q) (B:q11 X.mg X.base) (hr:Room k' X.A) (hgs:Gl X "sorted") (hms:X.mg "sorted" = none) (ha:PA X [e] (tDA X.K fa)) (S:FnScope N ps scope)
  (hb:∀(f c':Addr) (A:Around) (outer:List Env) (s:Shared) (H:Hp) (E:XK),Room k (A.deeper (envOfC q scope s.heap.objs.size f (.ref c')))->PE (zq CX0 X.prog X.w X.K X.mg X.base N q scope f (.ref c') A outer s H E).nox body (tD X.K u))
  (hbd:∀(pm cdv ct:Value) (us:List Value),us.length=ps.length->bindArgs (kla_fn "<lambda>" q params body scope [] pm cdv ct) ⟨us,[]⟩=pure (ps.zip us)) (hk:k+3<=k') (h1:ps.length=1)
  (hq:X.env.qual++"<lambda>" = q:=by rfl) (hdef:defaultsOf params X.env=([],[]):=by rfl) (hcl:closureFor scope X.env=pure []:=by rfl) (he:backTo pos (starEach [e] X.env)=(false,eval e X.env) :: backTo pos (starEach [] X.env):=by rfl)
  (hpl:(backTo pos (starEach [e] X.env)).any (·.1)=false:=by rfl):PE X (.Call (.Name "sorted" p) [e] [⟨some "key",.Lambda params body scope lpos,kp⟩] pos) (tL X.K (q4n (q4r (ze N.length (zi u))) fa)):=by
 intro pins s σ H Q I h;obtain⟨F0,H0,F, ρ,ds,r,hf,q'⟩:=h;obtain⟨es,h3,h2⟩:=g6.mp hf;unfold q4r at h2
 split at h2
 ·rename_i d
  refine g13 (q15 I hgs hms boot_sorted ?_ (by decide) (by decide));refine callWith_kw (thn (ha pos pins s σ H (fun vs H1=>∃F1,Grow F H F1 H1/\RepL X.K F1 [d] vs) I ⟨F0,H0,F, ρ,[d],r,h3,fun vs F1 H1 g1 r1=>⟨F1,g1,r1⟩⟩) fun us s1 ⟨vs,H1,I1,rv,F1,g1,r1⟩=>?_) he hpl rfl rfl;refine kws_cons (qhr hcode hd hP hU hq B hdef hcl I1 (r.sameT g1) fun f c' φ ψ ct pm s2 H2 I2 g2 hf' hc' hφ hψ =>kws_nil ?_);obtain⟨x,rfl,rx⟩:=rep1 r1;obtain⟨v,rfl,ru⟩:=vals1 rv;cases d <;> simp only [q1d] at h2 <;> first|(cases h2;done)|skip
  rename_i ds';obtain⟨a,ys,rfl,_⟩:=rep_lst.mp rx;cases ru;exact qfp (qn5 hφ hψ S (hb f c')) (fun F' H' dv kd x Q' g' rx' hk' q''=>⟨g'.hh.ext _ _ hf',g'.hh.ext _ _ hc',F',[dv],kd,((r.sameT g1).grow g2).grow g',.cons rx' .nil,h1.symm,hk',q''⟩) (.all (hbd pm _ ct)) hr (by omega) I2 g2.fh (rx.mono g2.ff) (by simp only [q1d];exact h2)
   fun a ys F3 H3 g3 k1 k2 k3 k4=>q' a ys F3 H3 (g1.trans (g2.trans g3)) k1 (g1.hh.free (g2.hh.free k2)) k3 k4
 ·cases h2
end
structure Fun3(K:Frag)(x qual:Str)(st:Stmt)(dV:Value)(f:Addr)(fd:FuncData)(c P:Addr): Prop where
 ex:∃(oc:Value) (od:Option Addr) (kV doc pm:Value) (an:Option Addr) (ct:Value) (osl:Array (Option Value)),
  fd=PySem.W.fnOf x qual (xu st) (qr st) (qd st) dV kV doc pm an (.ref c) ct/\K.lookup f=some ⟨oc,od,.func fd,osl⟩/\PySem.W.codeIn K (.ref c) qual=true
 hd:codeHdIn K c P=true
 kp:PySem.W.keepIn K (.ref f)=true
section
variable{P:Program}{w:World}{K:Frag}{mg:Str->Option Value}{base:Heap}{x qual:Str}{st:Stmt}{dV:Value}{f c T:Addr}{fd:FuncData}{N ps:List Str}
theorem Fun3.okn{k n ar k1:Nat}{u:FS}(F:Fun3 K x qual st dV f fd c T)(S:FnScope N ps (qd st))(hn:N.length=n)(ha:ps.length=ar)(hk:k+1=k1)
  (hb:∀(A:Around) (outer:List Env) (s:Shared) (H:Hp) (E:XK),Room k (A.deeper (envOfC qual (qd st) s.heap.objs.size f (.ref c)))->PSs (zq CX0 P w K mg base N qual (qd st) f (.ref c) A outer s H E).nox (qr st) (tDS K u)) :
  FnOk P w K mg base CX0 k1 f fd ps (spD K ar (ze n u)):=by
 subst hn ha hk;obtain⟨oc,od,kV,doc,pm,an,ct,osl,rfl,lk,hcd⟩:=F.ex;exact qin lk hcd S fun A outer s H E hr=>hb A outer s H E hr
theorem qk8{oc:Value}{od an:Option Addr}{osl:Array (Option Value)}{kV doc pm ct:Value}(l:K.lookup f=some ⟨oc,od,.func (PySem.W.fnOf x qual (xu st) (qr st) (qd st) dV kV doc pm an (.ref c) ct),osl⟩)
  (cd:PySem.W.codeIn K (.ref c) qual=true) (hd:codeHdIn K c T=true) (k:PySem.W.keepIn K (.ref f)=true):Fun3 K x qual st dV f (PySem.W.fnOf x qual (xu st) (qr st) (qd st) dV kV doc pm an (.ref c) ct) c T:=⟨⟨oc,od,kV,doc,pm,an,ct,osl,rfl,l,cd⟩,hd,k⟩
theorem Fun3.bindsTo(F:Fun3 K x qual st dV f fd c T){P:FuncData->Prop}(h:∀(kV doc pm:Value) (an:Option Addr) (cdv ct:Value),P (PySem.W.fnOf x qual (xu st) (qr st) (qd st) dV kV doc pm an cdv ct)): P fd:=by
 obtain⟨oc,od,kV,doc,pm,an,ct,osl,rfl,lk,hcd⟩:=F.ex;exact h kV doc pm an _ ct
end
theorem qfq{P:Program}{w:World}{K:Frag}{mg mb:Str->Option Value}{k:Nat}{fa a:Addr}{fd:FuncData}{x:Str}{s₁:Shared}{vs:List Value}{ns:List Int}{tabs:List (Addr×Addr)}(hT:TabsAt tabs s₁.heap)(hL:∀p∈Lam.tab,p.1∈tabs.map (·.2))(hKT:∀p∈tabs,K.lookup p.2=none)
  (KX:K.In s₁.heap) (hns:s₁.heap.Ns mainGlobals mg) (hb:s₁.heap.Ns builtinsNs mb) (hbb:∀x:Str,x≠"__name__" -> mb x=bootBuiltins x) (hlim:s₁.heap.NoLimit) (hg:s₁.gens = #[])
  (ha:s₁.heap.get? a=some {cls:=.type "list",data:=.seq vs.toArray}) (hi:IntsAre vs ns) (hl:ns.length<=63) (hr:Room k callerA)
  (hB:q11 mg s₁.heap) (Fn:∀base:Heap,K.In base->base.Ns mainGlobals mg->q11 mg base->FnOk P w K mg base CX0 k fa fd [x] (q8u K)) (hbind:∀(s:Shared) (u:Value),BindsTo s fd ⟨[u],[]⟩ [(x,u)]) :
  codeAny (model P w) callerA (.call (.ref fa) ⟨[.ref a],[]⟩) (fun r s'=>r=.ok (.ret (.bool true))/\OldK s₁.heap s'.heap/\s'.os=s₁.os/\AllBare s'.gens) s₁:=by
 have rv:=q0k hi;have lenV:=hi.length;have aT:a∉tabs.map (·.2):=fun z=>by
  obtain⟨p,hp,e⟩:=nu.mp z;have e1:=(hT p hp).2;rw [e,ha] at e1;cases e1
 let G:Hp:=fun b=>if b=a/\K.lookup a=none then some (.frz {cls:=.type "list",data:=.seq vs.toArray} (.lst (ns.map V.int))) else none
 let H:Hp:=fun b=>if b∈tabs.map (·.2) then some (.tbl #[]) else G b
 have hG:∀b o,G b=some o->b=a/\K.lookup a=none/\o=.frz {cls:=.type "list",data:=.seq vs.toArray} (.lst (ns.map V.int)):=fun b o z=>by
  by_cases y:b=a/\K.lookup a=none
  ·exact⟨y.1,y.2,(m6 ((m4 y).symm.trans z)).symm⟩
  ·have:=(m9 y).symm.trans z;cases this
 have hH1:∀b,b∈tabs.map (·.2)->H b=some (.tbl #[]):=fun b z=>m4 z;have hH2:∀b,b∉tabs.map (·.2)->H b=G b:=fun b z=>m9 z;have tabAt:∀b,b∈tabs.map (·.2)->∃c,CodeHd s₁.heap c b/\s₁.heap.get? b=some (tabObj #[])/\K.lookup b=none:=fun b z=>by
  obtain⟨p,hp,rfl⟩:=nu.mp z;exact⟨p.1,(hT p hp).1,(hT p hp).2,hKT p hp⟩
 have gH:Same G H:=fun b o z=>by
  obtain⟨rfl,_,_⟩:=hG b o z;rw [hH2 _ aT];exact z
 have hok:HOk P w H s₁.heap:=fun b u z=>by
  by_cases y:b∈tabs.map (·.2)
  ·rw [hH1 b y] at z
   cases z;exact(tabAt b y).elim fun c z=>z.2.1
  ·rw [hH2 b y] at z
   obtain⟨rfl,_,rfl⟩:=hG b u z;exact⟨ha,by rw [gr];exact ml hl (by decide),vs,_,rv,ha⟩
 have base_of:∀ {b:Addr} {o:Obj},s₁.heap.get? b=some o->H b=none->(q1v s₁.heap H).get? b=some o:=fun e n=>qgd e n;have noA:∀ {b:Addr} {o:Obj} {es:Array DictEntry} {ep:Nat},s₁.heap.get? b=some o->o.data=.dict es ep->H b=none:=fun {b o es ep} e d=>by
  by_cases y:b∈tabs.map (·.2)
  ·obtain⟨c,_,e1,_⟩:=tabAt b y
   rw [e] at e1;rw [m6 e1] at d;cases d
  ·rw [hH2 b y]
   cases q:G b with
   | none=>rfl
   | some u=>
    obtain⟨rfl,_,_⟩:=hG b u q;rw [ha] at e;rw [<- m6 e] at d;cases d
 have nsK:∀ {b:Addr} {m:Str->Option Value},s₁.heap.Ns b m->(q1v s₁.heap H).Ns b m:=fun {b m} ⟨o,es,ep,e,d,r⟩=>⟨o,es,ep,base_of e (noA e d),d,r⟩
 have hKb:K.In (q1v s₁.heap H):=fun b o e=>base_of (KX b o e) (by
  by_cases y:b∈tabs.map (·.2)
  ·obtain⟨c,_,_,e1⟩:=tabAt b y
   rw [e1] at e;cases e
  ·rw [hH2 b y]
   cases q:G b with
   | none=>rfl
   | some u=>
    obtain⟨rfl,e1,_⟩:=hG b u q;rw [e1] at e;cases e)
 have hM:Mod K mg (q1v s₁.heap H):=⟨hKb,nsK hns,⟨mb,nsK hb,hbb⟩,let⟨mc,h1,h2⟩:=hlim; ⟨mc,nsK h1,h2⟩⟩
 have e0:Env0 P w K mg (q1v s₁.heap H) callerA [] s₁ H:=⟨rfl,hM,fun b o e=>qiz e,g4i (qej _ _),trivial,fun b hb=>absurd (show b∈([]:List Addr) from hb) (by simp),hok,.of_eq hg⟩
 have hS:SqL K G a (ns.map V.int):=by
  cases hk:K.lookup a with
  | some o=>
   have e:=KX a o hk;rw [ha] at e;cases e;exact .inr ⟨_,vs.toArray,_,hk,rfl,rfl,rfl,by rw [gf,lenV];exact ml hl (by decide),by simpa using rv⟩
  | none=>exact .inl (.inr ⟨{cls:=.type "list",data:=.seq vs.toArray},m4 ⟨rfl,hk⟩⟩)
 have sT:SameT G H:=⟨gH,fun p hp=>⟨#[],hH1 _ (hL p hp),trivial,fun pos cv z=>by simp [codeAmong] at z⟩,fun p hp=>by
  cases q:G p.1 with
  | none=>rfl
  | some u=>
   obtain⟨e,_,_⟩:=hG _ u q;exact absurd (e ▸ hL p hp) aT⟩
 have hBb:q11 mg (q1v s₁.heap H):=by
  obtain⟨bm,ob,B1,B2,B3,B4,B5,B6⟩:=hB;refine⟨bm,ob,B1,B2,base_of B3 ?_,B4,B5,B6⟩
  by_cases y:bm∈tabs.map (·.2)
  ·obtain⟨c,_,e1,_⟩:=tabAt bm y
   rw [B3] at e1;rw [m6 e1] at B4;cases B4
  ·rw [hH2 bm y]
   cases q:G bm with
   | none=>rfl
   | some u=>
    obtain⟨rfl,_,_⟩:=hG bm u q;rw [ha] at B3;rw [<- m6 B3] at B6;cases B6
 refine g2e ((Fn _ hKb (nsK hns) hBb).run callerA [] s₁ H ⟨[.ref a],[]⟩ [.ref a] [.ref a] (fun v _=>v=.bl true) E0 hr e0 (hbind s₁ (.ref a)) (.cons rfl .nil) ⟨a,ns,G,rfl,sT,hS,hl,fun _=>rfl⟩) fun r s' h=>?_;cases r with
 | error e=>exact h.elim
 | ok fl=>
  cases fl with
  | next=>exact False.elim h
  | brk=>exact False.elim h
  | cont=>exact False.elim h
  | ret u=>
   obtain⟨v,H',os,bare,un,hok',r',q⟩:=h;have q':v=.bl true:=q;subst q';obtain rfl:u=Value.bool true:=r';have tab':∀b,b∈tabs.map (·.2)->∃more,s'.heap.get? b=some (tabObj (#[]++more)):=fun b y=>by
    obtain⟨more,e⟩:=un.tbls b #[] (hH1 b y);exact⟨more,hok' b _ e⟩
   have keep:∀b o,b∉tabs.map (·.2)->s₁.heap.get? b=some o->s'.heap.get? b=some o:=fun b o y e=>by
    cases q:H b with
    | none=>exact un.keep b o e q (by intro z;exact absurd (show b∈([]:List Addr) from z) (by simp)) (by simp)
    | some u=>
     have q2:=q;rw [hH2 b y] at q2;obtain⟨rfl,_,rfl⟩:=hG b u q2;obtain⟨e2,_⟩:=hok' _ _ (un.frzs _ _ _ q);rw [ha] at e;rw [<- m6 e];exact e2
   refine⟨rfl,⟨fun b o e=>?_,fun b o e=>?_⟩,os,bare⟩
   ·by_cases y:b∈tabs.map (·.2)
    ·obtain⟨c,C,e1,_⟩:=tabAt b y
     rw [e] at e1;obtain rfl:=m6 e1;obtain⟨more,e2⟩:=tab' b y;exact .inr (.inl ⟨(C.tab e).isCodeTable,rfl, #[],more,rfl,e2⟩)
    ·exact .inl (keep b o y e)
   ·by_cases y:b∈tabs.map (·.2)
    ·obtain⟨more,e2⟩:=tab' b y
     exact⟨_,e2⟩
    ·exact⟨o,keep b o y e⟩
omit [Lam] [Pin] in
theorem qk9{l:PySem.W.OpenLaw}{k:Nat}{x:Str}{q:Program}{loose:List Str}{XP:(Str->Option Value)->Heap->Prop}{YP:World->Heap->Prop}{d:DefRec}{K:Params->Frag}(hn:l.most=some 63)(hdf:d.params.defaults=[])(hk:Room k callerA)
  (hY:∀(w:World) (h:Heap),YP w h->(K w.params).In h)
  (F:∀(w:World) (mg:Str->Option Value) (fa:Addr) (h:Heap),(K w.params).In h->h.Ns mainGlobals mg->mg d.name=some (.ref fa) ->
   ∃(L:Lam) (tabs:List (Addr×Addr)) (fd:FuncData),(∀p∈L.tab,p.1∈tabs.map (·.2))/\(∀p∈tabs,(K w.params).lookup p.2=none/\∃y:Str,((recsOf q).find? (fun e=>e.name==y)).isSome=true/\tabIn (K w.params) y=some p) /\
    (∀(s:Shared) (u:Value),BindsTo s fd ⟨[u],[]⟩ [(x,u)])/\∀base:Heap,(K w.params).In base->base.Ns mainGlobals mg->q11 mg base->FnOk l.prog w (K w.params) mg base CX0 k fa fd [x] (q8u (K w.params))) :
  PySem.W.WalkO q loose XP YP l.row.toRowW d [] (fun f vs=>PySem.call f vs):=by
 refine Att.attach_call hn hdf fun w s₀ s₁ mg mb fa o pm cd doc a vs ns G Y ho hd hcd hmg hobj hints hlen hg=>?_;have KX:=hY w _ Y;obtain⟨L,tabs,fd,hL,hT,hb,hF⟩:=F w mg fa _ KX G.T.g hmg;refine qfq (tabs:=tabs) (fun p hp=>?_) hL (fun p hp=>(hT p hp).1) KX G.T.g G.T.b G.T.builtins G.T.nolimit hg hobj hints hlen hk (let⟨bm,ob,b1,b2,b3,b4,b5,b6⟩:=G.T.bmain; ⟨bm,ob,b1,b2,b3,b4,b5,b6⟩) hF hb;obtain⟨_,y,e1,e2⟩:=hT p hp;obtain⟨d',e3⟩:=g0u.mp e1;exact tab_of G.T KX e3 e2
end DL
namespace Srt
end Srt
namespace DL
open PySem PySem.Spec PyProof.Rows L2 Srt PySem.W
variable[Lam][Pin]
set_option maxRecDepth 8000 in
omit [Lam] [Pin] in
theorem qht(l:Addr)(items:Array Value)(n:Nat)(b:Addr)(items2:Array Value)(n2:Nat)(sl:Array (Option Value))(hc0:¬(!items.isEmpty&&Builtin.List.listTooLong (items.size+items2.size))=true)(hc1:items.size<=sizeLine)(hs2:items.size+items2.size<=sizeLine+1):
  Meets (Builtin.«list.extend» ⟨[.ref l,.ref b],[]⟩) (fun _ R s=>s.heap.get? l=some {cls:=.type "list",dict:=none,data:=.seq items n,slots:= #[]}/\s.heap.get? b=some {cls:=.type "list",dict:=none,data:=.seq items2 n2,slots:=sl} /\
   R (.ok (.ret Value.none)) {s with heap:=s.heap.update l (Obj.mapSeq fun x=>x++items2),toks:=s.toks}):=
 .of_wp fun prog w A R s h=>by
  obtain⟨hp,g,d,tk,os⟩:=s;obtain⟨hl,hb,h⟩:=h;have hz':(items++items2).size<=sizeLine+1:=by rw [Array.size_append];exact hs2
  have f3:=sub_list_list
  wp_walk using(wpAny_updateSeq hl rfl (hz:=hc1) (_hz':=hz')),g1h hl,g1h hb
  exact⟨_,rfl,h⟩
section
variable{X:Cx}
omit [Lam] [Pin] in
theorem qka:MtM X "list.extend" (fun x vs H Q=>∃l b xs zs,x=.ref l/\vs=[.ref b]/\H l=some (.lst xs)/\SqL X.K H b zs/\xs.length+zs.length<=sizeLine/\Q .non (upd H l (.lst (xs++zs)))):=by
 intro pins s σ H x vs v us Q I rx rv h;obtain⟨l,b,xs,zs,rfl,rfl,hH,hB,hz,q⟩:=h;cases rx;obtain⟨u,rfl,ru⟩:=rv.one;cases ru;obtain⟨z,its,n,r,hl,e⟩:=I.lstM hH;obtain⟨its2,r2,⟨o,n2,e2,c1,c2,c3⟩,hl2⟩:=I.list hB;obtain⟨oc,od,oda,osl⟩:=o;dsimp only at c1 c2 c3;subst c1 c2 c3;have hl1:=r.length;have hl3:=r2.length;have hsz:its.toArray.size+its2.toArray.size<=sizeLine:=by rw [gf,gf];lia
 have hlong:¬(!its.toArray.isEmpty&&Builtin.List.listTooLong (its.toArray.size+its2.toArray.size))=true:=by
  rw [qgp hsz,Bool.and_false];exact gz
 refine g2f F.slot_list_extend ⟨_,e,rfl⟩ F.entry_list_extend (F.args_list_extend_2 _ _)
  (qht l its.toArray n b its2.toArray n2 osl hlong (by rw [gf];lia) (by lia)) ⟨e,e2,?_⟩
 refine⟨.non,_,I.lset (its':=its++its2) hH e (by simp) (r.append r2) ?_,rfl,q⟩;rw [n9];lia
def qhu(i:Nat)(f:FE): FS:=fun ρ =>(q3g i ρ).bind fun ds=>(f ρ).bind fun d=>match d with
 | .lst es=>if ds.length+es.length<=lim then some (.nx, ρ.set i (some (.ow (ds++es)))) else none
 | _=>none
theorem qn6{i:Nat}{x:Str}{e:Expr}{f:FE}{px apos cpos pos:Pos}(hv:PE X (.Name x px) (q5a i))(he:PE X e (tD X.K f))
  (hbase:attributeBase (.Name x px) "extend" X.env (eval (.Name x px) X.env)=eval (.Name x px) X.env:=by rfl)
  (hfew:((backTo cpos (starEach [e] X.env)).all (fun x=> !x.1)&&(backToKw cpos (keywordEach [] X.env)).all (fun x=>x.1.isSome)&&decide ([e].length+([]:List Keyword).length+(if([]:List Keyword).isEmpty then 0 else 1)<30))=true:=by rfl)
  (hline:(apos.endLine==cpos.line)=true:=by rfl) (hse:starEach [e] X.env=(false,eval e X.env) :: starEach [] X.env:=by rfl)
  (hs:swapsWith (.Call (.Attribute (.Name x px) "extend" apos) [e] [] cpos) none pos.line X.env=pure false:=by rfl):PS X (.Expr (.Call (.Attribute (.Name x px) "extend" apos) [e] [] cpos) pos) (tDS X.K (qhu i f)):=
 yn (q4g (q5y g1t PySem.F.slot_list_extend PySem.F.type_list_extend qka hv (xt he wd hse) hbase hfew hline hse rfl) hs) fun D σ H ⟨F0,H0,F, ρ,fl, ρ',r,hf,q⟩=>by
  obtain⟨ds,h1,hf⟩:=g6.mp hf;obtain⟨d,h2,h3⟩:=g6.mp hf;have h1:=q7z h1;cases d <;> simp only at h3 <;> first|(cases h3;done)|skip
  rename_i es
  split at h3
  ·rename_i hl
   cases h3;obtain⟨a,xs,e1,e2,e3,e4,e5⟩:=r.ow i ds h1;refine⟨.ref a,e1,.inl ⟨rfl,xs,SqL.of e2⟩,F0,H0,F, ρ,_,r,h2,fun v F' H' g' r'=>?_⟩;have r2:=r.grow g';obtain⟨b,zs,rfl,k1,k2⟩:=rep_lst.mp r';refine⟨a,b,xs,zs,rfl,rfl,g'.hh.lst _ _ e2,g'.fh.seq k1,ml (by rw [<- e5.length, <- k2.length];exact hl) (by decide),?_⟩;exact q _ F' _ g'.ff (r2.wrt h1 e1 ((e5.mono g'.ff).append k2))
  ·cases h3
end
end DL
namespace DL
open PySem PySem.Spec PyProof.Rows L2
variable[Lam][Pin]
section
variable{X:Cx}{e:Expr}{pos:Pos}{f:FE}
end
end DL
namespace DL
open PySem PySem.Spec PyProof.Rows L2
def yt(ks:List Int)(us:List Value): List (Key×Value):=(ks.map Sum.inl).zip us
theorem q3r:∀ {ks:List Int} {xs:List V} {vs:List (Key×Value)},KV ((ks.map Sum.inl).zip xs) vs->ks.length=xs.length->∃us,Vals xs us/\vs=yt ks us
 | [],[],vs,h,_=>by cases h;exact⟨[],.nil,rfl⟩
 | [],_ :: _,_,_,e=>by cases e
 | _ :: _,[],_,_,e=>by cases e
 | k :: ks,x :: xs,vs,h,e=>by
  cases h with
  | cons h t=>
   rename_i p qs;obtain⟨us,r,rfl⟩:=q3r (ks:=ks) t (by simpa using e);obtain⟨a,b⟩:=p;obtain⟨h1,h2⟩:=h;refine⟨b :: us,.cons h2 r,?_⟩;cases h1
   rfl
theorem qfr:∀ {ks:List Int} {xs:List V} {us:List Value},Vals xs us->KV ((ks.map Sum.inl).zip xs) (yt ks us)
 | [],xs,us,h=>by unfold yt;exact .nil
 | _ :: _,_,_,.nil=>by unfold yt;exact .nil
 | k :: ks,_,_,.cons h t=>by unfold yt;exact .cons ⟨rfl,h⟩ (qfr t)
theorem q6j:∀ {ks:List Int} {us:List Value} {k:Int},ks.length=us.length->valueAt (yt ks us) (Sum.inl k)=if k∈ks then us[ks.idxOf k]? else none
 | [],us,k,_=>by simp [yt,valueAt]
 | _ :: _,[],_,e=>by cases e
 | a :: ks,u :: us,k,e=>by
  have ih:=q6j (ks:=ks) (us:=us) (k:=k) (by simpa using e);unfold valueAt yt at ih ⊢;simp only [gd,g35,List.find?_cons,Sum.inl.injEq]
  by_cases q:a=k
  ·subst q;simp
  ·rw [p9 q,List.idxOf_cons,show(a==k)=false from g2s.mpr q]
   simp only [mw,show ¬k=a from fun z=>q z.symm,false_or,cond_false,uk];exact ih
theorem stored_new:∀ {ks:List Int} {us:List Value} {k:Int} {u:Value},ks.length=us.length->k∉ks->stored (yt ks us) (Sum.inl k) u=yt (ks++[k]) (us++[u]):=by
 intro ks us k u e hk;unfold stored;rw [m9]
 ·unfold yt
  rw [pj,List.zip_append (by simpa using e)];rfl
 ·rw [g29]
  rintro⟨x,hx,hd⟩
  have:=ue hd;obtain⟨x1,x2⟩:=x;cases this;have:=g15 hx;exact hk (by simpa using this.1)
section
variable{X:Cx}
def rSetDef:V->List V->Hp->VK->Prop:=fun x vs H Q=>∃a ks bs k p,x=.ref a/\vs=[.int k,.ref p]/\H a=some (.dK (q3d ks bs))/\ks.length=bs.length/\bs.length<sizeLine /\
 (∀b,k∈ks->bs[ks.idxOf k]? = some b->Q (.ref b) H)/\(k∉ks->Q (.ref p) (upd H a (.dK (q3d (ks++[k]) (bs++[p])))))
theorem qa1:∀ {bs:List Addr} {us:List Value},Vals (bs.map V.ref) us->us=bs.map Value.ref
 | [],_,.nil=>rfl
 | _ :: _,_,.cons h t=>by cases h;rw [qa1 t];rfl
theorem qa2:∀ {bs:List Addr},Vals (bs.map V.ref) (bs.map Value.ref)
 | []=>.nil
 | _ :: _=>.cons rfl qa2
theorem qfs:MtR X "dict.setdefault" rSetDef:=by
 intro pins s σ H x vs v us Q I rx rv h;obtain⟨a,ks,bs,k,p,rfl,rfl,hH,hl,hz,q1,q2⟩:=h;cases rx;obtain⟨u1,u2,rfl,r1,r2⟩:=rv.two;obtain⟨t,rfl⟩:=r1;cases r2;obtain⟨z,hd,vs,rel,dd⟩:=(show ObjOk X.prog X.w H s.heap a _ from I.hok a _ hH)
 obtain⟨us,ru,rfl⟩:=q3r rel (by simpa using hl);obtain rfl:=qa1 ru;have hlu:ks.length=(bs.map Value.ref).length:=by simpa using hl
 have hzz:(yt ks (bs.map Value.ref)).length<=sizeLine:=by unfold yt;rw [g0c,gr,gr];omega
 refine call_meetsIn g2z dd.typeIs PySem.F.entry_dict_setdefault (PySem.F.args_dict_setdefault_3 _ _ _) (kt_meets_setdefault (mixKind X.prog X.w) a (q1u _ _ k t) hd (.ref p))
  ⟨_,dd,hzz,fun v hv=>?_,fun hn h' dd' hs=>?_⟩
 ·rw [q6j hlu] at hv
  split at hv
  ·rename_i hk
   rw [mh] at hv;obtain⟨b,hb,rfl⟩:=md.mp hv;exact⟨.ref b,H,I.tok _,rfl,q1 b hk hb⟩
  ·cases hv
 ·have hk:k∉ks:=fun hk=>by
   rw [q6j hlu,m4 hk,mh,tj (by rw [<- hl];exact g36 hk)] at hn;cases hn
  rw [stored_new hlu hk] at dd';have he:∃q,h'.get? a=some q:=let⟨q,_,_,hq,_⟩:=dd'; ⟨q,hq⟩
  have e2:(bs.map Value.ref)++[Value.ref p]=(bs++[p]).map Value.ref:=by simp
  rw [e2] at dd';refine⟨.ref p,_,I.write (x:=a) (e:=a) (o:=.dK (q3d (ks++[k]) (bs++[p]))) (t':=s.toks+1) (by rw [hH];exact True.intro) (.inl rfl) (fun b q hb z=>(hs.2 b hb).trans z) he ⟨?_,hd,_,qfr qa2,dd'⟩,rfl,q2 hk⟩;unfold q3d;rw [g0c];simp only [gr,n9,g0l];omega
end
end DL
namespace DL
open PySem PySem.Spec PyProof.Rows L2
variable[Lam][Pin]
section
variable{K:Frag}{F0 H0 F H F' H':Hp}{σ : St}{ρ : Rho}
theorem RS.updOD(r:RS K F0 H0 F H σ ρ){i:Nat}{kvs kvs':List (Int×List D)}{a p:Addr}{bs bs':List Addr}{u:HO}(h1 : ρ[i]? = some (some (.od kvs)))(h2 : σ[i]? = some (some (.ref a)))
  (hF:F p=none) (h0:H0 p=none) (hp:(∃xs,H p=some (.lst xs))\/∃xs,H p=some (.dK xs)) (hd:∀(j:Nat) (es:List D), ρ[j]? = some (some (.ow es)) -> σ[j]? ≠ some (some (.ref p)))
  (o':ODt K F (upd H p u) H0 a bs' kvs') (dis:∀(j:Nat) (es:List D) (b:Addr), ρ[j]? = some (some (.ow es))->b∈bs' -> σ[j]? ≠ some (some (.ref b))) :
  RS K F0 H0 F (upd H p u) σ (ρ.set i (some (.od kvs'))):=by
 have nz:∀b o,H0 b=some o->b≠p:=fun b o e z=>by subst z;rw [h0] at e;cases e
 have back:∀(l:Nat) (us:List D),(ρ.set i (some (.od kvs')))[l]? = some (some (.ow us))->l≠i /\ ρ[l]? = some (some (.ow us)):=fun l us z=>by
  by_cases q:l=i
  ·subst q
   obtain⟨z',_⟩:=qi z;cases z'
  ·rw [gc (mi q)] at z;exact⟨q,z⟩
 have only:∀(l:Nat) (us),(ρ.set i (some (.od kvs')))[l]? = some (some (.od us))->l=i/\us=kvs':=fun l us z=>by
  by_cases q:l=i
  ·subst q
   obtain⟨z',_⟩:=qi z;cases z';exact⟨rfl,rfl⟩
  ·rw [gc (mi q)] at z
   exact absurd (r.o1 l i us kvs z h1) q
 exact {
  t0:=r.t0
  g :=⟨r.g.ff,⟨fun b o e=>by rw [qh (nz b _ e)];exact r.g.hh.lst b o e,fun b o e=>by rw [qh (nz b _ e)];exact r.g.hh.ext b o e,fun {b} e=>by
    by_cases z:b=p
    ·subst z;exact h0
    ·rw [qh z] at e;exact r.g.hh.free e,fun t=>(r.g.hh.tb t).updG fun u e=>by
     rcases hp with⟨xs,hp⟩|⟨xs,hp⟩ <;> (rw [hp] at e;cases e;exact⟨nofun,nofun⟩),fun b o e=>by rw [qh (nz b _ e)];exact r.g.hh.dk b o e⟩,
    fun b o e=>by rw [qh (fun z=>by subst z;rw [hF] at e;cases e)];exact r.g.fh b o e,r.g.nw⟩
  len:=by rw [t5];exact r.len
  fz:=fun j e q1=>by
   by_cases q:j=i
   ·subst q
    obtain⟨z,l⟩:=qi q1;cases z
   ·rw [gc (mi q)] at q1
    exact r.fz j e q1
  ow:=fun j es q1=>by
   obtain⟨_,q1⟩:=back j es q1;obtain⟨b,zs,f1,f2,f3,f4,f5⟩:=r.ow j es q1;have hb:b≠p:=fun z=>by subst z;exact hd j es q1 f1
   exact⟨b,zs,f1,by rw [qh hb];exact f2,f3,f4,f5⟩
  dj:=fun j k ds' es' b hjk q1 q2 q3=>r.dj j k ds' es' b hjk (back _ _ q1).2 (back _ _ q2).2 q3
  od:=fun j us q1=>by
   obtain⟨rfl,rfl⟩:=only j us q1;exact⟨a,bs',h2,o',fun k es b p1 p2=>dis k es b (back k es p1).2 p2⟩
  o1:=fun j k k1 k2 p1 p2=>by rw [(only j k1 p1).1,(only k k2 p2).1]}
def qom:Option B->Bool
 | some (.od _)=>false
 | _=>true
def q6k(i:Nat)(ρ : Rho): Bool:=(ρ.set i none).all qom
theorem qft{i j:Nat}{kvs}(h:q6k i ρ = true)(e : ρ[j]? = some (some (.od kvs))): j=i:=by
 by_cases q:j=i
 ·exact q
 ·exfalso
  unfold q6k at h;rw [mv] at h;have:=h (some (.od kvs)) (p6 (i:=j) (by rw [gc (mi q)];exact e));cases this
theorem RS.setOD(hpn:Pin.pin=none)(r:RS K F0 H0 F H σ ρ)(i:Nat)(hf:q6k i ρ = true){p:Addr}(hp:H p=none): RS K F0 H0 F (upd H p (.dK [])) (σ.set i (some (.ref p))) (ρ.set i (some (.od []))):=by
 have r1:=r.grow (Grow.own (o:=.dK []) r.fh hp);have back:∀(l:Nat) (us:List D),(ρ.set i (some (.od [])))[l]? = some (some (.ow us))->l≠i /\ ρ[l]? = some (some (.ow us)):=fun l us z=>by
  by_cases q:l=i
  ·subst q
   obtain⟨z',_⟩:=qi z;cases z'
  ·rw [gc (mi q)] at z;exact⟨q,z⟩
 have only:∀(l:Nat) (us),(ρ.set i (some (.od [])))[l]? = some (some (.od us))->l=i/\us=[]/\i < ρ.length:=fun l us z=>by
  by_cases q:l=i
  ·subst q
   obtain⟨z',hl⟩:=qi z;cases z';exact⟨rfl,rfl,hl⟩
  ·rw [gc (mi q)] at z
   exact absurd (qft hf z) q
 exact {
  t0:=r1.t0
  g:=r1.g
  len:=by rw [t5,t5];exact r.len
  fz:=fun j e q1=>by
   by_cases q:j=i
   ·subst q
    obtain⟨z,l⟩:=qi q1;cases z
   ·rw [gc (mi q)] at q1 ⊢
    exact r1.fz j e q1
  ow:=fun j es q1=>by
   obtain⟨q,q1⟩:=back j es q1;rw [gc (mi q)];exact r1.ow j es q1
  dj:=fun j k ds' es' b hjk q1 q2 q3=>by
   obtain⟨z1,q1⟩:=back j _ q1;obtain⟨z2,q2⟩:=back k _ q2;rw [gc (mi z1)] at q3;rw [gc (mi z2)];exact r1.dj j k ds' es' b hjk q1 q2 q3
  od:=fun j us q1=>by
   obtain⟨rfl,rfl,hl⟩:=only j us q1;refine⟨p,[],by rw [g00];simp [r.len,hl],⟨qq,r.fh.free hp,r.g.hh.free hp,rfl,.nil,(fun _ z=>by rw [hpn] at z;cases z),fun _ _ _ _ e=>by simp at e⟩,fun _ _ _ _ e=>nomatch e⟩
  o1:=fun j k k1 k2 p1 p2=>by rw [(only j k1 p1).1,(only k k2 p2).1]}
def odD(kvs:List (Int×List D)): D:=.dct (kvs.map fun p=>Sum.inl p.1) (kvs.map fun p=>.lst p.2)
theorem qcm{K:Frag}{H:Hp}: ∀ {ds:List D} {xs:List V},ds.length=xs.length->(∀(j:Nat) d x,ds[j]? = some d->xs[j]? = some x->Rep K H d x)->RepL K H ds xs
 | [],[],_,_=>.nil
 | [],_ :: _,e,_=>by cases e
 | _ :: _,[],e,_=>by cases e
 | d :: ds,x :: xs,e,h=>.cons (h 0 d x rfl rfl) (qcm (by simpa using e) fun j d x h1 h2=>h (j+1) d x (by simpa using h1) (by simpa using h2))
theorem RS.freezeOD(r:RS K F0 H0 F H σ ρ){i:Nat}{kvs:List (Int×List D)}(h1 : ρ[i]? = some (some (.od kvs))): ∃F',Same F F'/\RS K F0 H0 F' H σ (ρ.set i (some (.fz (odD kvs)))):=by
 obtain⟨a,bs,e1,o,dis⟩:=r.od i kvs h1
 let F':Hp:=fun b=>if b=a\/b∈bs then H b else F b
 have fy:∀b,b=a\/b∈bs->F b=none/\H0 b=none:=fun b z=>by
  rcases z with rfl|z
  ·exact⟨o.f,o.z⟩
  ·obtain⟨xs,_,z1,z2⟩:=o.mem z
   exact⟨z1,z2⟩
 have F'y:∀b,b=a\/b∈bs->F' b=H b:=fun b z=>m4 z;have F'n:∀b,¬(b=a\/b∈bs)->F' b=F b:=fun b z=>m9 z;have sF:Same F F':=fun b u e=>by
  by_cases z:b=a\/b∈bs
  ·rw [(fy b z).1] at e;cases e
  ·rw [F'n b z];exact e
 have back:∀(l:Nat) (us:List D),(ρ.set i (some (.fz (odD kvs))))[l]? = some (some (.ow us))->l≠i /\ ρ[l]? = some (some (.ow us)):=fun l us z=>by
  by_cases q:l=i
  ·subst q
   obtain⟨z',_⟩:=qi z;cases z'
  ·rw [gc (mi q)] at z;exact⟨q,z⟩
 have none':∀(l:Nat) (us),(ρ.set i (some (.fz (odD kvs))))[l]? ≠ some (some (.od us)):=fun l us z=>by
  by_cases q:l=i
  ·subst q
   obtain⟨z',_⟩:=qi z;cases z'
  ·rw [gc (mi q)] at z
   exact absurd (r.o1 l i us kvs z h1) q
 refine⟨F',sF,?_⟩;exact {
  t0:=r.t0
  g :=⟨r.g.ff.trans sF,r.g.hh,fun b u e=>by
    by_cases z:b=a\/b∈bs
    ·rw [F'y b z] at e;exact e
    ·rw [F'n b z] at e;exact r.g.fh b u e,fun b hb=>by
    by_cases z:b=a\/b∈bs
    ·exact .inr (fy b z).2
    ·rw [F'n b z] at hb;exact r.g.nw b hb⟩
  len:=by rw [t5];exact r.len
  fz :=fun j e q1=>by
   by_cases q:j=i
   ·subst q
    obtain⟨z,l⟩:=qi q1;cases z;refine⟨_,e1,rep_dct.mpr ⟨a,bs.map V.ref,rfl,?_,?_,qcm ?_ fun j d x z1 z2=>?_⟩⟩
    ·rw [F'y a (.inl rfl),o.h];unfold q3d;rw [nv];rfl
    ·rw [gr,gr,o.len]
    ·rw [gr,gr,o.len]
    ·rw [mh] at z1 z2
     obtain⟨⟨k,ds⟩,w1,rfl⟩:=md.mp z1;obtain⟨b,w2,rfl⟩:=md.mp z2;obtain⟨xs,y1,y2,y3,y4⟩:=o.b j b k ds w2 w1;exact rep_lst.mpr ⟨b,xs,rfl,SqL.of (by rw [F'y b (.inr (p6 w2))];exact y1),y4.mono sF⟩
   ·rw [gc (mi q)] at q1
    obtain⟨v,z1,z2⟩:=r.fz j e q1;exact⟨v,z1,z2.mono sF⟩
  ow:=fun j es' q1=>by
   obtain⟨q,q1⟩:=back j es' q1;obtain⟨b,zs,f1,f2,f3,f4,f5⟩:=r.ow j es' q1;have hb:¬(b=a\/b∈bs):=fun z=>by
    rcases z with rfl|z
    ·have:=o.h;rw [f2] at this;cases this
    ·exact dis j es' b q1 z f1
   exact⟨b,zs,f1,f2,by rw [F'n b hb];exact f3,f4,f5.mono sF⟩
  dj:=fun j k ds' es' b hjk q1 q2 q3=>r.dj j k ds' es' b hjk (back _ _ q1).2 (back _ _ q2).2 q3
  od:=fun j us q1=>absurd q1 (none' j us)
  o1:=fun j k k1 k2 q1=>absurd q1 (none' j k1)}
end
section
variable{X:Cx}{pos:Pos}
def tDNew:TE:=fun _ H Q=>∀p,H p=none->Q (.ref p) (upd H p (.dK []))
theorem qkb:PE X (.Dict [] [] pos) tDNew:=fun pins s σ H Q I q=>by
 refine wpAny_Dict_empty ⟨.ref s.heap.objs.size,_,I.laid (a:=s.heap.objs.size) (o:=.dK []) (t':=s.toks) (fun _ _ z=>g9 _ z) (gu _)
  ⟨g0b _,g2s.mpr (mi (mn (qjm I))),[],.nil,Heap.DictOf.new s.heap⟩,rfl,q _ (I.hok.fresh (gu _))⟩
def sOD(i:Nat): FS:=fun ρ =>if q6k i ρ then some (.nx, ρ.set i (some (.od []))) else none
theorem qit(hpn:Pin.pin=none){i:Nat}{x:Str}{px dp:Pos}(hN:X.N.Nodup)(hi:X.N[i]? = some x)(hx:Loc X.env.scope x)(hs:swapsWith (.Dict [] [] dp) (some (.Name x px)) pos.line X.env=pure false:=by rfl)(hf:X.fn x=true\/X.env.scope.names.lookup x=some .local:=by first|exact .inl rfl|exact .inr rfl|assumption):
  PS X (.Assign [.Name x px] (.Dict [] [] dp) pos) (tDS X.K (sOD i)):=yn (q90 hN hi hx qkb hs hf) fun D σ H ⟨F0,H0,F, ρ,fl, ρ',r,hf,q⟩ p hp=>by
 unfold sOD at hf
 split at hf
 ·rename_i h
  cases hf;exact q _ F _ (.refl _) (r.setOD hpn i h hp)
 ·cases hf
def q5d(i:Nat)(ρ : Rho): Option (List (Int×List D)):=match ρ[i]? with
 | some (some (.od ds))=>some ds
 | _=>none
omit [Lam] [Pin] in
theorem q3s{i:Nat}{ρ : Rho}{ds}(h:q5d i ρ = some ds): ρ[i]? = some (some (.od ds)):=by
 unfold q5d at h
 split at h
 ·rename_i e;rw [e,m6 h]
 ·cases h
def vj(kvs:List (Int×List D))(k:Int): List (Int×List D):=if k∈kvs.map (·.1) then kvs else kvs++[(k,[])]
def q4s(kvs:List (Int×List D))(k:Int)(v:D): List (Int×List D):=match kvs[(kvs.map (·.1)).idxOf k]? with
 | some p=>kvs.set ((kvs.map (·.1)).idxOf k) (k,p.2++[v])
 | none=>kvs
def isK:D->Option Int
 | .int k=>some k
 | _=>none
omit [Lam] [Pin] in
theorem qhv{d:D}{k:Int}(h:isK d=some k): d=.int k:=by cases d <;> first|(cases h;rfl)|cases h
def q6l(i:Nat)(f1 f2:FE): FS:=fun ρ =>(q5d i ρ).bind fun kvs=>(f1 ρ).bind fun d=>(isK d).bind fun k=>if kvs.length<lim then(f2 (ρ.set i (some (.od (vj kvs k))))).bind fun v=>
 if(vj kvs k).all (fun p=>decide (p.2.length<lim)) then some (.nx, ρ.set i (some (.od (q4s (vj kvs k) k v)))) else none else none
theorem qa3{K:Frag}{F0 H0 F H:Hp}{σ : St}{ρ : Rho}{i j:Nat}{a b:Addr}{bs:List Addr}{kvs:List (Int×List D)}{k:Int}{ds:List D}{xs:List V}{v:D}{u:V}(r:RS K F0 H0 F H σ ρ)(h1 : ρ[i]? = some (some (.od kvs)))(h2 : σ[i]? = some (some (.ref a)))(o:ODt K F H H0 a bs kvs)
  (dis:∀(j:Nat) (es:List D) (b:Addr), ρ[j]? = some (some (.ow es))->b∈bs -> σ[j]? ≠ some (some (.ref b))) (hj:bs[j]? = some b) (hk:kvs[j]? = some (k,ds)) (hx:H b=some (.lst xs)) (hr:RepL K F ds xs) (ru:Rep K F v u) :
  RS K F0 H0 F (upd H b (.lst (xs++[u]))) σ (ρ.set i (some (.od (kvs.set j (k,ds++[v]))))):=by
 have hm:=p6 hj;obtain⟨_,_,fb,zb⟩:=o.mem hm;have nab:a≠b:=fun z=>by subst z;have:=o.h;rw [hx] at this;cases this
 have hjl:j<kvs.length:=(mq.mp hk).1;refine r.updOD (bs:=bs) h1 h2 fb zb (.inl ⟨xs,hx⟩) (fun j' es e=>dis j' es b e hm) ?_ dis;exact {
  h :=by
   rw [qh nab,o.h,List.map_set]
   congr 3
   apply List.ext_getElem?;intro n;rw [g00]
   split
   ·rename_i z
    subst z;rw [mh,hk];simp [hjl]
   ·rfl
  f:=o.f
  z:=o.z
  len:=by rw [t5];exact o.len
  nd:=o.nd
  pn:=o.pn
  b :=fun j' b' k' ds' e1 e2=>by
   by_cases q:j'=j
   ·subst q
    rw [hj] at e1;cases e1;have:=(qi e2).1;cases this;exact⟨_,qq,fb,zb,hr.append (.cons ru .nil)⟩
   ·rw [gc (mi q)] at e2
    obtain⟨zs,y1,y2,y3,y4⟩:=o.b j' b' k' ds' e1 e2;have nb:b'≠b:=fun z=>by
     subst z;exact q ((List.getElem?_inj (mq.mp e1).1 o.nd).mp (e1.trans hj.symm))
    exact⟨zs,by rw [qh nb];exact y1,y2,y3,y4⟩}
omit [Lam] [Pin] in
theorem set_same{α : Type}{l:List α}{i:Nat}{x : α}(h:l[i]? = some x): l.set i x=l:=by
 apply List.ext_getElem?;intro n;rw [g00]
 split
 ·rename_i z
  subst z;rw [h];simp [(mq.mp h).1]
 ·rfl
omit [Lam] [Pin] in
theorem q7i{kvs:List (Int×List D)}{k:Int}(h:k∈kvs.map (·.1)): ∃ds,kvs[(kvs.map (·.1)).idxOf k]? = some (k,ds):=by
 have hl:=g36 h;have:=List.getElem_idxOf hl;rw [List.getElem_map] at this;refine⟨(kvs[(kvs.map (·.1)).idxOf k]'(by simpa using hl)).2,?_⟩;rw [tj (by simpa using hl)]
 congr 1
 exact Prod.ext this rfl
theorem qcn {i:Nat} {x:Str} {e1 e2:Expr} {f1 f2:FE} {px lp apos cpos apos2 cpos2:Pos} (hv:PE X (.Name x px) (q5a i)) (h1:PE X e1 (tD X.K f1)) (h2:PE X e2 (tD X.K f2))
  (hb1:attributeBase (.Name x px) "setdefault" X.env (eval (.Name x px) X.env)=eval (.Name x px) X.env:=by rfl)
  (hf1:((backTo cpos (starEach [e1,.List [] lp] X.env)).all (fun x=> !x.1)&&(backToKw cpos (keywordEach [] X.env)).all (fun x=>x.1.isSome)&&decide ([e1,.List [] lp].length+([]:List Keyword).length+(if([]:List Keyword).isEmpty then 0 else 1)<30))=true:=by rfl)
  (hl1:(apos.endLine==cpos.line)=true:=by rfl) (hs1:starEach [e1,.List [] lp] X.env=(false,eval e1 X.env) :: starEach [.List [] lp] X.env:=by rfl)
  (hp1:(backTo cpos (starEach [.List [] lp] X.env)).any (·.1)=false:=by rfl)
  (hb2:attributeBase (.Call (.Attribute (.Name x px) "setdefault" apos) [e1,.List [] lp] [] cpos) "append" X.env (eval (.Call (.Attribute (.Name x px) "setdefault" apos) [e1,.List [] lp] [] cpos) X.env)=eval (.Call (.Attribute (.Name x px) "setdefault" apos) [e1,.List [] lp] [] cpos) X.env:=by rfl)
  (hf2:((backTo cpos2 (starEach [e2] X.env)).all (fun x=> !x.1)&&(backToKw cpos2 (keywordEach [] X.env)).all (fun x=>x.1.isSome)&&decide ([e2].length+([]:List Keyword).length+(if([]:List Keyword).isEmpty then 0 else 1)<30))=true:=by rfl)
  (hl2:(apos2.endLine==cpos2.line)=true:=by rfl) (hs2:starEach [e2] X.env=(false,eval e2 X.env) :: starEach [] X.env:=by rfl)
  (hs:swapsWith (.Call (.Attribute (.Call (.Attribute (.Name x px) "setdefault" apos) [e1,.List [] lp] [] cpos) "append" apos2) [e2] [] cpos2) none pos.line X.env=pure false:=by rfl) :
  PS X (.Expr (.Call (.Attribute (.Call (.Attribute (.Name x px) "setdefault" apos) [e1,.List [] lp] [] cpos) "append" apos2) [e2] [] cpos2) pos) (tDS X.K (q6l i f1 f2)):=
 yn (q4g (q5y g1t g3m g3n q3b
  (q5y g3w g2z PySem.F.type_dict_setdefault qfs hv (xt h1 (xt (qes wd) wd (by rfl)) hs1) hb1 hf1 hl1 hs1 hp1) (xt h2 wd hs2) hb2 hf2 hl2 hs2 rfl) hs) fun D σ H ⟨F0,H0,F, ρ,fl, ρ',r,hf,q⟩=>by
  obtain⟨kvs,h1,hf⟩:=g6.mp hf;obtain⟨d,h2,hf⟩:=g6.mp hf;obtain⟨k,h3,hg⟩:=g6.mp hf;clear hf;rw [qhv h3] at h2;have hf:=hg;clear hg;have h1:=q3s h1
  by_cases hlim:kvs.length<lim
  ·rw [m4 hlim] at hf
   obtain⟨v,h4,hf⟩:=g6.mp hf
   split at hf
   ·rename_i hall
    cases hf;obtain⟨a,bs,e1,o,dis⟩:=r.od i kvs h1;refine⟨.ref a,e1,.inr (.inr (.inl ⟨rfl,.inl ⟨_,o.h⟩⟩)),F0,H0,F, ρ,.int k,r,h2,fun y F1 H1 g1 r1=>?_⟩;cases rep_int.mp r1;refine⟨g0b _,fun p hp=>?_⟩;have g2:=Grow.own (o:=.lst []) g1.fh hp;have r2:=r.grow (g1.trans g2);have o2:=o.grow (g1.trans g2);have o1:=o.grow g1;have hlen:(kvs.map (·.1)).length=bs.length:=by rw [gr,o.len]
    refine⟨a,kvs.map (·.1),bs,k,p,rfl,rfl,o2.h,hlen,by rw [o.len];exact q1l hlim,fun b hk hb=>?_,fun hk=>?_⟩
    ·unfold vj at h4 hall q
     rw [m4 hk] at h4 hall q;rw [set_same h1] at h4;obtain⟨ds,hds⟩:=q7i hk;obtain⟨xs,y1,y2,y3,y4⟩:=o2.b _ b k ds hb hds;refine⟨.inl ⟨rfl,xs,SqL.of y1⟩,F0,H0,F1, ρ,v,r2,h4,fun u F3 H3 g3 r3=>?_⟩;have hl:ds.length<lim:=by simpa using mv.mp hall _ (p6 hds)
     refine⟨b,xs,u,rfl,rfl,g3.hh.lst _ _ y1,q1l (by rw [<- y4.length];exact hl),?_⟩;have:=qa3 (r2.grow g3) h1 e1 (o2.grow g3) dis hb hds (g3.hh.lst _ _ y1) (y4.mono g3.ff) r3;refine q _ F3 _ (g1.ff.trans g3.ff) ?_;unfold q4s;rw [hds];exact this
    ·have np:p∉bs:=fun z=>by obtain⟨xs,y,_⟩:=o1.mem z;rw [hp] at y;cases y
     have npa:p≠a:=fun z=>by subst z;have:=o1.h;rw [hp] at this;cases this
     unfold vj at h4 hall q;rw [m9 hk] at h4 hall q;have il:i < ρ.length:=(mq.mp h1).1;have F1p:F1 p=none:=g1.fh.free hp;have H0p:H0 p=none:=(r.grow g1).g.hh.free hp;have o3:ODt X.K F1 (upd (upd H1 p (.lst [])) a (.dK (q3d (kvs.map (·.1)++[k]) (bs++[p])))) H0 a (bs++[p]) (kvs++[(k,[])]):={
      h:=by rw [qq,pj];rfl
      f:=o2.f
      z:=o2.z
      len:=by simp [o.len]
      nd:=by
       rw [List.nodup_append];exact⟨o.nd,by simp,fun x hx y hy z=>by simp at hy;subst hy;subst z;exact np hx⟩
      pn:=o.pn
      b :=fun j b k' ds' z1 z2=>by
       by_cases hj:j<bs.length
       ·rw [nh hj] at z1
        rw [nh (by rw [<- o.len];exact hj)] at z2;obtain⟨xs,y1,y2,y3,y4⟩:=o2.b j b k' ds' z1 z2;have nb:b≠a:=fun z=>by subst z;have:=o2.h;rw [y1] at this;cases this
        exact⟨xs,by rw [qh nb];exact y1,y2,y3,y4⟩
       ·have hj2:j=bs.length:=by
         have:=(mq.mp z1).1;rw [n9,g0l] at this;omega
        subst hj2;rw [nq (gu _),Nat.sub_self] at z1;rw [nq (by rw [o.len];exact gu _),o.len,Nat.sub_self] at z2;cases z1;cases z2;exact⟨[],by rw [qh npa];exact qq,F1p,H0p,.nil⟩}
     have dis2:∀(j:Nat) (es:List DL.D) (b:Addr), ρ[j]? = some (some (.ow es))->b∈bs++[p] -> σ[j]? ≠ some (some (.ref b)):=fun j es b z1 z2=>by
      rcases pb.mp z2 with z2|z2
      ·exact dis j es b z1 z2
      ·simp at z2
       subst z2;intro z;obtain⟨c,ys,w1,w2,_⟩:=(r.grow g1).ow j es z1;rw [z] at w1;cases w1;rw [hp] at w2;cases w2
     have r3:=r2.updOD (bs:=bs) (p:=a) h1 e1 o2.f o2.z (.inr ⟨_,o2.h⟩) (fun j es z1 z=>by
      obtain⟨c,ys,w1,w2,_⟩:=r2.ow j es z1;rw [z] at w1;cases w1;have:=o2.h;rw [w2] at this;cases this) o3 dis2
     have hi3:(ρ.set i (some (.od (kvs++[(k,[])]))))[i]? = some (some (.od (kvs++[(k,[])]))):=by rw [g00];simp [il]
     have pl:(upd (upd H1 p (.lst [])) a (.dK (q3d (kvs.map (·.1)++[k]) (bs++[p])))) p=some (.lst []):=by rw [qh npa];exact qq
     refine⟨.inl ⟨rfl,[],SqL.of pl⟩,F0,H0,F1,_,v,r3,h4,fun u F4 H4 g4 r4=>?_⟩;refine⟨p,[],u,rfl,rfl,g4.hh.lst _ _ pl,by decide,?_⟩;have hb:(bs++[p])[bs.length]? = some p:=by simp
     have hds:(kvs++[(k,([]:List DL.D))])[bs.length]? = some (k,[]):=by rw [o.len];simp
     have dis3:∀(j:Nat) (es:List DL.D) (b:Addr),(ρ.set i (some (.od (kvs++[(k,[])]))))[j]? = some (some (.ow es))->b∈bs++[p] -> σ[j]? ≠ some (some (.ref b)):=fun j es b z1 z2=>by
      by_cases qj:j=i
      ·subst qj;have:=(qi z1).1;cases this
      ·rw [gc (mi qj)] at z1;exact dis2 j es b z1 z2
     have:=qa3 (r3.grow g4) hi3 e1 (o3.grow g4) dis3 hb hds (g4.hh.lst _ _ pl) .nil r4;refine q _ F4 _ (g1.ff.trans g4.ff) ?_;unfold q4s;have ix:((kvs++[(k,([]:List DL.D))]).map (·.1)).idxOf k=bs.length:=by
      rw [pj,List.idxOf_append,m9 hk,o.len];simp
     rw [ix,hds];rw [List.set_set] at this;exact this
   ·cases hf
  ·rw [m9 hlim] at hf;cases hf
def qdt(i:Nat)(ρ : Rho): Rho:=match ρ[i]? with
 | some (some (.od kvs))=> ρ.set i (some (.fz (odD kvs)))
 | _=> ρ
def qdu(i:Nat)(u:FS): FS:=fun ρ =>u (qdt i ρ)
theorem qco{u:FS}(i:Nat){sts:List Stmt}(h:PSs X sts (tDS X.K u)): PSs X sts (tDS X.K (qdu i u)):=q4i h fun D σ H ⟨F0,H0,F, ρ,fl, ρ',r,hf,q⟩=>by
 have:∃F',Same F F'/\RS X.K F0 H0 F' H σ (qdt i ρ):=by
  unfold qdt
  split
  ·rename_i kvs h
   exact r.freezeOD h
  ·exact⟨F,.refl _,r⟩
 obtain⟨F',s',r'⟩:=this;exact⟨F0,H0,F',qdt i ρ,fl, ρ',r',hf,q19 s' q⟩
end
end DL
namespace Js
open PySem
def el(p:Nat×Nat): Int×Value:=((p.1:Int),.int (p.1:Int) p.2)
structure Tb(t:SetTable)(ks:List (Nat×Nat)): Prop where
 dm:t.dummies = #[]
 pl:t.plain=true
 nd:(ks.map Prod.fst).Nodup
 lt:∀p∈ks,p.1<12
 sz:t.place.toList.length=ks.length
 rs:t.place.toList.Pairwise (· < ·)
 mz:(t.mask=7/\(∀p∈t.place.toList,p<8))\/((t.mask=15\/t.mask=31\/t.mask=63)/\t.place.toList=ks.map Prod.fst)
abbrev byT(w:World): Bool:=w.params.followText "set-order"
structure SI(w:World)(h:Heap)(a:Addr)(t:SetTable)(ks:List (Nat×Nat)): Prop where
 ob:∃o ep,h.get? a=some o/\o.ExactSet/\o.data=.set (ks.map el).toArray ep t
 tb:Tb t ks
 ld:t.led = !byT w
section
variable{prog:Program}{w:World}{A:Around}{E:Value->Shared->Prop}{s:Shared}{a:Addr}{t:SetTable}{ks:List (Nat×Nat)}
end
section
variable{prog:Program}{w:World}{A:Around}{E:Value->Shared->Prop}{s:Shared}{a b:Addr}{t u:SetTable}{ks ls:List (Nat×Nat)}
theorem SI.keep{h h':Heap}(S:SI w h a t ks)(e:∀o,h.get? a=some o->h'.get? a=some o): SI w h' a t ks:=by
 obtain⟨o,ep,ho,r⟩:=S.ob;exact⟨⟨o,ep,e o ho,r⟩,S.tb,S.ld⟩
end
section
variable{prog:Program}{w:World}{A:Around}{E:Value->Shared->Prop}{s:Shared}{a b:Addr}{t u:SetTable}{ks ls:List (Nat×Nat)}
end
section
variable{prog:Program}{w:World}{A:Around}{E:Value->Shared->Prop}{s:Shared}{a b:Addr}{t u:SetTable}{ks ls:List (Nat×Nat)}
end
section
variable{prog:Program}{w:World}{A:Around}{R:Result->Shared->Prop}{I:Addr}{fp wr:List Addr}{G:Array GenState->Array GenState->Prop}{P:Nat->Value->Prop}{St:Nat->Shared->Prop}
end
section
variable{prog:Program}{w:World}{A:Around}{E:Value->Shared->Prop}{s:Shared}
end
section
variable{prog:Program}{w:World}{A:Around}{E:Value->Shared->Prop}{s:Shared}{a it:Addr}{t:SetTable}{ks vals:List (Nat×Nat)}{ep slot i:Nat}
end
end Js
namespace Js
open PySem PyProof.Rows
section
variable{prog:Program}{w:World}{A:Around}{E:Value->Shared->Prop}{s:Shared}{a:Addr}{t:SetTable}{ks vals:List (Nat×Nat)}{ep:Nat}
end
end Js
namespace DL
open PySem PySem.Spec PyProof.Rows L2
variable[Lam][Pin]
section
variable{X:Cx}
end
end DL
namespace Js
open PySem PyProof.Rows
section
variable{prog:Program}{w:World}{A:Around}{E:Value->Shared->Prop}{s:Shared}
end
section
variable{prog:Program}{w:World}{A:Around}{E:Value->Shared->Prop}{s:Shared}
theorem qb7{Q:List Value->Shared->Prop}{T:String}{r d:Addr}{n:Nat}{P:Nat->Value->Prop}{OK:Heap->Prop}(K:PySem.W.KdlSrc prog w T r d n P OK)(hh:A.handled=none)(hok:OK s.heap)(hn:n<=sizeLine)
  (h:∀(h':Heap) (tk:Nat) (vs:List Value),vs.length=n->(∀i v,vs[i]? = some v->P i v)->(∀b o,b<s.heap.objs.size->s.heap.get? b=some o->h'.get? b=some o)->s.heap.objs.size<=h'.objs.size->Q vs {s with heap:=h',toks:=tk}) :
  wpAny (model prog w) A (collect (.ref r)) Q E s:=by
 unfold collect;refine g0 (wpAny_runValue (g2e (?_:codeAny _ _ _ (fun res s'=>res=.ok (.ret (.ref s.heap.objs.size))/\∃h' tk acc' c',s' = {s with heap:=h',toks:=tk}/\(∀b o,b<s.heap.objs.size->s.heap.get? b=some o->h'.get? b=some o)/\h'.get? s.heap.objs.size=some {cls:=.type "list",dict:=none,data:=.seq acc' c',slots:= #[]}/\ItemsOf P acc' n) _) fun res s' hr=>?_))
 ·refine g3z F.entry_proto_collect ?_
  rw [Around.under_plainId F.plain_proto_collect _];show wpAny _ A.in1 (newList [] >>= fun l=>again (.builtin "list.__iadd__" ⟨[l,.ref r],[]⟩)) _ _ s;refine g0 (uz ?_);refine gh ⟨plainId_quiet F.plain_list_iadd _,g3z F.entry_list_iadd ?_⟩;rw [Around.under_plainId F.plain_list_iadd _]
  let lo:Obj:={cls:=.type "list",data:=.seq ([]:List Value).toArray}
  have hS:(s.heap.push lo).get? s.heap.objs.size=some lo:=ma _ rfl;have hlt:=K.there _ hok;show wpAny _ A.in1 (Builtin.List.listExtendWith (.ref s.heap.objs.size) (.ref r) (.ref s.heap.objs.size)) _ _ _;refine PySem.W.kdl_extend (R:=fun res s'=>res=.ok (.ret (.ref s.heap.objs.size))/\∃h' tk acc' c',s' = {s with heap:=h',toks:=tk}/\(∀b o,b<s.heap.objs.size->s.heap.get? b=some o->h'.get? b=some o)/\h'.get? s.heap.objs.size=some {cls:=.type "list",dict:=none,data:=.seq acc' c',slots:= #[]}/\ItemsOf P acc' n)
   (s:={s with heap:=s.heap.push lo}) K hh (K.keep _ _ hok fun b _ o e=>g9 _ e) _ (g03 hlt.1) (g03 hlt.2) _ _ hS (fun h' tk acc' c' hk hS' hacc=>⟨rfl,h',tk,acc',c',rfl,fun b o hb e=>hk b o (mn hb) (g9 _ e),hS',hacc⟩) hn
 ·obtain⟨rfl,h',tk,acc',c',rfl,hk,hS',hacc⟩:=hr
  show wpAny _ A (load s.heap.objs.size >>= _) _ _ _;refine g0 (wpAny_load (s:={s with heap:=h',toks:=tk}) hS' ?_);refine gh ?_;exact h h' tk acc'.toList (by rw [ng];exact hacc.1) (fun i v e=>hacc.2 i v (by rw [<- g0n];exact e)) hk (g2b (m8 hS'))
theorem qdv{Q:Value->Shared->Prop}{T:String}{r d:Addr}{n:Nat}{P:Nat->Value->Prop}{OK:Heap->Prop}{ks:List Int}(K:PySem.W.KdlSrc prog w T r d n P OK)(hh:A.handled=none)(hok:OK s.heap)(hn:n<64)(hks:ks.length=n)(hP:∀i v,P i v->∃k t,ks[i]? = some k/\v=Value.int k t)
  (h:∀(h':Heap) (tk:Nat) (c:Addr) (out:List Value) (ns':List Int) (e:Nat),IntsAre out ns'->ns'.Perm ks->ns'.Pairwise (· <= ·)->(∀b o,b<s.heap.objs.size->s.heap.get? b=some o->h'.get? b=some o) ->
   s.heap.objs.size<=c->h'.get? c=some (seqObj "list" out.toArray e)->Q (.ref c) {s with heap:=h',toks:=tk}) :
  wpAny (model prog w) A (call (.builtin "sorted") [.ref r]) Q E s:=by
 refine Calls.call_function_entry kind_sorted plain_sorted entry_sorted (args_sorted1 _) ?_;unfold Builtin.«sorted»;refine g0 (m:=checkCount "sorted" 1 1 _) (gh ?_);refine g0 (qb7 (A:=A.in1) K (by simpa using hh) hok (ml (g2b hn) (by decide)) fun h1 t1 vals hvl hvs hk hz=>?_);refine g0 (g25 ?_);have hoL:(h1.push (seqObj "list" vals.toArray 0)).get? h1.objs.size=some (seqObj "list" vals.toArray 0):=ma _ rfl;have hI:IntsAre vals ks:=by
  have:∀(vals:List Value) (ks:List Int),vals.length=ks.length->(∀(i:Nat) v,vals[i]? = some v->∃k t,ks[i]? = some k/\v=Value.int k t)->IntsAre vals ks:=by
   intro vals
   induction vals with
   | nil=>intro ks e _;cases ks with|nil=>exact .nil|cons _ _=>cases e
   | cons v l ih=>
    intro ks e hv;cases ks with
    | nil=>cases e
    | cons k ks=>
     obtain⟨k',t,z1,rfl⟩:=hv 0 v rfl;cases z1;exact .cons _ _ (ih ks (by simpa using e) fun i v z=>by simpa using hv (i+1) v (by simpa using z))
  exact this vals ks (by rw [hvl,hks]) fun i v e=>hP i v (hvs i v e)
 refine g0 (g05 (g09 slot_list_sort ⟨_,hoL,rfl⟩ entry_list_sort (list_sort_tree (s:={s with heap:=h1.push (seqObj "list" vals.toArray 0),toks:=t1}) hoL hI (by rw [hvl];exact hn) fun out ns' a1 a2 a3=>⟨_,rfl,?_⟩) (args_list_sort _)));refine gh ⟨_,rfl,?_⟩;have e1:=g0o hoL (fun _=> #[]);have e2:=g9 (seqObj "tuple" vals.toArray 0) e1;have e3:=g9 (seqObj "list" #[] 0) e2;have e4:=g0o e3 (fun _=>out);refine h (sortedHeap (h1.push (seqObj "list" vals.toArray 0)) h1.objs.size vals out) t1 h1.objs.size out.toList ns' _ a1 a2 a3 (fun b ob hb e=>?_) hz (by unfold sortedHeap;simpa using e4);have nb:b≠h1.objs.size:=mn (mf hb hz);unfold sortedHeap;refine(g20 _ _ (mi nb)).trans ?_;refine g9 _ (g9 _ ?_);refine(g20 _ _ (mi nb)).trans ?_;exact g9 _ (hk b ob hb e)
end
end Js
namespace DL
open PySem PySem.Spec PyProof.Rows L2
variable[Lam][Pin]
section
variable{X:Cx}{pos:Pos}
def q3t:List Key->Option (List Int)
 | []=>some []
 | .inl i :: r=>(q3t r).map (i :: ·)
 | _ :: _=>none
omit [Lam] [Pin] in
theorem q7j:∀ {ks:List Key} {ns:List Int},q3t ks=some ns->ks=ns.map Sum.inl
 | [],ns,h=>by cases h;rfl
 | .inl i :: ks,ns,h=>by
  obtain⟨ms,h1,rfl⟩:=md.mp h;rw [q7j h1];rfl
 | .inr _ :: _,_,h=>by cases h
def q5e:D->D->Option D
 | .dct ks vs,.int k=>(q3t ks).bind fun ns=>if k∈ns then vs[ns.idxOf k]? else none
 | _,_=>none
def qpf(K:Frag): R2:=rD K q5e
theorem qn7:IxR X (qpf X.K):=by
 intro value slice pins s σ H x y v u Q I rx ry ⟨F,d1,d2,d,fh,r1,r2,ho,q⟩ hs;unfold q5e at ho
 split at ho
 ·rename_i ks vs k
  obtain⟨ns,hns,hg⟩:=g6.mp ho;clear ho;have ho:=hg;clear hg;obtain rfl:=q7j hns
  split at ho
  ·rename_i hk
   cases rep_int.mp r2;obtain⟨a,xs,rfl,e1,e2,e3⟩:=rep_dct.mp r1;cases rx;obtain⟨t,rfl⟩:=ry;obtain⟨z,hd,vvs,rel,dd⟩:=(show ObjOk X.prog X.w H s.heap a _ from I.hok a _ (fh _ _ e1))
   obtain⟨us,ru,rfl⟩:=q3r rel (by simpa using e2);obtain⟨w,ew,rw'⟩:=e3.get ho;obtain⟨uu,eu,ruu⟩:=ru.get ew;refine tail_any (ops:=[.ref a,.int k t]) (T:="dict") dd.typeIs PySem.F.slot_dict_getitem.lookup ?_ hs;refine wpAny_getItem_of (q1u _ _ k t) dd.mapOf (v:=uu) ?_ ⟨w,H,I.tok _,ruu,q w F H (.refl fh) rw'⟩;rw [q6j (by rw [<- ru.length, <- e2,gr]),m4 hk];exact eu
  ·cases ho
 ·cases ho
theorem qn8{a b:Expr}{f g:FE}(ha:PE X a (tD X.K f))(hb:PE X b (tD X.K g))(hs:q79 b:=by intro _ _;rfl): PE X (.Subscript a b pos) (tD X.K (eOp q5e f g)):=zv (qik qn7 ha hb hs) fun σ H Q h=>two h
def q3u:List Key->Option (List Nat)
 | []=>some []
 | .inl i :: r=>if 0<=i/\i<12 then(q3u r).map (i.toNat :: ·) else none
 | _ :: _=>none
def upTo(ns:List Nat): List D:=((List.range 12).filter fun n=>decide (n∈ns)).map fun n=>D.int (n:Nat)
def q6m:D->Option (List D)
 | .dct ks _=>(q3u ks).bind fun ns=>if ns.Nodup then some (upTo ns) else none
 | _=>none
def qdw(f:FE): FA:=fun ρ =>(f ρ).bind q6m
omit [Lam] [Pin] in
theorem qcp:∀ {ks:List Key} {ns:List Nat},q3u ks=some ns->ks=(ns.map fun n:Nat=>(n:Int)).map Sum.inl/\∀n∈ns,n<12
 | [],ns,h=>by cases h;exact⟨rfl,by simp⟩
 | .inl i :: ks,ns,h=>by
  unfold q3u at h
  split at h
  ·rename_i hi
   obtain⟨ms,h1,rfl⟩:=md.mp h;obtain⟨e1,e2⟩:=qcp h1;refine⟨by rw [e1,gd,gd,g1f hi.1],fun n hn=>?_⟩;rcases mw.mp hn with rfl|hn
   ·lia
   ·exact e2 n hn
  ·cases h
 | .inr _ :: _,_,h=>by cases h
omit [Lam] [Pin] in
theorem qb8{ns:List Nat}(h:ns.Nodup)(hl:∀n∈ns,n<12): ns.length<=12:=by
 have:ns.Perm ((List.range 12).filter fun n=>decide (n∈ns)):=by
  refine(g3c h (g0t _ g2a)).mpr fun n=>?_;rw [mx,ur,g17];exact⟨fun h=>⟨hl n h,h⟩,fun h=>h.2⟩
 rw [this.length_eq];exact ml (tx _ _) (by simp)
def upV(ns:List Nat): List V:=((List.range 12).filter fun n=>decide (n∈ns)).map fun n=>V.int (n:Nat)
omit [Lam] [Pin] in
theorem qn9{K:Frag}{F:Hp}(ns:List Nat): RepL K F (upTo ns) (upV ns):=by
 have:=(RepL.ints (K:=K) (H:=F) (ns:=((List.range 12).filter fun n=>decide (n∈ns)).map fun n:Nat=>(n:Int)) (xs:=upV ns)).mpr (by unfold upV;rw [nv];rfl);rw [nv] at this;exact this
theorem qfu{ns':List Int}{ns:List Nat}(hp:ns'.Perm (ns.map fun n:Nat=>(n:Int)))(hs:ns'.Pairwise (· <= ·))(hn:ns.Nodup)(hl:∀n∈ns,n<12): ns'=((List.range 12).filter fun n=>decide (n∈ns)).map fun n:Nat=>(n:Int):=by
 refine q3l (hp.trans ?_) hs ?_
 ·refine List.Perm.map _ ((g3c hn (g0t _ g2a)).mpr fun n=>?_)
  rw [mx,ur,g17];exact⟨fun h=>⟨hl n h,h⟩,fun h=>h.2⟩
 ·rw [uf]
  refine List.Pairwise.imp (fun {a b} h=>?_) (g0t _ (g47 (n:=12)));lia
def qon(K:Frag): List V->Hp->VK->Prop:=fun xs H Q=>∃F d ns,Same F H/\RepL K F [d] xs/\q6m d=some (upTo ns)/\(∃ks vs,d=.dct ks vs/\q3u ks=some ns/\ns.Nodup)/\∀c,H c=none->Q (.ref c) (upd H c (.lst (upV ns)))
theorem qkc(hc:X.calm=true): xf X (.builtin "sorted") (qon X.K):=fun pins s σ H xs us Q I rv ⟨F,d,ns,fh,rl,_,⟨ks,vs,hd,hk,hn⟩,q⟩=>by
 subst hd;obtain⟨x,rfl,rx⟩:=rep1 rl;obtain⟨a,ys,rfl,e1,e2,e3⟩:=rep_dct.mp rx;obtain⟨u,rfl,ru⟩:=vals1 rv;cases ru;obtain⟨z,hd,vvs,rel,dd⟩:=(show ObjOk X.prog X.w H s.heap a _ from I.hok a _ (fh _ _ e1))
 obtain⟨rfl,hl⟩:=qcp hk;obtain⟨us,ru,rfl⟩:=q3r rel (by simpa using e2);have hlen:ns.length<=12:=qb8 hn hl;have hul:ns.length=us.length:=by rw [<- ru.length, <- e2,gr,gr]
 obtain⟨o,es,ep,g1,g2⟩:=id dd;have da:s.heap.DictAt (mixKind X.prog X.w) a (yt (ns.map fun n:Nat=>(n:Int)) us) ep:=⟨o,es,g1,g2⟩
 have hzl:(yt (ns.map fun n:Nat=>(n:Int)) us).length=ns.length:=by unfold yt;rw [g0c,gr,gr, <- hul,g2h]
 refine Js.qdv (ks:=ns.map fun n:Nat=>(n:Int)) (PySem.W.kdl_dict hd) (I.ok.hd hc) da (by rw [hzl];lia) (by rw [hzl,gr]) (fun i v ⟨k,x,hx,hkv⟩=>?_) fun h' tk c out ns' e hI hp hs old hc' hget=>?_
 ·unfold yt at hx
  rw [g3j] at hx;have h2:=hx.1;rw [mh] at h2;obtain⟨n,hn1,rfl⟩:=md.mp h2;rw [qd2] at hkv;obtain⟨t,rfl⟩:=Value.isInt_shape (k:=n) (v:=v) hkv;exact⟨n,t,hn1,rfl⟩
 ·have hnn:H c=none:=I.hok.fresh hc'
  have hL:=qfu hp hs hn hl;subst hL;have vo:=q0k hI;rw [nv] at vo;refine⟨.ref c,_,I.laid (t':=tk) (a:=c) (o:=.lst (upV ns)) (fun b ob qb=>old b ob (m8 qb) qb) hc' ⟨?_,out,e,vo,hget⟩,rfl,q _ hnn⟩;unfold upV;rw [gr];exact ml (tx _ _) (vf (by simp;decide))
theorem qkd{a:Expr}{f:FE}{p:Pos}(hc:X.calm=true)(hgs:Gl X "sorted")(hms:X.mg "sorted" = none)(ha:PE X a (tD X.K f))
  (s1:starEach [a] X.env=(false,eval a X.env) :: starEach [] X.env:=by rfl) (h1:∀pos,(backTo pos (starEach [] X.env)).any (·.1)=false:=by intro _;rfl) :
  PE X (.Call (.Name "sorted" p) [a] [] pos) (tL X.K (qdw f)):=by
 refine zv (q2h (qkc hc) hgs hms boot_sorted (xt ha wd s1) (he:=s1) (hpl:=h1 _)) fun σ H Q ⟨F0,H0,F, ρ,ds,r,hf,q⟩=>?_;obtain⟨x,hx,hj⟩:=g6.mp hf;have hj0:=hj;unfold q6m at hj
 split at hj
 ·rename_i ks vs
  obtain⟨ns,hn,hj⟩:=g6.mp hj
  split at hj
  ·rename_i hnd
   cases hj;refine⟨F0,H0,F, ρ,.dct ks vs,r,hx,fun v F1 H1 g1 r1=>?_⟩;refine⟨F1,.dct ks vs,ns,g1.fh,.cons r1 .nil,hj0,⟨ks,vs,rfl,hn,hnd⟩,fun c hcn=>?_⟩;have g2:=Grow.own (o:=.lst (upV ns)) g1.fh hcn;exact q c _ F1 _ (g1.trans g2) (g1.fh.free hcn) (g1.hh.free hcn) qq (qn9 ns)
  ·cases hj
 ·cases hj
end
def less(H:Hp)(a:Addr)(bs:List Addr): Hp:=fun b=>if b=a\/b∈bs then none else H b
omit [Lam] [Pin] in
theorem q3v{H:Hp}{a b:Addr}{bs:List Addr}{o:HO}(h:less H a bs b=some o): H b=some o/\¬(b=a\/b∈bs):=by
 unfold less at h
 split at h
 ·cases h
 ·exact⟨h,by assumption⟩
omit [Lam] [Pin] in
theorem qhw{H:Hp}{a b:Addr}{bs:List Addr}(h:b=a\/b∈bs): less H a bs b=none:=m4 h
omit [Lam] [Pin] in
theorem q2w{H:Hp}{a b:Addr}{bs:List Addr}(h:¬(b=a\/b∈bs)): less H a bs b=H b:=m9 h
abbrev OD0(K:Frag)(F H H0:Hp)(a:Addr)(bs:List Addr)(kvs:List (Int×List D)): Prop:=@ODt ⟨none⟩ K F H H0 a bs kvs
omit [Lam] [Pin] in
theorem ODt.re{P P':Pin}{K:Frag}{F H H0:Hp}{a:Addr}{bs:List Addr}{kvs:List (Int×List D)}(o:@ODt P K F H H0 a bs kvs)(hp:∀p,P'.pin=some p->a=p): @ODt P' K F H H0 a bs kvs:=by
 obtain⟨h,f,z,len,nd,pn,b⟩:=o;exact⟨h,f,z,len,nd,hp,b⟩
omit [Lam] in
theorem ODt.reH{K:Frag}{F H H0 H1:Hp}{a:Addr}{bs:List Addr}{kvs:List (Int×List D)}(o:ODt K F H H0 a bs kvs)(hz:∀b,b=a\/b∈bs->H1 b=none): ODt K F H H1 a bs kvs:=
 ⟨o.h,o.f,hz a (.inl rfl),o.len,o.nd,o.pn,fun j b k ds e1 e2=>by
  obtain⟨xs,z1,z2,z3,z4⟩:=o.b j b k ds e1 e2;exact⟨xs,z1,z2,hz b (.inr (p6 e1)),z4⟩⟩
theorem ODt.kind{K:Frag}{F H H0:Hp}{a:Addr}{bs:List Addr}{kvs:List (Int×List D)}(o:ODt K F H H0 a bs kvs){b:Addr}(h:b=a\/b∈bs): (∃xs,H b=some (.lst xs))\/∃xs,H b=some (.dK xs):=by
 rcases h with rfl|h
 ·exact .inr ⟨_,o.h⟩
 ·obtain⟨xs,e,_⟩:=o.mem h
  exact .inl ⟨xs,e⟩
theorem Tab.less{K:Frag}{F H H0:Hp}{a:Addr}{bs:List Addr}{kvs:List (Int×List D)}(t:Tab H)(o:ODt K F H H0 a bs kvs): Tab (less H a bs):=fun q hq=>by
 obtain⟨ps,e,ht,k⟩:=t q hq;have nn:∀ {b:Addr} {u:HO},H b=some u->(∀xs,u ≠ .lst xs)->(∀xs,u ≠ .dK xs)->DL.less H a bs b=some u:=fun {b u} e1 e2 e3=>by
  rw [q2w,e1];intro z;rcases o.kind z with⟨xs,y⟩|⟨xs,y⟩ <;> (rw [e1] at y;cases y)
  ·exact e2 _ rfl
  ·exact e3 _ rfl
 refine⟨ps,nn e nofun nofun,ht,fun pos cv z=>?_⟩;obtain⟨c, φ,e1,e2,e3⟩:=k pos cv z;exact⟨c, φ,e1,nn e2 nofun nofun,e3⟩
def qdx(K:Frag)(op:D->List (Int×List D)->Option (List (Int×List D))): Sp:=fun vs H Q _=>∃F a bs kvs kvs' d v,vs=[v,.ref a]/\SameT F H/\Rep K F d v/\OD0 K F H (less H a bs) a bs kvs/\op d kvs=some kvs' /\
 ∀F' H' bs',Grow F (less H a bs) F' H'->OD0 K F' H' (less H a bs) a bs' kvs'->Q .non H'
def q4t(n:Nat)(d:D)(kvs:List (Int×List D)): Rho:=some (.fz d) :: some (.od kvs) :: List.replicate n none
def q6n(n:Nat)(u:FS)(d:D)(kvs:List (Int×List D)): Option (List (Int×List D)):=match u (q4t (n-2) d kvs) with
 | some (.nx, ρ')=>q5d 1 ρ'
 | _=>none
omit [Lam] [Pin] in
theorem w6{n:Nat}{d:D}{kvs:List (Int×List D)}{i:Nat}{b:B}(h:(q4t n d kvs)[i]? = some (some b)): (i=0/\b=.fz d)\/(i=1/\b=.od kvs):=by
 unfold q4t at h
 match i,h with
 | 0,h=>cases h;exact .inl ⟨rfl,rfl⟩
 | 1,h=>cases h;exact .inr ⟨rfl,rfl⟩
 | i+2,h=>
  rw [uk,uk,uj] at h
  split at h <;> cases h
theorem qhx{K:Frag}{F H:Hp}{N:List Str}{v:V}{a:Addr}{d:D}{bs:List Addr}{kvs:List (Int×List D)}(hn:2<=N.length)(hp:∀p,Pin.pin=some p->a=p)(s:SameT F H)(r:Rep K F d v)(o:OD0 K F H (less H a bs) a bs kvs):
  RS K F (less H a bs) F H (L2.start N [v,.ref a]) (q4t (N.length-2) d kvs) where
 t0:=⟨s.t.less (o.re hp),s.f⟩
 g:=⟨.refl _,⟨fun b xs e=>(q3v e).1,fun b xs e=>(q3v e).1,fun {b} e=>by unfold less;split <;> first|rfl|exact e,fun _=>s.t,fun b xs e=>(q3v e).1⟩,s.s,fun _ z=>.inl z⟩
 len:=by unfold L2.start q4t;simp
 fz:=fun i e h=>by
  rcases w6 h with⟨rfl,z⟩|⟨rfl,z⟩
  ·cases z;exact⟨v,rfl,r⟩
  ·cases z
 ow:=fun i e h=>by rcases w6 h with⟨rfl,z⟩|⟨rfl,z⟩ <;> cases z
 dj:=fun i j e1 e2 a' _ h=>by rcases w6 h with⟨rfl,z⟩|⟨rfl,z⟩ <;> cases z
 od:=fun i ks h=>by
  rcases w6 h with⟨rfl,z⟩|⟨rfl,z⟩
  ·cases z
  ·cases z
   exact⟨a,bs,rfl,o.re hp,fun j es b h=>by rcases w6 h with⟨rfl,z⟩|⟨rfl,z⟩ <;> cases z⟩
 o1:=fun i j k1 k2 h1 h2=>by
  rcases w6 h1 with⟨rfl,z⟩|⟨rfl,z⟩
  ·cases z
  ·rcases w6 h2 with⟨rfl,z2⟩|⟨rfl,z2⟩
   ·cases z2
   ·rfl
theorem qna{K:Frag}{F0 H0 F H:Hp}{σ : St}{ρ : Rho}{a:Addr}{kvs:List (Int×List D)}(hp:Pin.pin=some a)(r:RS K F0 H0 F H σ ρ)(h:q5d 1 ρ = some kvs): ∃bs,Grow F0 H0 F H/\OD0 K F H H0 a bs kvs:=by
 obtain⟨a',bs,e1,o,_⟩:=r.od 1 kvs (q3s h);obtain rfl:a'=a:=o.pn a hp;exact⟨bs,r.g,o.re nofun⟩
omit [Pin] in
theorem qfv{P:Program}{w:World}{K:Frag}{mg:Str->Option Value}{base:Heap}{k:Nat}{f:Addr}{fd:FuncData}{ps:List Str}: FnOk P w K mg base CX0 k f fd ps (qdx K fun _ _=>none):=
 FnOk.mk (fun vs H Q E z=>by
   obtain⟨F,a,bs,kvs,kvs',d,v,_,_,_,_,h,_⟩:=z;cases h)
  (fun A outer s H args us vs Q E _ _ _ _ z=>by
   obtain⟨F,a,bs,kvs,kvs',d,v,_,_,_,_,h,_⟩:=z;cases h)
omit [Pin] in
theorem Fun2.okOD{P:Program}{w:World}{K:Frag}{mg:Str->Option Value}{base:Heap}{x qual:Str}{st:Stmt}{dV:Value}{f:Addr}{fd:FuncData}{N ps:List Str}{k n k1:Nat}{u:FS}(F:Fun2 K x qual st dV f fd)(S:FnScope N ps (qd st))(hn:N.length=n)(ha:ps.length=2)(hk:k+1=k1)
  (hb:∀(Pn:Pin) (cdv:Value) (A:Around) (outer:List Env) (s:Shared) (H:Hp) (E:XK),Room k (A.deeper (envOfC qual (qd st) s.heap.objs.size f cdv))->PSs (zq CX0 P w K mg base N qual (qd st) f cdv A outer s H E).nox (qr st) (@tDS _ Pn K u)) :
  FnOk P w K mg base CX0 k1 f fd ps (qdx K (q6n n u)):=by
 subst hn hk;obtain⟨oc,od,kV,doc,pm,an,cdv,ct,osl,rfl,lk,hcd⟩:=F.ex;have hpl:ps.length<=N.length:=by have:=uy List.length S.pre;rw [tf] at this;omega
 refine qij lk hcd S (fun vs H Q E h=>?_) fun A outer s H vs Q E hr hsp=>?_
 ·obtain⟨F,a,bs,kvs,kvs',d,v,rfl,_⟩:=h
  exact ha.symm
 ·obtain⟨F,a,bs,kvs,kvs',d,v,rfl,sT,rd,o,hop,q⟩:=hsp
  refine⟨_,(hb ⟨some a⟩ cdv A outer s H E hr).nox,?_⟩;have r:=@qhx _ ⟨some a⟩ K F H N v a d bs kvs (ha ▸ hpl) (fun p h=>m6 h) sT rd o;unfold q6n at hop
  split at hop
  ·rename_i ρ' hu
   refine⟨F,_,F,_,.nx, ρ',r,hu,fun σ' F' H' s' r'=>?_⟩;obtain⟨bs',g',o'⟩:=@qna _ ⟨some a⟩ _ _ _ _ _ _ _ _ _ rfl r' hop;exact q F' H' bs' g' o'
  ·cases hop
section
variable{K:Frag}{F0 H0 F H F' H':Hp}{σ : St}{ρ : Rho}
theorem RS.callOD(r:RS K F0 H0 F H σ ρ){i:Nat}{a:Addr}{bs bs':List Addr}{kvs kvs':List (Int×List D)}(h1 : ρ[i]? = some (some (.od kvs)))(h2 : σ[i]? = some (some (.ref a)))(o:ODt K F H H0 a bs kvs)
  (dis:∀(j:Nat) (es:List D) (b:Addr), ρ[j]? = some (some (.ow es))->b∈bs -> σ[j]? ≠ some (some (.ref b))) (g:Grow F (less H a bs) F' H') (o0:OD0 K F' H' (less H a bs) a bs' kvs'):RS K F0 H0 F' H' σ (ρ.set i (some (.od kvs'))):=by
 have o':=o0.re o.pn;have fy:∀b,b=a\/b∈bs->F b=none/\H0 b=none:=fun b z=>by
  rcases z with rfl|z
  ·exact⟨o.f,o.z⟩
  ·obtain⟨xs,_,z1,z2⟩:=o.mem z
   exact⟨z1,z2⟩
 have kp:∀b u,H0 b=some u->less H a bs b=H b:=fun b u e=>q2w fun z=>by rw [(fy b z).2] at e;cases e
 have ln:∀b,less H a bs b=none->H0 b=none:=fun b e=>by
  by_cases z:b=a\/b∈bs
  ·exact(fy b z).2
  ·rw [q2w z] at e;exact r.g.hh.free e
 have back:∀(l:Nat) (us:List D),(ρ.set i (some (.od kvs')))[l]? = some (some (.ow us))->l≠i /\ ρ[l]? = some (some (.ow us)):=fun l us z=>by
  by_cases q:l=i
  ·subst q
   obtain⟨z',_⟩:=qi z;cases z'
  ·rw [gc (mi q)] at z;exact⟨q,z⟩
 have only:∀(l:Nat) (us),(ρ.set i (some (.od kvs')))[l]? = some (some (.od us))->l=i/\us=kvs':=fun l us z=>by
  by_cases q:l=i
  ·subst q
   obtain⟨z',_⟩:=qi z;cases z';exact⟨rfl,rfl⟩
  ·rw [gc (mi q)] at z
   exact absurd (r.o1 l i us kvs z h1) q
 have owl:∀(j:Nat) (es:List D) (b:Addr) (xs:List V), ρ[j]? = some (some (.ow es)) -> σ[j]? = some (some (.ref b))->H b=some (.lst xs)->less H a bs b=some (.lst xs):=fun j es b xs e1 e2 e3=>by
  rw [q2w,e3]
  rintro(z|z)
  ·subst z;have:=o.h;rw [e3] at this;cases this
  ·exact dis j es b e1 z e2
 exact {
  t0:=r.t0
  g:=⟨r.g.ff.trans g.ff,⟨fun b u e=>g.hh.lst b u (by rw [kp b _ e];exact r.g.hh.lst b u e),fun b u e=>g.hh.ext b u (by rw [kp b _ e];exact r.g.hh.ext b u e),fun {b} e=>ln b (g.hh.free e),fun t=>g.hh.tb ((r.g.hh.tb t).less o),fun b u e=>g.hh.dk b u (by rw [kp b _ e];exact r.g.hh.dk b u e)⟩,g.fh,fun b hb=>by
   rcases g.nw b hb with z|z
   ·exact r.g.nw b z
   ·exact .inr (ln b z)⟩
  len:=by rw [t5];exact r.len
  fz:=fun j e q1=>by
   by_cases q:j=i
   ·subst q
    obtain⟨z,l⟩:=qi q1;cases z
   ·rw [gc (mi q)] at q1
    obtain⟨v,z1,z2⟩:=r.fz j e q1;exact⟨v,z1,z2.mono g.ff⟩
  ow:=fun j es q1=>by
   obtain⟨_,q1⟩:=back j es q1;obtain⟨b,zs,f1,f2,f3,f4,f5⟩:=r.ow j es q1;have hl:=owl j es b zs q1 f1 f2;exact⟨b,zs,f1,g.hh.lst _ _ hl,q7b g f3 hl,f4,f5.mono g.ff⟩
  dj:=fun j k ds' es' b hjk q1 q2 q3=>r.dj j k ds' es' b hjk (back _ _ q1).2 (back _ _ q2).2 q3
  od:=fun j us q1=>by
   obtain⟨rfl,rfl⟩:=only j us q1;refine⟨a,bs',h2,⟨o'.h,o'.f,o.z,o'.len,o'.nd,o.pn,fun j b k ds e1 e2=>?_⟩,fun k es b p1 p2 p3=>?_⟩
   ·obtain⟨xs,z1,z2,z3,z4⟩:=o'.b j b k ds e1 e2
    exact⟨xs,z1,z2,ln b z3,z4⟩
   ·obtain⟨_,p1⟩:=back k es p1
    obtain⟨b',zs,f1,f2,_⟩:=r.ow k es p1;rw [p3] at f1;cases f1;obtain⟨_,_,_,z⟩:=o'.mem p2;rw [owl k es b zs p1 p3 f2] at z;cases z
  o1:=fun j k k1 k2 p1 p2=>by rw [(only j k1 p1).1,(only k k2 p2).1]}
end
def q7k(i:Nat)(f:FE)(op:D->List (Int×List D)->Option (List (Int×List D))): FS:=fun ρ =>(q5d i ρ).bind fun kvs=>(f ρ).bind fun d=>(op d kvs).map fun kvs'=>(.nx, ρ.set i (some (.od kvs')))
structure CalOD(P:Program)(w:World)(K:Frag)(mg:Str->Option Value)(base:Heap)(x:Str)(k:Nat)(ps:List Str)(op:D->List (Int×List D)->Option (List (Int×List D)))(fn:Addr)(fd:FuncData): Prop where
 ok:FnOk P w K mg base CX0 k fn fd ps (qdx K op)
 mg:mg x=some (.ref fn)
 kp:PySem.W.keepIn K (.ref fn)=true
section
variable{X:Cx}{pos:Pos}
theorem q8a{i k k':Nat}{g x:Str}{fn:Addr}{fd:FuncData}{ps:List Str}{op:D->List (Int×List D)->Option (List (Int×List D))}{e:Expr}{f:FE}{p px cpos:Pos}(C:CalOD X.prog X.w X.K X.mg X.base g k ps op fn fd)(b:Binds X.K fd ps [])(hr:Room k' X.A)(hk':k<=k')(hg:Gl X g)
  (he:PE X e (tD X.K f)) (hv:PE X (.Name x px) (q5a i)) (hdb:(g==("__debug__" : Str))=false:=by decide)
  (s1:starEach [e,.Name x px] X.env=(false,eval e X.env) :: starEach [.Name x px] X.env:=by rfl) (hpl:(backTo cpos (starEach [.Name x px] X.env)).any (·.1)=false:=by rfl)
  (hs:swapsWith (.Call (.Name g p) [e,.Name x px] [] cpos) none pos.line X.env=pure false:=by rfl) :
  PS X (.Expr (.Call (.Name g p) [e,.Name x px] [] cpos) pos) (tDS X.K (q7k i f op)):=
 yn (q4g (qbv C.ok (hr.mono hk') hg C.mg C.kp b .nil qdc (xt he (xt hv wd (by rfl)) s1) hdb s1 hpl) hs) fun D σ H ⟨F0,H0,F, ρ,fl, ρ',r,hf,q⟩=>by
  obtain⟨kvs,h1,hf⟩:=g6.mp hf;obtain⟨d,h2,hf⟩:=g6.mp hf;obtain⟨kvs',h3,h4⟩:=md.mp hf;cases h4;have h1:=q3s h1;obtain⟨a,bs,e1,o,dis⟩:=r.od i kvs h1;refine⟨F0,H0,F, ρ,d,r,h2,fun v F1 H1 g1 r1=>⟨.ref a,e1,?_⟩⟩;have o1:=o.grow g1;refine⟨F1,a,bs,kvs,kvs',d,v,rfl,r.sameT g1,r1,(o1.reH fun b z=>qhw z).re nofun,h3,fun F2 H2 bs2 g2 o2=>?_⟩;exact q σ F2 H2 (g1.ff.trans g2.ff) ((r.grow g1).callOD h1 e1 o1 dis g2 o2)
end
def q4u:D->List D->Option D
 | .dct ks vs,[.int k,d0]=>(q3t ks).bind fun ns=>if k∈ns then vs[ns.idxOf k]? else some d0
 | _,_=>none
def q6o(f:FE)(fa:FA): FE:=fun ρ =>(f ρ).bind fun d=>(fa ρ).bind fun xs=>q4u d xs
section
variable{X:Cx}
theorem qke:MtR X "dict.get" (fun x xs H Q=>∃F d ds r,Same F H/\Rep X.K F d x/\RepL X.K F ds xs/\q4u d ds=some r/\∀v,Rep X.K F r v->Q v H):=by
 intro pins s σ H x vs v us Q I rx rv ⟨F,d,ds,r,fh,r1,r2,ho,q⟩;unfold q4u at ho
 split at ho
 ·rename_i ks ws k d0
  obtain⟨ns,hns,hg⟩:=g6.mp ho;clear ho;obtain rfl:=q7j hns;obtain⟨y1,w1,rfl,z1,r2⟩:=r2.cons_inv;obtain⟨y2,w2,rfl,z2,r2⟩:=r2.cons_inv;cases r2.nil_inv;cases rep_int.mp z1;obtain⟨a,xs,rfl,e1,e2,e3⟩:=rep_dct.mp r1;cases rx;obtain⟨u1,u2,rfl,q1,q2⟩:=rv.two;obtain⟨t,rfl⟩:=q1;obtain⟨z,hd,vvs,rel,dd⟩:=(show ObjOk X.prog X.w H s.heap a _ from I.hok a _ (fh _ _ e1))
  obtain⟨us,ru,rfl⟩:=q3r rel (by simpa using e2);refine call_meetsIn g4d dd.typeIs PySem.F.entry_dict_get (PySem.F.args_dict_get_3 _ _ _) (meets_dict_get_default (mixKind X.prog X.w) a (q1u _ _ k t) hd u2) ⟨_,dd.mapOf,?_⟩;have hl:ns.length=us.length:=by rw [<- ru.length, <- e2,gr]
  rw [q6j hl]
  split at hg
  ·rename_i hk
   rw [m4 hk];obtain⟨w,ew,rw'⟩:=e3.get hg;obtain⟨uu,eu,ruu⟩:=ru.get ew;rw [eu];exact⟨w,H,I.tok _,ruu,q w rw'⟩
  ·rename_i hk
   cases hg;rw [m9 hk];exact⟨y2,H,I.tok _,q2,q y2 z2⟩
 ·cases ho
theorem qkf{o e:Expr}{es:List Expr}{f:FE}{fa:FA}{apos cpos:Pos}(ho:PE X o (tD X.K f))(ha:PA X (e :: es) (tDA X.K fa))
  (hbase:attributeBase o "get" X.env (eval o X.env)=eval o X.env:=by rfl)
  (hfew:((backTo cpos (starEach (e :: es) X.env)).all (fun x=> !x.1)&&(backToKw cpos (keywordEach [] X.env)).all (fun x=>x.1.isSome)
   && decide ((e :: es).length+([]:List Keyword).length+(if([]:List Keyword).isEmpty then 0 else 1)<30))=true:=by rfl)
  (hline:(apos.endLine==cpos.line)=true:=by rfl) (hs:starEach (e :: es) X.env=(false,eval e X.env) :: starEach es X.env:=by rfl) (hplain:(backTo cpos (starEach es X.env)).any (·.1)=false:=by rfl) :
  PE X (.Call (.Attribute o "get" apos) (e :: es) [] cpos) (tD X.K (q6o f fa)):=
 zv (q5y g3w g4d PySem.F.type_dict_get qke ho ha hbase hfew hline hs hplain) fun σ H Q ⟨F0,H0,F, ρ,d,r,hf,q⟩=>by
  obtain⟨d1,h1,hf⟩:=g6.mp hf;obtain⟨ds,h2,h3⟩:=g6.mp hf;obtain⟨ks,vs,rfl⟩:∃ks vs,d1=.dct ks vs:=by cases d1 <;> first|exact⟨_,_,rfl⟩|(simp [q4u] at h3)
  refine⟨F0,H0,F, ρ,_,r,h1,fun v F1 H1 g1 r1=>?_⟩;obtain⟨a,xs,rfl,e1,e2,e3⟩:=rep_dct.mp r1;refine⟨.inr (.inr (.inl ⟨rfl,.inl ⟨_,g1.fh _ _ e1⟩⟩)),F0,H0,F1, ρ,ds,r.grow g1,h2,fun vs' F2 H2 g2 r2=>?_⟩;exact⟨F2,.dct ks vs,ds,d,g2.fh,r1.mono g2.ff,r2,h3,fun v rv=>q v F2 H2 (g1.trans g2) rv⟩
end
end DL
namespace My
open PySem PySem.Spec PyProof.Rows L2 DL
local macro_rules | `(tactic| walk_at "A")=> `(tactic| ((refine qjh (hs:=?hs) ?a ?_);(case hs=>exact qbz rfl)))
local macro_rules | `(tactic| walk_at "L")=> `(tactic| first|exact .inl rfl|exact .inr rfl|assumption)
def top(i:Nat): Stmt:=PySem.Challenge.pw_oftentogether_k14_by_branches.main.body.getD i (.Pass ⟨0,0,0,0⟩)
def qpg(i j:Nat): Stmt:=match top i with | .ClassDef _ _ _ body _ _ _ _ _ _ _=>body.getD j (.Pass ⟨0,0,0,0⟩)|x=>x
section
variable[Lam]{P:Program}{w:World}{K:Frag}{mg:Str->Option Value}{base:Heap}
abbrev y6:Stmt:=top 21
noncomputable def q1y:List Str:=["_law_script","_law_k","_law_cell_here"]
theorem yu:(q1y).Nodup:=by decide +kernel
theorem qa4:FnScope q1y ["_law_script","_law_k"] (qd y6):=⟨rfl,rfl,rfl,yu,rfl,by decide +kernel,by decide +kernel⟩
noncomputable def y8:FS:=(z6 (j7 2 (eOp zo (eOp j0 (eC (.int 7)) (eV 1)) (eC (.int 5)))) (z6 (sIf (jr oGt (qk x9 (qa (eV 0) qf)) (eC (.int 0))) (j7 2 (eOp zo (eOp zo (eOp oMod (eOp oIx (eV 0) (eOp oMod (eV 1) (qk x9 (qa (eV 0) qf)))) (eC (.int 2147483587))) (eOp j0 (eC (.int 11)) (eOp oDiv (eV 1) (qk x9 (qa (eV 0) qf))))) (eC (.int 1)))) kq) (z6 (j7 2 (eOp oMod (eOp zo (eOp zo (eOp j0 (eV 2) (eOp zo (eC (.int 48271)) (eOp j0 (eOp j0 (eC (.int 2)) (eV 1)) (eV 1)))) (eOp j0 (eV 1) (eC (.int 7919)))) (eC (.int 3))) (eC (.int 2147483629)))) (z6 (j7 2 (eOp oMod (eOp j0 (eV 2) (eV 2)) (eC (.int 2147483647)))) (zi (eOp oMod (eOp j0 (eV 2) (eOp zo (eC (.int 69621)) (eV 1))) (eC (.int 2147483563))))))))
noncomputable def zr:List D->Option D:=ze 3 y8
theorem q3w{fa:Addr}{cdv:Value}{A:Around}{outer:List Env}{s:Shared}{H:Hp}{E:XK}(n_len:mg "len" = none)(hr:Room 0 (A.deeper (envOfC "_law_mixed" (qd y6) s.heap.objs.size fa cdv))):
  PSs (zq CX0 P w K mg base q1y "_law_mixed" (qd y6) fa cdv A outer s H E).nox (qr y6) (tDS K y8):=by
 unfold y8;refine(qm ?_ ?_);refine(zw (i:=2) ?_ ?_ ?_ ?_ ?_ ?_);exact yu;exact rfl;exact(Or.inl rfl);refine(qo j6 ?_ qg);refine(qo vi qg ?_);exact(qc (pv 1));exact rfl;walk_at "L";refine(qm ?_ ?_);refine(yi ?_ (qp ?_) xv);refine(x8 qil ?_ qg);refine(zk (xh) rfl n_len DL.zx ?_);walk_at "A";exact(qc (pv 0));exact qe;refine(zw (i:=2) ?_ ?_ ?_ ?_ ?_ ?_);exact yu;exact rfl;exact(Or.inl rfl);refine(qo j6 ?_ qg);refine(qo j6 ?_ ?_);refine(qo j9 ?_ qg);refine(zt ?_ ?_);exact(qc (pv 0));refine(qo j9 ?_ ?_);exact(qc (pv 1));refine(zk (xh) rfl n_len DL.zx ?_);walk_at "A";exact(qc (pv 0));exact qe;refine(qo vi qg ?_);refine(qo q27 ?_ ?_);exact(qc (pv 1));refine(zk (xh) rfl n_len DL.zx ?_);walk_at "A";exact(qc (pv 0));exact qe;exact rfl;walk_at "L";refine(qm ?_ ?_);refine(zw (i:=2) ?_ ?_ ?_ ?_ ?_ ?_);exact yu;exact rfl;exact(Or.inl rfl);refine(qo j9 ?_ qg);refine(qo j6 ?_ qg);refine(qo j6 ?_ ?_);refine(qo vi ?_ ?_);exact(qc (pv 2));refine(qo j6 qg ?_);refine(qo vi ?_ ?_);refine(qo vi qg ?_);exact(qc (pv 1));exact(qc (pv 1));refine(qo vi ?_ qg);exact(qc (pv 1));exact rfl;walk_at "L";refine(qm ?_ ?_);refine(zw (i:=2) ?_ ?_ ?_ ?_ ?_ ?_);exact yu;exact rfl;exact(Or.inl rfl);refine(qo j9 ?_ qg);refine(qo vi ?_ ?_);exact(qc (pv 2));exact(qc (pv 2));exact rfl;walk_at "L";refine(qp ?_);refine(zc ?_);refine(qo j9 ?_ qg);refine(qo vi ?_ ?_);exact(qc (pv 2));refine(qo j6 qg ?_);exact(qc (pv 1))
theorem qa5{fa:Addr}{dV:Value}{fd:FuncData}(F:Fun2 K "_law_mixed" "_law_mixed" y6 dV fa fd)(n_len:mg "len" = none): FnOk P w K mg base CX0 1 fa fd ["_law_script","_law_k"] (spD K 2 zr):=
 F.okn (k:=0) (n:=3) (ar:=2) (k1:=1) (u:=y8) qa4 rfl rfl rfl fun cdv A outer s H E hr=>(by first|(with_reducible exact q3w n_len hr)|exact q3w n_len hr)
abbrev yy:Stmt:=top 22
noncomputable def q2x:List Str:=["_law_script","_law_k"]
theorem qb9:(q2x).Nodup:=by decide +kernel
theorem qba:FnScope q2x ["_law_script","_law_k"] (qd yy):=⟨rfl,rfl,rfl,qb9,rfl,by decide +kernel,by decide +kernel⟩
noncomputable def yz:FS:=(z6 (sIf (jr oLt' (eV 1) (qk x9 (qa (eV 0) qf))) (zi (eOp oIx (eV 0) (eV 1))) kq) (zi (eC (.int 0))))
noncomputable def jb:List D->Option D:=ze 2 yz
theorem q50{fa:Addr}{cdv:Value}{A:Around}{outer:List Env}{s:Shared}{H:Hp}{E:XK}(n_len:mg "len" = none)(hr:Room 0 (A.deeper (envOfC "_law_cell" (qd yy) s.heap.objs.size fa cdv))):
  PSs (zq CX0 P w K mg base q2x "_law_cell" (qd yy) fa cdv A outer s H E).nox (qr yy) (tDS K yz):=by
 unfold yz;refine(qm ?_ ?_);refine(yi ?_ (qp ?_) xv);refine(x8 q9j ?_ ?_);exact(qc (pv 1));refine(zk (xh) rfl n_len DL.zx ?_);walk_at "A";exact(qc (pv 0));exact qe;refine(zc ?_);refine(zt ?_ ?_);exact(qc (pv 0));exact(qc (pv 1));refine(qp ?_);exact(zc qg)
theorem qbb{fa:Addr}{dV:Value}{fd:FuncData}(F:Fun2 K "_law_cell" "_law_cell" yy dV fa fd)(n_len:mg "len" = none): FnOk P w K mg base CX0 1 fa fd ["_law_script","_law_k"] (spD K 2 jb):=
 F.okn (k:=0) (n:=2) (ar:=2) (k1:=1) (u:=yz) qba rfl rfl rfl fun cdv A outer s H E hr=>(by first|(with_reducible exact q50 n_len hr)|exact q50 n_len hr)
abbrev xb:Stmt:=top 23
noncomputable def q0w:List Str:=["_law_mark"]
theorem q7l:(q0w).Nodup:=by decide +kernel
theorem q7m:FnScope q0w ["_law_mark"] (qd xb):=⟨rfl,rfl,rfl,q7l,rfl,by decide +kernel,by decide +kernel⟩
theorem q5f:(["_law_ware","_law_mark"]:List Str).Nodup:=by decide +kernel
noncomputable def vq:FS:=(zi (qk q0m (qa (eL (zm (iR1 (qa (eC (.int 12)) qf)) [none,some 0] (bN 0) (jr oEq (eOp oBand (eOp oShr (eV 1) (eV 0)) (eC (.int 1))) (eC (.int 1))) (eV 0))) qf)))
noncomputable def z7:List D->Option D:=ze 1 vq
theorem q2c{fa:Addr}{cdv:Value}{A:Around}{outer:List Env}{s:Shared}{H:Hp}{E:XK}(n_tuple:mg "tuple" = none)(n_range:mg "range" = none)(hr:Room 0 (A.deeper (envOfC "_law_of_mark" (qd xb) s.heap.objs.size fa cdv))):
  PSs (zq CX0 P w K mg base q0w "_law_of_mark" (qd xb) fa cdv A outer s H E).nox (qr xb) (tDS K vq):=by
 unfold vq;refine(qp ?_);refine(zc ?_);refine(q1n (q2p) rfl n_tuple DL.boot_tuple ?_);walk_at "A";refine(xo ?_);refine(vz (N':=["_law_ware","_law_mark"]) (cap:=[none,some 0]) rfl (jo rfl rfl) (jt rfl) ?_ (fun _ _ _ _ _=>(z9 q5f rfl (Or.inl rfl) (.inr rfl))) (fun _ _ _ _ _=>(q9b ?_)) (fun _ _ _ _ _=>?_));refine(q1o rfl n_range ?_);walk_at "A";exact qg;exact qe;refine(x8 (q6b hr.units) ?_ qg);refine(qo qc9 ?_ qg);refine(qo qme ?_ ?_);exact(qc (pv 1));exact(qc (pv 0));exact(qc (pv 0));exact qe
theorem q7n{fa:Addr}{dV:Value}{fd:FuncData}(F:Fun2 K "_law_of_mark" "_law_of_mark" xb dV fa fd)(n_tuple:mg "tuple" = none)(n_range:mg "range" = none): FnOk P w K mg base CX0 1 fa fd ["_law_mark"] (spD K 1 z7):=
 F.okn (k:=0) (n:=1) (ar:=1) (k1:=1) (u:=vq) q7m rfl rfl rfl fun cdv A outer s H E hr=>(by first|(with_reducible exact q2c n_tuple n_range hr)|exact q2c n_tuple n_range hr)
abbrev wa:Stmt:=top 24
noncomputable def q3x:List Str:=["_law_number","_law_wares","_law_great"]
theorem qdy:(q3x).Nodup:=by decide +kernel
theorem qdz:FnScope q3x ["_law_number","_law_wares","_law_great"] (qd wa):=⟨rfl,rfl,rfl,qdy,rfl,by decide +kernel,by decide +kernel⟩
noncomputable def q0o:FS:=(zi (za (qa (eOp zo (eC (.int 1)) (eOp oMod (eOp oDiv (eV 0) (eC (.int 4096))) (eV 2))) (qa (qk (qt 1 [] z7) (qa (eOp oMod (eV 0) (eOp oShl (eC (.int 1)) (eV 1))) qf)) qf))))
noncomputable def wb:List D->Option D:=ze 3 q0o
theorem q6p{fa:Addr}{cdv:Value}{A:Around}{outer:List Env}{s:Shared}{H:Hp}{E:XK}{a__law_of_mark:Addr}{fd__law_of_mark:FuncData}(c_9:Cal P w K mg base "_law_of_mark" 1 ["_law_mark"] 1 z7 a__law_of_mark fd__law_of_mark)(b_9:Binds K fd__law_of_mark ["_law_mark"] [])(hr:Room 1 (A.deeper (envOfC "_law_run" (qd wa) s.heap.objs.size fa cdv))):
  PSs (zq CX0 P w K mg base q3x "_law_run" (qd wa) fa cdv A outer s H E).nox (qr wa) (tDS K q0o):=by
 unfold q0o;refine(qp ?_);refine(zc ?_);refine(qz ?_);walk_at "A";refine(qo j6 qg ?_);refine(qo j9 ?_ ?_);refine(qo q27 ?_ qg);exact(qc (pv 0));exact(qc (pv 2));walk_at "A";refine(z5 c_9 b_9 hr (by decide) rfl ?_);walk_at "A";refine(qo j9 ?_ ?_);exact(qc (pv 0));refine(qo q63 qg ?_);exact(qc (pv 1));exact qe;exact qe
theorem qe0{fa:Addr}{dV:Value}{fd:FuncData}(F:Fun2 K "_law_run" "_law_run" wa dV fa fd){a__law_of_mark:Addr}{fd__law_of_mark:FuncData}(c_9:Cal P w K mg base "_law_of_mark" 1 ["_law_mark"] 1 z7 a__law_of_mark fd__law_of_mark)(b_9:Binds K fd__law_of_mark ["_law_mark"] []): FnOk P w K mg base CX0 2 fa fd ["_law_number","_law_wares","_law_great"] (spD K 3 wb):=
 F.okn (k:=1) (n:=3) (ar:=3) (k1:=2) (u:=q0o) qdz rfl rfl rfl fun cdv A outer s H E hr=>(by first|(with_reducible exact q6p c_9 b_9 hr)|exact q6p c_9 b_9 hr)
abbrev k5:Stmt:=top 25
noncomputable def q2y:List Str:=["_law_script","_law_wares","_law_most_runs","_law_great","_law_runs","_law_cell_here","_law_base","_law_k","_law_number"]
theorem jv:(q2y).Nodup:=by decide +kernel
theorem qbc:FnScope q2y ["_law_script","_law_wares","_law_most_runs"] (qd k5):=⟨rfl,rfl,rfl,jv,rfl,by decide +kernel,by decide +kernel⟩
noncomputable def vt:FS:=(q2j 4 (qk (qt 3 [] wb) (qa (eV 5) (qa (eV 1) (qa (eV 3) qf)))))
noncomputable def xc:FS:=(z6 (j7 8 (qk (qt 2 [] zr) (qa (eV 0) (qa (eOp zo (eC (.int 10)) (eV 7)) qf)))) (z6 (sIf (jr oEq (eOp oMod (eV 8) (eC (.int 3))) (eC (.int 0))) (j7 8 (eOp zo (eOp j0 (eOp oDiv (eV 8) (eC (.int 4096))) (eC (.int 4096))) (eOp oMod (eOp oBor (eV 8) (eV 6)) (eC (.int 4096))))) kq) (q2j 4 (qk (qt 3 [] wb) (qa (eV 8) (qa (eV 1) (qa (eV 3) qf)))))))
noncomputable def k6:FS:=(z6 (j7 3 (eOp oIx (eL (yo (qa (eC (.int 1)) (qa (eC (.int 3)) (qa (eC (.int 9)) (qa (eOp oPow (eC (.int 10)) (eC (.int 12))) qf)))))) (eOp oMod (qk (qt 2 [] zr) (qa (eV 0) (qa (eC (.int 0)) qf))) (eC (.int 4))))) (z6 (q18 4 (yo qf)) (z6 (sIf (jr oEq (eOp oMod (qk (qt 2 [] jb) (qa (eV 0) (qa (eC (.int 0)) qf))) (eC (.int 2))) (eC (.int 0))) (q0c (vg (eSl (eV 0) (oAt (eC (.int 2))) (oAt (eOp zo (eC (.int 2)) (eV 2))))) (bN 5) vt) (z6 (j7 6 (eOp oMod (qk (qt 2 [] zr) (qa (eV 0) (qa (eC (.int 1)) qf))) (eOp oShl (eC (.int 1)) (eV 1)))) (q0c (iR1 (qa (eOp oMod (qk (qt 2 [] zr) (qa (eV 0) (qa (eC (.int 2)) qf))) (eOp zo (eV 2) (eC (.int 1)))) qf)) (bN 7) xc))) (q2k 4 (zi (za (qa (eV 1) (qa (qk q0m (qa (eV 4) qf)) qf))))))))
noncomputable def wt:List D->Option D:=ze 9 k6
theorem q51{fa:Addr}{cdv:Value}{A:Around}{outer:List Env}{s:Shared}{H:Hp}{E:XK}{a__law_mixed:Addr}{fd__law_mixed:FuncData}(c_8:Cal P w K mg base "_law_mixed" 1 ["_law_script","_law_k"] 2 zr a__law_mixed fd__law_mixed)(b_8:Binds K fd__law_mixed ["_law_script","_law_k"] []){a__law_cell:Addr}{fd__law_cell:FuncData}(c_3:Cal P w K mg base "_law_cell" 1 ["_law_script","_law_k"] 2 jb a__law_cell fd__law_cell)(b_3:Binds K fd__law_cell ["_law_script","_law_k"] []){a__law_run:Addr}{fd__law_run:FuncData}(c_12:Cal P w K mg base "_law_run" 2 ["_law_number","_law_wares","_law_great"] 3 wb a__law_run fd__law_run)(b_12:Binds K fd__law_run ["_law_number","_law_wares","_law_great"] [])(n_range:mg "range" = none)(n_tuple:mg "tuple" = none)(hr:Room 2 (A.deeper (envOfC "_law_pile" (qd k5) s.heap.objs.size fa cdv))):
  PSs (zq CX0 P w K mg base q2y "_law_pile" (qd k5) fa cdv A outer s H E).nox (qr k5) (tDS K k6):=by
 unfold k6 xc vt;refine(qm ?_ ?_);refine(zw (i:=3) ?_ ?_ ?_ ?_ ?_ ?_);exact jv;exact rfl;exact(Or.inl rfl);refine(zt ?_ ?_);refine(xo ?_);refine(yp ?_);walk_at "A";exact qg;walk_at "A";exact qg;walk_at "A";exact qg;walk_at "A";exact(qo qf0 qg qg);exact qe;refine(qo j9 ?_ qg);refine(z5 c_8 b_8 hr (by decide) rfl ?_);walk_at "A";exact(qc (pv 0));walk_at "A";exact qg;exact qe;exact rfl;walk_at "L";refine(qm ?_ ?_);exact(q99 (i:=4) jv rfl (Or.inl rfl) (yp qe));refine(qm ?_ ?_);refine(yi ?_ (qp ?_) (qm ?_ ?_));refine(x8 (q6b hr.units) ?_ qg);refine(qo j9 ?_ qg);refine(z5 c_3 b_3 hr (by decide) rfl ?_);walk_at "A";exact(qc (pv 0));walk_at "A";exact qg;exact qe;refine(wj g01 rfl ?_ (z9 jv rfl (Or.inl rfl) (.inl rfl)) (qp ?_));refine(xg ?_);refine(qha ?_ (q9d qg) (q9d ?_));exact(qc (pv 0));refine(qo j6 qg ?_);exact(qc (pv 2));refine(q9a (pv 4) ?_);refine(z5 c_12 b_12 hr (by decide) rfl ?_);walk_at "A";exact(qc (pv 5));walk_at "A";exact(qc (pv 1));walk_at "A";exact(qc (pv 3));exact qe;refine(zw (i:=6) ?_ ?_ ?_ ?_ ?_ ?_);exact jv;exact rfl;exact(Or.inl rfl);refine(qo j9 ?_ ?_);refine(z5 c_8 b_8 hr (by decide) rfl ?_);walk_at "A";exact(qc (pv 0));walk_at "A";exact qg;exact qe;refine(qo q63 qg ?_);exact(qc (pv 1));exact rfl;walk_at "L";refine(qp ?_);refine(wj g01 rfl ?_ (z9 jv rfl (Or.inl rfl) (.inl rfl)) (qm ?_ ?_));refine(q1o rfl n_range ?_);walk_at "A";refine(qo j9 ?_ ?_);refine(z5 c_8 b_8 hr (by decide) rfl ?_);walk_at "A";exact(qc (pv 0));walk_at "A";exact qg;exact qe;refine(qo j6 ?_ qg);exact(qc (pv 2));exact qe;refine(zw (i:=8) ?_ ?_ ?_ ?_ ?_ ?_);exact jv;exact rfl;exact(Or.inl rfl);refine(z5 c_8 b_8 hr (by decide) rfl ?_);walk_at "A";exact(qc (pv 0));walk_at "A";refine(qo j6 qg ?_);exact(qc (pv 7));exact qe;exact rfl;walk_at "L";refine(qm ?_ ?_);refine(yi ?_ (qp ?_) xv);refine(x8 (q6b hr.units) ?_ qg);refine(qo j9 ?_ qg);exact(qc (pv 8));refine(zw (i:=8) ?_ ?_ ?_ ?_ ?_ ?_);exact jv;exact rfl;exact(Or.inl rfl);refine(qo j6 ?_ ?_);refine(qo vi ?_ qg);refine(qo q27 ?_ qg);exact(qc (pv 8));refine(qo j9 ?_ qg);refine(qo qmw ?_ ?_);exact(qc (pv 8));exact(qc (pv 6));exact rfl;walk_at "L";refine(qp ?_);refine(q9a (pv 4) ?_);refine(z5 c_12 b_12 hr (by decide) rfl ?_);walk_at "A";exact(qc (pv 8));walk_at "A";exact(qc (pv 1));walk_at "A";exact(qc (pv 3));exact qe;refine(q3h 4 (qp ?_));refine(zc ?_);refine(qz ?_);walk_at "A";exact(qc (pv 1));walk_at "A";refine(q1n (q2p) rfl n_tuple DL.boot_tuple ?_);walk_at "A";exact(qc (pv 4));exact qe;exact qe
theorem qbd{fa:Addr}{dV:Value}{fd:FuncData}(F:Fun2 K "_law_pile" "_law_pile" k5 dV fa fd){a__law_mixed:Addr}{fd__law_mixed:FuncData}(c_8:Cal P w K mg base "_law_mixed" 1 ["_law_script","_law_k"] 2 zr a__law_mixed fd__law_mixed)(b_8:Binds K fd__law_mixed ["_law_script","_law_k"] []){a__law_cell:Addr}{fd__law_cell:FuncData}(c_3:Cal P w K mg base "_law_cell" 1 ["_law_script","_law_k"] 2 jb a__law_cell fd__law_cell)(b_3:Binds K fd__law_cell ["_law_script","_law_k"] []){a__law_run:Addr}{fd__law_run:FuncData}(c_12:Cal P w K mg base "_law_run" 2 ["_law_number","_law_wares","_law_great"] 3 wb a__law_run fd__law_run)(b_12:Binds K fd__law_run ["_law_number","_law_wares","_law_great"] [])(n_range:mg "range" = none)(n_tuple:mg "tuple" = none): FnOk P w K mg base CX0 3 fa fd ["_law_script","_law_wares","_law_most_runs"] (spD K 3 wt):=
 F.okn (k:=2) (n:=9) (ar:=3) (k1:=3) (u:=k6) qbc rfl rfl rfl fun cdv A outer s H E hr=>(by first|(with_reducible exact q51 c_8 b_8 c_3 b_3 c_12 b_12 n_range n_tuple hr)|exact q51 c_8 b_8 c_3 b_3 c_12 b_12 n_range n_tuple hr)
abbrev y9:Stmt:=top 26
noncomputable def q1z:List Str:=["_law_pile_here"]
theorem qa6:(q1z).Nodup:=by decide +kernel
theorem qa7:FnScope q1z ["_law_pile_here"] (qd y9):=⟨rfl,rfl,rfl,qa6,rfl,by decide +kernel,by decide +kernel⟩
theorem q2d:(["_law_many","_law_basket"]:List Str).Nodup:=by decide +kernel
theorem q7o:(["_law_ware"]:List Str).Nodup:=by decide +kernel
noncomputable def kg:FS:=(zi (eL (zm (vg (eOp oIx (eV 0) (eC (.int 1)))) [none,none] (xx 2 (zg (bN 0) (zg (bN 1) xw))) zl (za (qa (eV 0) (qa (qk q2o (qa (eL (zm (vg (eV 1)) [none] (bN 0) zl (eOp oShl (eC (.int 1)) (eV 0)))) qf)) qf))))))
noncomputable def kh:List D->Option D:=ze 1 kg
theorem q3y{fa:Addr}{cdv:Value}{A:Around}{outer:List Env}{s:Shared}{H:Hp}{E:XK}(n_sum:mg "sum" = none)(hr:Room 0 (A.deeper (envOfC "_law_marks" (qd y9) s.heap.objs.size fa cdv))):
  PSs (zq CX0 P w K mg base q1z "_law_marks" (qd y9) fa cdv A outer s H E).nox (qr y9) (tDS K kg):=by
 unfold kg;refine(qp ?_);refine(zc ?_);refine(xo ?_);refine(vz (N':=["_law_many","_law_basket"]) (cap:=[none,none]) rfl (jo rfl rfl) (q3j (xp rfl (xp rfl q2n))) ?_ (fun _ _ _ _ _=>(q29 rfl (jw (z9 q2d rfl (Or.inl rfl) (.inr rfl)) (jw (z9 q2d rfl (Or.inl rfl) (.inr rfl)) q28)))) (fun _ _ _ _ _=>wk) (fun _ _ _ _ _=>?_));refine(xg ?_);refine(zt ?_ qg);exact(qc (pv 0));refine(qz ?_);walk_at "A";exact(qc (pv 0));walk_at "A";refine(zk (q69 rfl) rfl n_sum DL.boot_sum ?_);walk_at "A";refine(xo ?_);refine(vz (N':=["_law_ware"]) (cap:=[none]) rfl (jo rfl rfl) (jt rfl) ?_ (fun _ _ _ _ _=>(z9 q7o rfl (Or.inl rfl) (.inr rfl))) (fun _ _ _ _ _=>wk) (fun _ _ _ _ _=>?_));refine(xg ?_);exact(qc (pv 1));refine(qo q63 qg ?_);exact(qc (pv 0));exact qe;exact qe
theorem qa8{fa:Addr}{dV:Value}{fd:FuncData}(F:Fun2 K "_law_marks" "_law_marks" y9 dV fa fd)(n_sum:mg "sum" = none): FnOk P w K mg base CX0 1 fa fd ["_law_pile_here"] (spD K 1 kh):=
 F.okn (k:=0) (n:=1) (ar:=1) (k1:=1) (u:=kg) qa7 rfl rfl rfl fun cdv A outer s H E hr=>(by first|(with_reducible exact q3y n_sum hr)|exact q3y n_sum hr)
abbrev v5:Stmt:=top 27
noncomputable def q1e:List Str:=["_law_pile_here","_law_marks_here","_law_found","_law_mark"]
theorem kn:(q1e).Nodup:=by decide +kernel
theorem q8n:FnScope q1e ["_law_pile_here"] (qd v5):=⟨rfl,rfl,rfl,kn,rfl,by decide +kernel,by decide +kernel⟩
theorem q1p:(["_law_many","_law_own","_law_mark"]:List Str).Nodup:=by decide +kernel
noncomputable def yl:FS:=(q2j 2 (qk q2o (qa (eL (zm (vg (eV 1)) [none,none,some 3] (xx 2 (zg (bN 0) (zg (bN 1) xw))) (jr oEq (eOp oBand (eV 1) (eV 2)) (eV 2)) (eV 0))) qf)))
noncomputable def wu:FS:=(z6 (j7 1 (qk (qt 1 [] kh) (qa (eV 0) qf))) (z6 (q18 2 (yo qf)) (z6 (q0c (iR1 (qa (eOp oShl (eC (.int 1)) (eOp oIx (eV 0) (eC (.int 0)))) qf)) (bN 3) yl) (q2k 2 (zi (eV 2))))))
noncomputable def yw:List D->Option D:=ze 4 wu
theorem q39{fa:Addr}{cdv:Value}{A:Around}{outer:List Env}{s:Shared}{H:Hp}{E:XK}{a__law_marks:Addr}{fd__law_marks:FuncData}(c_7:Cal P w K mg base "_law_marks" 1 ["_law_pile_here"] 1 kh a__law_marks fd__law_marks)(b_7:Binds K fd__law_marks ["_law_pile_here"] [])(n_range:mg "range" = none)(n_sum:mg "sum" = none)(hr:Room 1 (A.deeper (envOfC "_law_counts" (qd v5) s.heap.objs.size fa cdv))):
  PSs (zq CX0 P w K mg base q1e "_law_counts" (qd v5) fa cdv A outer s H E).nox (qr v5) (tDS K wu):=by
 unfold wu yl;refine(qm ?_ ?_);refine(zw (i:=1) ?_ ?_ ?_ ?_ ?_ ?_);exact kn;exact rfl;exact(Or.inl rfl);refine(z5 c_7 b_7 hr (by decide) rfl ?_);walk_at "A";exact(qc (pv 0));exact qe;exact rfl;walk_at "L";refine(qm ?_ ?_);exact(q99 (i:=2) kn rfl (Or.inl rfl) (yp qe));refine(qm ?_ ?_);refine(wj g01 rfl ?_ (z9 kn rfl (Or.inr rfl) (.inl rfl)) (qp ?_));refine(q1o rfl n_range ?_);walk_at "A";refine(qo q63 qg ?_);refine(zt ?_ qg);exact(qc (pv 0));exact qe;refine(q9a (pv 2) ?_);refine(zk (q69 rfl) rfl n_sum DL.boot_sum ?_);walk_at "A";refine(xo ?_);refine(vz (N':=["_law_many","_law_own","_law_mark"]) (cap:=[none,none,some 3]) rfl (jo rfl rfl) (q3j (xp rfl (xp rfl q2n))) ?_ (fun _ _ _ _ _=>(q29 rfl (jw (z9 q1p rfl (Or.inl rfl) (.inr rfl)) (jw (z9 q1p rfl (Or.inl rfl) (.inr rfl)) q28)))) (fun _ _ _ _ _=>(q9b ?_)) (fun _ _ _ _ _=>?_));refine(xg ?_);exact(qc (pv 1));refine(x8 (q6b hr.units) ?_ ?_);refine(qo qc9 ?_ ?_);exact(qc (pv 1));exact(qc (pv 2));exact(qc (pv 2));exact(qc (pv 0));exact qe;refine(q3h 2 (qp ?_));refine(zc ?_);exact(qc (pv 2))
theorem q8o{fa:Addr}{dV:Value}{fd:FuncData}(F:Fun2 K "_law_counts" "_law_counts" v5 dV fa fd){a__law_marks:Addr}{fd__law_marks:FuncData}(c_7:Cal P w K mg base "_law_marks" 1 ["_law_pile_here"] 1 kh a__law_marks fd__law_marks)(b_7:Binds K fd__law_marks ["_law_pile_here"] [])(n_range:mg "range" = none)(n_sum:mg "sum" = none): FnOk P w K mg base CX0 2 fa fd ["_law_pile_here"] (spD K 1 yw):=
 F.okn (k:=1) (n:=4) (ar:=1) (k1:=2) (u:=wu) q8n rfl rfl rfl fun cdv A outer s H E hr=>(by first|(with_reducible exact q39 c_7 b_7 n_range n_sum hr)|exact q39 c_7 b_7 n_range n_sum hr)
abbrev ya:Stmt:=top 28
noncomputable def q20:List Str:=["_law_script","_law_counts_here","_law_number","_law_least_here"]
theorem q1f:(q20).Nodup:=by decide +kernel
theorem qa9:FnScope q20 ["_law_script","_law_counts_here"] (qd ya):=⟨rfl,rfl,rfl,q1f,rfl,by decide +kernel,by decide +kernel⟩
noncomputable def jj:FS:=(z6 (j7 2 (qk (qt 2 [] jb) (qa (eV 0) (qa (eC (.int 1)) qf)))) (z6 (sIf (jr oLt' (eOp oMod (eV 2) (eC (.int 5))) (eC (.int 2))) (zi (eOp zo (eC (.int 1)) (eOp oMod (eOp oDiv (eV 2) (eC (.int 5))) (eOp oIx (eL (yo (qa (eC (.int 10)) (qa (eOp oPow (eC (.int 10)) (eC (.int 15))) qf)))) (eOp oMod (eV 2) (eC (.int 5))))))) kq) (z6 (j7 3 (eOp zo (eOp oIx (eV 1) (eOp oMod (eOp oDiv (eV 2) (eC (.int 5))) (qk x9 (qa (eV 1) qf)))) (eOp oIx (eL (yo (qa (eC (.int 0)) (qa (eC (.int 1)) (qa (eUn q1b (eC (.int 1))) qf))))) (eOp oSub (eOp oMod (eV 2) (eC (.int 5))) (eC (.int 2)))))) (zi (qk oMax (qa (eC (.int 1)) (qa (eV 3) qf)))))))
noncomputable def j3:List D->Option D:=ze 4 jj
theorem q3z{fa:Addr}{cdv:Value}{A:Around}{outer:List Env}{s:Shared}{H:Hp}{E:XK}{a__law_cell:Addr}{fd__law_cell:FuncData}(c_3:Cal P w K mg base "_law_cell" 1 ["_law_script","_law_k"] 2 jb a__law_cell fd__law_cell)(b_3:Binds K fd__law_cell ["_law_script","_law_k"] [])(n_max:mg "max" = none)(n_len:mg "len" = none)(hr:Room 1 (A.deeper (envOfC "_law_least" (qd ya) s.heap.objs.size fa cdv))):
  PSs (zq CX0 P w K mg base q20 "_law_least" (qd ya) fa cdv A outer s H E).nox (qr ya) (tDS K jj):=by
 unfold jj;refine(qm ?_ ?_);refine(zw (i:=2) ?_ ?_ ?_ ?_ ?_ ?_);exact q1f;exact rfl;exact(Or.inl rfl);refine(z5 c_3 b_3 hr (by decide) rfl ?_);walk_at "A";exact(qc (pv 0));walk_at "A";exact qg;exact qe;exact rfl;walk_at "L";refine(qm ?_ ?_);refine(yi ?_ (qp ?_) xv);refine(x8 q9j ?_ qg);refine(qo j9 ?_ qg);exact(qc (pv 2));refine(zc ?_);refine(qo j6 qg ?_);refine(qo j9 ?_ ?_);refine(qo q27 ?_ qg);exact(qc (pv 2));refine(zt ?_ ?_);refine(xo ?_);refine(yp ?_);walk_at "A";exact qg;walk_at "A";exact(qo qf0 qg qg);exact qe;refine(qo j9 ?_ qg);exact(qc (pv 2));refine(qm ?_ ?_);refine(zw (i:=3) ?_ ?_ ?_ ?_ ?_ ?_);exact q1f;exact rfl;exact(Or.inl rfl);refine(qo j6 ?_ ?_);refine(zt ?_ ?_);exact(qc (pv 1));refine(qo j9 ?_ ?_);refine(qo q27 ?_ qg);exact(qc (pv 2));refine(zk (xh) rfl n_len DL.zx ?_);walk_at "A";exact(qc (pv 1));exact qe;refine(zt ?_ ?_);refine(xo ?_);refine(yp ?_);walk_at "A";exact qg;walk_at "A";exact qg;walk_at "A";exact(q9i qg);exact qe;refine(qo qmc ?_ qg);refine(qo j9 ?_ qg);exact(qc (pv 2));exact rfl;walk_at "L";refine(qp ?_);refine(zc ?_);refine(zk (qmp rfl) rfl n_max DL.boot_max ?_);walk_at "A";exact qg;walk_at "A";exact(qc (pv 3));exact qe
theorem qaa{fa:Addr}{dV:Value}{fd:FuncData}(F:Fun2 K "_law_least" "_law_least" ya dV fa fd){a__law_cell:Addr}{fd__law_cell:FuncData}(c_3:Cal P w K mg base "_law_cell" 1 ["_law_script","_law_k"] 2 jb a__law_cell fd__law_cell)(b_3:Binds K fd__law_cell ["_law_script","_law_k"] [])(n_max:mg "max" = none)(n_len:mg "len" = none): FnOk P w K mg base CX0 2 fa fd ["_law_script","_law_counts_here"] (spD K 2 j3):=
 F.okn (k:=1) (n:=4) (ar:=2) (k1:=2) (u:=jj) qa9 rfl rfl rfl fun cdv A outer s H E hr=>(by first|(with_reducible exact q3z c_3 b_3 n_max n_len hr)|exact q3z c_3 b_3 n_max n_len hr)
abbrev jz:Stmt:=top 29
noncomputable def q0d:List Str:=["_law_marks_here","_law_sets"]
theorem q1q:(q0d).Nodup:=by decide +kernel
theorem q6q:FnScope q0d ["_law_marks_here"] (qd jz):=⟨rfl,rfl,rfl,q1q,rfl,by decide +kernel,by decide +kernel⟩
theorem q4y:(["_law_mark"]:List Str).Nodup:=by decide +kernel
theorem kc:(["_law_size","_law_some","_law_mark"]:List Str).Nodup:=by decide +kernel
noncomputable def v7:FS:=(z6 (q18 1 (zm (vg (eV 0)) [none] (bN 0) zl (za (qa (qk x9 (qa (qk (qt 1 [] z7) (qa (eV 0) qf)) qf)) (qa (qk (qt 1 [] z7) (qa (eV 0) qf)) (qa (eV 0) qf)))))) (q2k 1 (zi (eL (zm (vg (eL (q4n q3p (qa (eV 1) qf)))) [none,none,none] (xx 3 (zg (bN 0) (zg (bN 1) (zg (bN 2) xw)))) zl (eV 2))))))
noncomputable def v8:List D->Option D:=ze 2 v7
theorem q1r{fa:Addr}{cdv:Value}{A:Around}{outer:List Env}{s:Shared}{H:Hp}{E:XK}{a__law_of_mark:Addr}{fd__law_of_mark:FuncData}(c_9:Cal P w K mg base "_law_of_mark" 1 ["_law_mark"] 1 z7 a__law_of_mark fd__law_of_mark)(b_9:Binds K fd__law_of_mark ["_law_mark"] [])(n_len:mg "len" = none)(n_sorted:mg "sorted" = none)(hr:Room 1 (A.deeper (envOfC "_law_in_order" (qd jz) s.heap.objs.size fa cdv))):
  PSs (zq CX0 P w K mg base q0d "_law_in_order" (qd jz) fa cdv A outer s H E).nox (qr jz) (tDS K v7):=by
 unfold v7;refine(qm ?_ ?_);refine(qc1 (i:=1) rfl q1q rfl rfl (N':=["_law_mark"]) (cap:=[none]) (jo rfl rfl) (jt rfl) ?_ (fun _ _ _ _ _=>(z9 q4y rfl (Or.inl rfl) (.inr rfl))) (fun _ _ _ _ _=>wk) (fun _ _ _ _ _=>?_));refine(xg ?_);exact(qc (pv 0));refine(qz ?_);walk_at "A";refine(zk (xh) rfl n_len DL.zx ?_);walk_at "A";refine(z5 c_9 b_9 hr (by decide) rfl ?_);walk_at "A";exact(qc (pv 0));exact qe;exact qe;walk_at "A";refine(z5 c_9 b_9 hr (by decide) rfl ?_);walk_at "A";exact(qc (pv 0));exact qe;walk_at "A";exact(qc (pv 0));exact qe;refine(q3h 1 (qp ?_));refine(zc ?_);refine(xo ?_);refine(vz (N':=["_law_size","_law_some","_law_mark"]) (cap:=[none,none,none]) rfl (jo rfl rfl) (q3j (xp rfl (xp rfl (xp rfl q2n)))) ?_ (fun _ _ _ _ _=>(q29 rfl (jw (z9 kc rfl (Or.inl rfl) (.inr rfl)) (jw (z9 kc rfl (Or.inl rfl) (.inr rfl)) (jw (z9 kc rfl (Or.inl rfl) (.inr rfl)) q28))))) (fun _ _ _ _ _=>wk) (fun _ _ _ _ _=>?_));refine(xg ?_);refine(xo ?_);refine(qh8 (qho hr.units) rfl n_sorted DL.boot_sorted ?_);walk_at "A";exact(qc (pv 1));exact qe;exact(qc (pv 2))
theorem q6r{fa:Addr}{dV:Value}{fd:FuncData}(F:Fun2 K "_law_in_order" "_law_in_order" jz dV fa fd){a__law_of_mark:Addr}{fd__law_of_mark:FuncData}(c_9:Cal P w K mg base "_law_of_mark" 1 ["_law_mark"] 1 z7 a__law_of_mark fd__law_of_mark)(b_9:Binds K fd__law_of_mark ["_law_mark"] [])(n_len:mg "len" = none)(n_sorted:mg "sorted" = none): FnOk P w K mg base CX0 2 fa fd ["_law_marks_here"] (spD K 1 v8):=
 F.okn (k:=1) (n:=2) (ar:=1) (k1:=2) (u:=v7) q6q rfl rfl rfl fun cdv A outer s H E hr=>(by first|(with_reducible exact q1r c_9 b_9 n_len n_sorted hr)|exact q1r c_9 b_9 n_len n_sorted hr)
abbrev yb:Stmt:=top 30
noncomputable def q21:List Str:=["_law_marks_here","_law_counts_here"]
theorem qab:(q21).Nodup:=by decide +kernel
theorem qac:FnScope q21 ["_law_marks_here","_law_counts_here"] (qd yb):=⟨rfl,rfl,rfl,qab,rfl,by decide +kernel,by decide +kernel⟩
theorem q7p:(["_law_mark","_law_counts_here"]:List Str).Nodup:=by decide +kernel
noncomputable def ki:FS:=(zi (eL (zm (vg (qk (qt 1 [] v8) (qa (eV 0) qf))) [none,some 1] (bN 0) zl (za (qa (qk (qt 1 [] z7) (qa (eV 0) qf)) (qa (eOp oIx (eV 1) (eV 0)) qf))))))
noncomputable def yc:List D->Option D:=ze 2 ki
theorem q40{fa:Addr}{cdv:Value}{A:Around}{outer:List Env}{s:Shared}{H:Hp}{E:XK}{a__law_of_mark:Addr}{fd__law_of_mark:FuncData}(c_9:Cal P w K mg base "_law_of_mark" 1 ["_law_mark"] 1 z7 a__law_of_mark fd__law_of_mark)(b_9:Binds K fd__law_of_mark ["_law_mark"] []){a__law_in_order:Addr}{fd__law_in_order:FuncData}(c_5:Cal P w K mg base "_law_in_order" 2 ["_law_marks_here"] 1 v8 a__law_in_order fd__law_in_order)(b_5:Binds K fd__law_in_order ["_law_marks_here"] [])(hr:Room 2 (A.deeper (envOfC "_law_pairs" (qd yb) s.heap.objs.size fa cdv))):
  PSs (zq CX0 P w K mg base q21 "_law_pairs" (qd yb) fa cdv A outer s H E).nox (qr yb) (tDS K ki):=by
 unfold ki;refine(qp ?_);refine(zc ?_);refine(xo ?_);refine(vz (N':=["_law_mark","_law_counts_here"]) (cap:=[none,some 1]) rfl (jo rfl rfl) (jt rfl) ?_ (fun _ _ _ _ _=>(z9 q7p rfl (Or.inl rfl) (.inr rfl))) (fun _ _ _ _ _=>wk) (fun _ _ _ _ _=>?_));refine(xg ?_);refine(z5 c_5 b_5 hr (by decide) rfl ?_);walk_at "A";exact(qc (pv 0));exact qe;refine(qz ?_);walk_at "A";refine(z5 c_9 b_9 hr (by decide) rfl ?_);walk_at "A";exact(qc (pv 0));exact qe;walk_at "A";refine(zt ?_ ?_);exact(qc (pv 1));exact(qc (pv 0));exact qe
theorem qad{fa:Addr}{dV:Value}{fd:FuncData}(F:Fun2 K "_law_pairs" "_law_pairs" yb dV fa fd){a__law_of_mark:Addr}{fd__law_of_mark:FuncData}(c_9:Cal P w K mg base "_law_of_mark" 1 ["_law_mark"] 1 z7 a__law_of_mark fd__law_of_mark)(b_9:Binds K fd__law_of_mark ["_law_mark"] []){a__law_in_order:Addr}{fd__law_in_order:FuncData}(c_5:Cal P w K mg base "_law_in_order" 2 ["_law_marks_here"] 1 v8 a__law_in_order fd__law_in_order)(b_5:Binds K fd__law_in_order ["_law_marks_here"] []): FnOk P w K mg base CX0 3 fa fd ["_law_marks_here","_law_counts_here"] (spD K 2 yc):=
 F.okn (k:=2) (n:=2) (ar:=2) (k1:=3) (u:=ki) qac rfl rfl rfl fun cdv A outer s H E hr=>(by first|(with_reducible exact q40 c_9 b_9 c_5 b_5 hr)|exact q40 c_9 b_9 c_5 b_5 hr)
abbrev ye:Stmt:=top 31
noncomputable def q22:List Str:=["_law_found","_law_due"]
theorem qae:(q22).Nodup:=by decide +kernel
theorem qaf:FnScope q22 ["_law_found","_law_due"] (qd ye):=⟨rfl,rfl,rfl,qae,rfl,by decide +kernel,by decide +kernel⟩
noncomputable def kj:FS:=(zi (qdi (q5c .int (eV 0)) (qdi (qh0 (q5c .bool (eV 0))) (eOp oEq (eV 0) (eV 1)))))
noncomputable def yf:List D->Option D:=ze 2 kj
theorem q41{fa:Addr}{cdv:Value}{A:Around}{outer:List Env}{s:Shared}{H:Hp}{E:XK}(n_isinstance:mg "isinstance" = none)(n_int:mg "int" = none)(n_bool:mg "bool" = none)(hr:Room 0 (A.deeper (envOfC "_law_whole" (qd ye) s.heap.objs.size fa cdv))):
  PSs (zq CX0 P w K mg base q22 "_law_whole" (qd ye) fa cdv A outer s H E).nox (qr ye) (tDS K kj):=by
 unfold kj;refine(qp ?_);refine(zc ?_);refine(qf1 ?_ (qf1 ?_ (qmj ?_)));refine(q3k .int rfl n_isinstance rfl n_int DL.boot_int ?_);exact(qc (pv 0));refine(qmk ?_);refine(q3k .bool rfl n_isinstance rfl n_bool DL.boot_bool ?_);exact(qc (pv 0));refine(qmg (q6b hr.units) ?_ ?_);exact(qc (pv 0));exact(qc (pv 1))
theorem qag{fa:Addr}{dV:Value}{fd:FuncData}(F:Fun2 K "_law_whole" "_law_whole" ye dV fa fd)(n_isinstance:mg "isinstance" = none)(n_int:mg "int" = none)(n_bool:mg "bool" = none): FnOk P w K mg base CX0 1 fa fd ["_law_found","_law_due"] (spD K 2 yf):=
 F.okn (k:=0) (n:=2) (ar:=2) (k1:=1) (u:=kj) qaf rfl rfl rfl fun cdv A outer s H E hr=>(by first|(with_reducible exact q41 n_isinstance n_int n_bool hr)|exact q41 n_isinstance n_int n_bool hr)
abbrev k7:Stmt:=top 32
noncomputable def q2z:List Str:=["_law_found","_law_due","_law_pair","_law_other","_law_ware","_law_own"]
theorem kl:(q2z).Nodup:=by decide +kernel
theorem qbe:FnScope q2z ["_law_found","_law_due"] (qd k7):=⟨rfl,rfl,rfl,kl,rfl,by decide +kernel,by decide +kernel⟩
noncomputable def vw:FS:=(sIf (q1w (bT (qk (qt 2 [] yf) (qa (eV 4) (qa (eV 5) qf))))) (zi (eC (.bl false))) kq)
noncomputable def vx:FS:=(z6 (sIf (bOr (q1w (bT (q5c .tuple (eV 2)))) (bOr (jr q5b (qk x9 (qa (eV 2) qf)) (eC (.int 2))) (q1w (bT (qk (qt 2 [] yf) (qa (eOp oIx (eV 2) (eC (.int 1))) (qa (eOp oIx (eV 3) (eC (.int 1))) qf))))))) (zi (eC (.bl false))) kq) (z6 (sIf (bOr (q1w (bT (q5c .tuple (eOp oIx (eV 2) (eC (.int 0)))))) (jr q5b (qk x9 (qa (eOp oIx (eV 2) (eC (.int 0))) qf)) (qk x9 (qa (eOp oIx (eV 3) (eC (.int 0))) qf)))) (zi (eC (.bl false))) kq) (q0c (q9h (qa (eOp oIx (eV 2) (eC (.int 0))) (qa (eOp oIx (eV 3) (eC (.int 0))) qf))) (xx 2 (zg (bN 4) (zg (bN 5) xw))) vw)))
noncomputable def wx:FS:=(z6 (sIf (bOr (q1w (bT (q5c .tuple (eV 0)))) (jr q5b (qk x9 (qa (eV 0) qf)) (qk x9 (qa (eV 1) qf)))) (zi (eC (.bl false))) kq) (z6 (q0c (q9h (qa (eV 0) (qa (eV 1) qf))) (xx 2 (zg (bN 2) (zg (bN 3) xw))) vx) (zi (eC (.bl true)))))
noncomputable def jc:List D->Option D:=ze 6 wx
theorem q52{fa:Addr}{cdv:Value}{A:Around}{outer:List Env}{s:Shared}{H:Hp}{E:XK}{a__law_whole:Addr}{fd__law_whole:FuncData}(c_14:Cal P w K mg base "_law_whole" 1 ["_law_found","_law_due"] 2 yf a__law_whole fd__law_whole)(b_14:Binds K fd__law_whole ["_law_found","_law_due"] [])(n_zip:mg "zip" = none)(n_isinstance:mg "isinstance" = none)(n_tuple:mg "tuple" = none)(n_len:mg "len" = none)(hr:Room 1 (A.deeper (envOfC "_law_same" (qd k7) s.heap.objs.size fa cdv))):
  PSs (zq CX0 P w K mg base q2z "_law_same" (qd k7) fa cdv A outer s H E).nox (qr k7) (tDS K wx):=by
 unfold wx vx vw;refine(qm ?_ ?_);refine(yi ?_ (qp ?_) xv);refine(PW.pt (q4l ?_ (q3e ?_)));refine(q0l ?_);refine(wg ?_);refine(q3k .tuple rfl n_isinstance rfl n_tuple DL.boot_tuple ?_);exact(qc (pv 0));refine(x8 q64 ?_ ?_);refine(zk (xh) rfl n_len DL.zx ?_);walk_at "A";exact(qc (pv 0));exact qe;refine(zk (xh) rfl n_len DL.zx ?_);walk_at "A";exact(qc (pv 1));exact qe;exact(zc q1m);refine(qm ?_ ?_);refine(wj g01 rfl ?_ (q29 rfl (jw (z9 kl rfl (Or.inl rfl) (.inl rfl)) (jw (z9 kl rfl (Or.inl rfl) (.inl rfl)) q28))) (qm ?_ ?_));refine(qfc rfl n_zip ?_);walk_at "A";exact(qc (pv 0));walk_at "A";exact(qc (pv 1));exact qe;refine(yi ?_ (qp ?_) xv);refine(PW.pt (q4l ?_ (q4l ?_ (q3e ?_))));refine(q0l ?_);refine(wg ?_);refine(q3k .tuple rfl n_isinstance rfl n_tuple DL.boot_tuple ?_);exact(qc (pv 2));refine(x8 q64 ?_ qg);refine(zk (xh) rfl n_len DL.zx ?_);walk_at "A";exact(qc (pv 2));exact qe;refine(q0l ?_);refine(wg ?_);refine(z5 c_14 b_14 hr (by decide) rfl ?_);walk_at "A";refine(zt ?_ qg);exact(qc (pv 2));walk_at "A";refine(zt ?_ qg);exact(qc (pv 3));exact qe;exact(zc q1m);refine(qm ?_ ?_);refine(yi ?_ (qp ?_) xv);refine(PW.pt (q4l ?_ (q3e ?_)));refine(q0l ?_);refine(wg ?_);refine(q3k .tuple rfl n_isinstance rfl n_tuple DL.boot_tuple ?_);refine(zt ?_ qg);exact(qc (pv 2));refine(x8 q64 ?_ ?_);refine(zk (xh) rfl n_len DL.zx ?_);walk_at "A";refine(zt ?_ qg);exact(qc (pv 2));exact qe;refine(zk (xh) rfl n_len DL.zx ?_);walk_at "A";refine(zt ?_ qg);exact(qc (pv 3));exact qe;exact(zc q1m);refine(qp ?_);refine(wj g01 rfl ?_ (q29 rfl (jw (z9 kl rfl (Or.inl rfl) (.inl rfl)) (jw (z9 kl rfl (Or.inl rfl) (.inl rfl)) q28))) (qp ?_));refine(qfc rfl n_zip ?_);walk_at "A";refine(zt ?_ qg);exact(qc (pv 2));walk_at "A";refine(zt ?_ qg);exact(qc (pv 3));exact qe;refine(yi ?_ (qp ?_) xv);refine(q0l ?_);refine(wg ?_);refine(z5 c_14 b_14 hr (by decide) rfl ?_);walk_at "A";exact(qc (pv 4));walk_at "A";exact(qc (pv 5));exact qe;exact(zc q1m);refine(qp ?_);exact(zc q1m)
theorem qbf{fa:Addr}{dV:Value}{fd:FuncData}(F:Fun2 K "_law_same" "_law_same" k7 dV fa fd){a__law_whole:Addr}{fd__law_whole:FuncData}(c_14:Cal P w K mg base "_law_whole" 1 ["_law_found","_law_due"] 2 yf a__law_whole fd__law_whole)(b_14:Binds K fd__law_whole ["_law_found","_law_due"] [])(n_zip:mg "zip" = none)(n_isinstance:mg "isinstance" = none)(n_tuple:mg "tuple" = none)(n_len:mg "len" = none): FnOk P w K mg base CX0 2 fa fd ["_law_found","_law_due"] (spD K 2 jc):=
 F.okn (k:=1) (n:=6) (ar:=2) (k1:=2) (u:=wx) qbe rfl rfl rfl fun cdv A outer s H E hr=>(by first|(with_reducible exact q52 c_14 b_14 n_zip n_isinstance n_tuple n_len hr)|exact q52 c_14 b_14 n_zip n_isinstance n_tuple n_len hr)
abbrev k8:Stmt:=top 3
noncomputable def q30:List Str:=["some"]
theorem qbg:(q30).Nodup:=by decide +kernel
theorem qbh:FnScope q30 ["some"] (qd k8):=⟨rfl,rfl,rfl,qbg,rfl,by decide +kernel,by decide +kernel⟩
noncomputable def wy:FS:=(zi (za (qa (qk x9 (qa (eV 0) qf)) (qa (eV 0) qf))))
noncomputable def k9:List D->Option D:=ze 1 wy
theorem q53{fa:Addr}{cdv:Value}{A:Around}{outer:List Env}{s:Shared}{H:Hp}{E:XK}(n_len:mg "len" = none)(hr:Room 0 (A.deeper (envOfC "order_of" (qd k8) s.heap.objs.size fa cdv))):
  PSs (zq CX0 P w K mg base q30 "order_of" (qd k8) fa cdv A outer s H E).nox (qr k8) (tDS K wy):=by
 unfold wy;refine(qp ?_);refine(zc ?_);refine(qz ?_);walk_at "A";refine(zk (xh) rfl n_len DL.zx ?_);walk_at "A";exact(qc (pv 0));exact qe;walk_at "A";exact(qc (pv 0));exact qe
theorem qbi{fa:Addr}{dV:Value}{fd:FuncData}(F:Fun2 K "order_of" "order_of" k8 dV fa fd)(n_len:mg "len" = none): FnOk P w K mg base CX0 1 fa fd ["some"] (spD K 1 k9):=
 F.okn (k:=0) (n:=1) (ar:=1) (k1:=1) (u:=wy) qbh rfl rfl rfl fun cdv A outer s H E hr=>(by first|(with_reducible exact q53 n_len hr)|exact q53 n_len hr)
abbrev jk:Stmt:=top 13
noncomputable def q31:List Str:=["pairs"]
theorem qbj:(q31).Nodup:=by decide +kernel
theorem qbk:FnScope q31 ["pairs"] (qd jk):=⟨rfl,rfl,rfl,qbj,rfl,by decide +kernel,by decide +kernel⟩
noncomputable def jg:List D->Option D:=ze 1 (zi (qk (qt 1 [] k9) (qa (eOp oIx (eV 0) (eC (.int 0))) qf)))
noncomputable def wz:FS:=(zi (qk q0m (qa (eL (q4n (q4r jg) (qa (eV 0) qf))) qf)))
noncomputable def q00:List D->Option D:=ze 1 wz
theorem q54{fa:Addr}{A:Around}{outer:List Env}{s:Shared}{H:Hp}{E:XK}{a_order_of:Addr}{fd_order_of:FuncData}(c_18:Cal P w K mg base "order_of" 1 ["some"] 1 k9 a_order_of fd_order_of)(b_18:Binds K fd_order_of ["some"] [])(n_tuple:mg "tuple" = none)(n_sorted:mg "sorted" = none){cL TL:Addr}{dV':Value}{fd':FuncData}(F_L:Fun3 K "in_order" "in_order" jk dV' fa fd' cL TL)(hP_L:(TL,("in_order.<locals>.<lambda>" : Str))∈Lam.tab)(hU_L:∀p∈Lam.tab,p.1=TL->p.2="in_order.<locals>.<lambda>")(B_L:q11 mg base)(hr:Room 4 (A.deeper (envOfC "in_order" (qd jk) s.heap.objs.size fa (.ref cL)))):
  PSs (zq CX0 P w K mg base q31 "in_order" (qd jk) fa (.ref cL) A outer s H E).nox (qr jk) (tDS K wz):=by
 unfold wz jg;refine(qp ?_);refine(zc ?_);refine(q1n (q2p) rfl n_tuple DL.boot_tuple ?_);walk_at "A";refine(xo ?_);refine(qhs (N:=["pair"]) (ps:=["pair"]) (k:=1) (u:=(qk (qt 1 [] k9) (qa (eOp oIx (eV 0) (eC (.int 0))) qf))) rfl F_L.hd hP_L hU_L B_L hr rfl n_sorted ?_ ⟨rfl,rfl,rfl,by decide,rfl,by decide +kernel,by decide +kernel⟩ (fun _ _ _ _ _ _ _ hr=>?_) (fun _ _ _ us hl=>match us,hl with | [_],_=>rfl) (by decide) rfl);walk_at "A";exact(qc (pv 0));exact qe;refine(z5 c_18 b_18 hr (by decide) rfl ?_);walk_at "A";refine(zt ?_ qg);exact(qc (pv 0));exact qe;exact qe
theorem qbl{fa:Addr}{a_order_of:Addr}{fd_order_of:FuncData}(c_18:Cal P w K mg base "order_of" 1 ["some"] 1 k9 a_order_of fd_order_of)(b_18:Binds K fd_order_of ["some"] [])(n_tuple:mg "tuple" = none)(n_sorted:mg "sorted" = none){cL TL:Addr}{dV':Value}{fd':FuncData}(F_L:Fun3 K "in_order" "in_order" jk dV' fa fd' cL TL)(hP_L:(TL,("in_order.<locals>.<lambda>" : Str))∈Lam.tab)(hU_L:∀p∈Lam.tab,p.1=TL->p.2="in_order.<locals>.<lambda>")(B_L:q11 mg base): FnOk P w K mg base CX0 5 fa fd' ["pairs"] (spD K 1 q00):=
 F_L.okn (k:=4) (n:=1) (ar:=1) (k1:=5) (u:=wz) qbk rfl rfl rfl fun A outer s H E hr=>(by first|(with_reducible exact q54 c_18 b_18 n_tuple n_sorted F_L hP_L hU_L B_L hr)|exact q54 c_18 b_18 n_tuple n_sorted F_L hP_L hU_L B_L hr)
abbrev x5:Stmt:=top 16
noncomputable def q0e:List Str:=["node","by_ware","ware","lower"]
theorem q01:(q0e).Nodup:=by decide +kernel
theorem q6s:FnScope q0e ["node","by_ware"] (qd x5):=⟨rfl,rfl,rfl,q01,rfl,by decide +kernel,by decide +kernel⟩
noncomputable def xq(rc:D->List (Int×List D)->Option (List (Int×List D))): FS:=(z6 (q6l 1 (eV 2) (eV 3)) (q7k 1 (eV 3) rc))
noncomputable def x6(rc:D->List (Int×List D)->Option (List (Int×List D))): FS:=(q0c (vg (eOp oIx (eV 0) (eC (.int 1)))) (xx 2 (zg (bN 2) (zg (bN 3) xw))) (xq rc))
noncomputable def F_gather_below(n:Nat): D->List (Int×List D)->Option (List (Int×List D)):=Nat.rec (fun _ _=>none) (fun _ rc=>q6n 4 (x6 rc)) n
noncomputable def v9:D->List (Int×List D)->Option (List (Int×List D)):=F_gather_below 16
theorem q6t[Pin]{fa:Addr}{cdv:Value}{A:Around}{outer:List Env}{s:Shared}{H:Hp}{E:XK}{rc:D->List (Int×List D)->Option (List (Int×List D))}{kr kk:Nat}(hkr:kr<=kk)(hk0:0<=kk){a_gather_below:Addr}{fd_gather_below:FuncData}(c_1:CalOD P w K mg base "gather_below" kr ["node","by_ware"] rc a_gather_below fd_gather_below)(b_1:Binds K fd_gather_below ["node","by_ware"] [])(hr:Room kk (A.deeper (envOfC "gather_below" (qd x5) s.heap.objs.size fa cdv))):
  PSs (zq CX0 P w K mg base q0e "gather_below" (qd x5) fa cdv A outer s H E).nox (qr x5) (tDS K (x6 rc)):=by
 unfold x6 xq;refine(qp ?_);refine(wj g01 rfl ?_ (q29 rfl (jw (z9 q01 rfl (Or.inl rfl) (.inl rfl)) (jw (z9 q01 rfl (Or.inl rfl) (.inl rfl)) q28))) (qm ?_ ?_));refine(xg ?_);refine(zt ?_ qg);exact(qc (pv 0));refine(qcn (pv 1) ?_ ?_);exact(qc (pv 2));exact(qc (pv 3));refine(qp ?_);refine(q8a c_1 b_1 hr hkr rfl ?_ (pv 1));exact(qc (pv 3))
theorem q6u{fa:Addr}{dV:Value}{fd:FuncData}(F:Fun2 K "gather_below" "gather_below" x5 dV fa fd)(mgf:mg "gather_below" = some (.ref fa))(kpf:PySem.W.keepIn K (.ref fa)=true)(b_1:Binds K fd ["node","by_ware"] [])(n:Nat): FnOk P w K mg base CX0 (1+n) fa fd ["node","by_ware"] (qdx K (F_gather_below n)):=by
 induction n with
 | zero=>exact qfv
 | succ n ih=>exact F.okOD (k:=1+n) (n:=4) (k1:=1+(n+1)) (u:=x6 (F_gather_below n)) q6s rfl rfl rfl fun Pn cdv A outer s H E hr=>(by exact q6t (kr:=1+n) (kk:=1+n) (gu _) (by omega) (CalOD.mk ih mgf kpf) b_1  hr)
abbrev jl:Stmt:=top 17
noncomputable def q02:List Str:=["nodes","by_ware","node"]
theorem w8:(q02).Nodup:=by decide +kernel
theorem q5g:FnScope q02 ["nodes"] (qd jl):=⟨rfl,rfl,rfl,w8,rfl,by decide +kernel,by decide +kernel⟩
noncomputable def xi:FS:=(q7k 1 (eV 2) v9)
noncomputable def ym:FS:=(z6 (sOD 1) (z6 (q0c (vg (eV 0)) (bN 2) xi) (qdu 1 (zi (eV 1)))))
noncomputable def xj:List D->Option D:=ze 3 ym
theorem q1g{fa:Addr}{cdv:Value}{A:Around}{outer:List Env}{s:Shared}{H:Hp}{E:XK}{a_gather_below:Addr}{fd_gather_below:FuncData}(c_1:CalOD P w K mg base "gather_below" 17 ["node","by_ware"] v9 a_gather_below fd_gather_below)(b_1:Binds K fd_gather_below ["node","by_ware"] [])(hr:Room 17 (A.deeper (envOfC "nodes_by_ware" (qd jl) s.heap.objs.size fa cdv))):
  PSs (zq CX0 P w K mg base q02 "nodes_by_ware" (qd jl) fa cdv A outer s H E).nox (qr jl) (tDS K ym):=by
 unfold ym xi;refine(qm ?_ ?_);exact(qit rfl (i:=1) w8 rfl (Or.inl rfl));refine(qm ?_ ?_);refine(wj g01 rfl ?_ (z9 w8 rfl (Or.inl rfl) (.inl rfl)) (qp ?_));refine(xg ?_);exact(qc (pv 0));refine(q8a c_1 b_1 hr (by decide) rfl ?_ (pv 1));exact(qc (pv 2));refine(qco 1 (qp ?_));refine(zc ?_);exact(qc (pv 1))
theorem q5h{fa:Addr}{dV:Value}{fd:FuncData}(F:Fun2 K "nodes_by_ware" "nodes_by_ware" jl dV fa fd){a_gather_below:Addr}{fd_gather_below:FuncData}(c_1:CalOD P w K mg base "gather_below" 17 ["node","by_ware"] v9 a_gather_below fd_gather_below)(b_1:Binds K fd_gather_below ["node","by_ware"] []): FnOk P w K mg base CX0 18 fa fd ["nodes"] (spD K 1 xj):=
 F.okn (k:=17) (n:=3) (ar:=1) (k1:=18) (u:=ym) q5g rfl rfl rfl fun cdv A outer s H E hr=>(by first|(with_reducible exact q1g c_1 b_1 hr)|exact q1g c_1 b_1 hr)
abbrev jm:Stmt:=top 5
noncomputable def q03:List Str:=["some","wares","first"]
theorem q1h:(q03).Nodup:=by decide +kernel
theorem q5i:FnScope q03 ["some","wares"] (qd jm):=⟨rfl,rfl,rfl,q1h,rfl,by decide +kernel,by decide +kernel⟩
theorem q42:(["ware","some"]:List Str).Nodup:=by decide +kernel
noncomputable def jn:FS:=(z6 (j7 2 (eIf (bT (eV 0)) (eOp zo (eOp oIx (eV 0) (eUn q1b (eC (.int 1)))) (eC (.int 1))) (eC (.int 0)))) (zi (eL (zm (iR2 (qa (eV 2) (qa (eV 1) qf))) [none,some 0] (bN 0) zl (eOp zo (eV 1) (za (qa (eV 0) qf)))))))
noncomputable def xk:List D->Option D:=ze 3 jn
theorem q1i{fa:Addr}{cdv:Value}{A:Around}{outer:List Env}{s:Shared}{H:Hp}{E:XK}(n_range:mg "range" = none)(hr:Room 0 (A.deeper (envOfC "one_ware_more" (qd jm) s.heap.objs.size fa cdv))):
  PSs (zq CX0 P w K mg base q03 "one_ware_more" (qd jm) fa cdv A outer s H E).nox (qr jm) (tDS K jn):=by
 unfold jn;refine(qm ?_ ?_);refine(zw (i:=2) ?_ ?_ ?_ ?_ ?_ ?_);exact q1h;exact rfl;exact(Or.inl rfl);refine(qoc ?_ ?_ qg);refine(wg ?_);exact(qc (pv 0));refine(qo j6 ?_ qg);refine(zt ?_ ?_);exact(qc (pv 0));exact(q9i qg);exact rfl;walk_at "L";refine(qp ?_);refine(zc ?_);refine(xo ?_);refine(vz (N':=["ware","some"]) (cap:=[none,some 0]) rfl (jo rfl rfl) (jt rfl) ?_ (fun _ _ _ _ _=>(z9 q42 rfl (Or.inl rfl) (.inr rfl))) (fun _ _ _ _ _=>wk) (fun _ _ _ _ _=>?_));refine(qf6 rfl n_range ?_);walk_at "A";exact(qc (pv 2));walk_at "A";exact(qc (pv 1));exact qe;refine(qo j6 ?_ ?_);exact(qc (pv 1));refine(qz ?_);walk_at "A";exact(qc (pv 0));exact qe
theorem q5j{fa:Addr}{dV:Value}{fd:FuncData}(F:Fun2 K "one_ware_more" "one_ware_more" jm dV fa fd)(n_range:mg "range" = none): FnOk P w K mg base CX0 1 fa fd ["some","wares"] (spD K 2 xk):=
 F.okn (k:=0) (n:=3) (ar:=2) (k1:=1) (u:=jn) q5i rfl rfl rfl fun cdv A outer s H E hr=>(by first|(with_reducible exact q1i n_range hr)|exact q1i n_range hr)
abbrev va:Stmt:=top 18
noncomputable def q1j:List Str:=["some","nodes","wares","least","number","found","by_ware","longer"]
theorem vy:(q1j).Nodup:=by decide +kernel
theorem q8p:FnScope q1j ["some","nodes","wares","least"] (qd va):=⟨rfl,rfl,rfl,vy,rfl,by decide +kernel,by decide +kernel⟩
theorem q6v:(["node"]:List Str).Nodup:=by decide +kernel
noncomputable def xl(rc:List D->Option D): FS:=(qhu 5 (qk (qt 4 [] rc) (qa (eV 7) (qa (q6o (eV 6) (qa (eOp oIx (eV 7) (eUn q1b (eC (.int 1)))) (qa (eL (yo qf)) qf))) (qa (eV 2) (qa (eV 3) qf))))))
noncomputable def xa(rc:List D->Option D): FS:=(z6 (j7 4 (qk q2o (qa (eL (zm (vg (eV 1)) [none] (bN 0) zl (eOp oIx (eV 0) (eC (.int 0))))) qf))) (z6 (sIf (jr oLt' (eV 4) (eV 3)) (zi (eL (yo qf))) kq) (z6 (q18 5 (yo (qa (za (qa (eV 0) (qa (eV 4) qf))) qf))) (z6 (j7 6 (qk (qt 1 [] xj) (qa (eV 1) qf))) (z6 (q0c (vg (qk (qt 2 [] xk) (qa (eV 0) (qa (eV 2) qf)))) (bN 7) (xl rc)) (q2k 5 (zi (eV 5))))))))
noncomputable def F_pairs_from(n:Nat): List D->Option D:=Nat.rec (fun _=>none) (fun _ rc=>ze 8 (xa rc)) n
noncomputable def q04:List D->Option D:=F_pairs_from 16
theorem q8q{fa:Addr}{cdv:Value}{A:Around}{outer:List Env}{s:Shared}{H:Hp}{E:XK}{rc:List D->Option D}{kr kk:Nat}(hkr:kr<=kk)(hk0:18<=kk){a_pairs_from:Addr}{fd_pairs_from:FuncData}(c_19:Cal P w K mg base "pairs_from" kr ["some","nodes","wares","least"] 4 rc a_pairs_from fd_pairs_from)(b_19:Binds K fd_pairs_from ["some","nodes","wares","least"] []){a_nodes_by_ware:Addr}{fd_nodes_by_ware:FuncData}(c_16:Cal P w K mg base "nodes_by_ware" 18 ["nodes"] 1 xj a_nodes_by_ware fd_nodes_by_ware)(b_16:Binds K fd_nodes_by_ware ["nodes"] []){a_one_ware_more:Addr}{fd_one_ware_more:FuncData}(c_17:Cal P w K mg base "one_ware_more" 1 ["some","wares"] 2 xk a_one_ware_more fd_one_ware_more)(b_17:Binds K fd_one_ware_more ["some","wares"] [])(n_sum:mg "sum" = none)(hr:Room kk (A.deeper (envOfC "pairs_from" (qd va) s.heap.objs.size fa cdv))):
  PSs (zq CX0 P w K mg base q1j "pairs_from" (qd va) fa cdv A outer s H E).nox (qr va) (tDS K (xa rc)):=by
 unfold xa xl;refine(qm ?_ ?_);refine(zw (i:=4) ?_ ?_ ?_ ?_ ?_ ?_);exact vy;exact rfl;exact(Or.inl rfl);refine(zk (q69 rfl) rfl n_sum DL.boot_sum ?_);walk_at "A";refine(xo ?_);refine(vz (N':=["node"]) (cap:=[none]) rfl (jo rfl rfl) (jt rfl) ?_ (fun _ _ _ _ _=>(z9 q6v rfl (Or.inl rfl) (.inr rfl))) (fun _ _ _ _ _=>wk) (fun _ _ _ _ _=>?_));refine(xg ?_);exact(qc (pv 1));refine(zt ?_ qg);exact(qc (pv 0));exact qe;exact rfl;walk_at "L";refine(qm ?_ ?_);refine(yi ?_ (qp ?_) xv);refine(x8 q9j ?_ ?_);exact(qc (pv 4));exact(qc (pv 3));refine(zc ?_);refine(xo ?_);exact(yp qe);refine(qm ?_ ?_);refine(q99 (i:=5) vy rfl (Or.inl rfl) (yp ?_));walk_at "A";refine(qz ?_);walk_at "A";exact(qc (pv 0));walk_at "A";exact(qc (pv 4));exact qe;exact qe;refine(qm ?_ ?_);refine(zw (i:=6) ?_ ?_ ?_ ?_ ?_ ?_);exact vy;exact rfl;exact(Or.inl rfl);refine(z5 c_16 b_16 hr (ml (by decide) hk0) rfl ?_);walk_at "A";exact(qc (pv 1));exact qe;exact rfl;walk_at "L";refine(qm ?_ ?_);refine(wj g01 rfl ?_ (z9 vy rfl (Or.inl rfl) (.inl rfl)) (qp ?_));refine(xg ?_);refine(z5 c_17 b_17 hr (ml (by decide) hk0) rfl ?_);walk_at "A";exact(qc (pv 0));walk_at "A";exact(qc (pv 2));exact qe;refine(qn6 (pv 5) ?_);refine(z5 c_19 b_19 hr hkr rfl ?_);walk_at "A";exact(qc (pv 7));walk_at "A";refine(qkf ?_ ?_);exact(qc (pv 6));walk_at "A";refine(zt ?_ ?_);exact(qc (pv 7));exact(q9i qg);walk_at "A";refine(xo ?_);exact(yp qe);exact qe;walk_at "A";exact(qc (pv 2));walk_at "A";exact(qc (pv 3));exact qe;refine(q3h 5 (qp ?_));refine(zc ?_);exact(qc (pv 5))
theorem q8r{fa:Addr}{dV:Value}{fd:FuncData}(F:Fun2 K "pairs_from" "pairs_from" va dV fa fd)(mgf:mg "pairs_from" = some (.ref fa))(kpf:PySem.W.keepIn K (.ref fa)=true)(b_19:Binds K fd ["some","nodes","wares","least"] []){a_nodes_by_ware:Addr}{fd_nodes_by_ware:FuncData}(c_16:Cal P w K mg base "nodes_by_ware" 18 ["nodes"] 1 xj a_nodes_by_ware fd_nodes_by_ware)(b_16:Binds K fd_nodes_by_ware ["nodes"] []){a_one_ware_more:Addr}{fd_one_ware_more:FuncData}(c_17:Cal P w K mg base "one_ware_more" 1 ["some","wares"] 2 xk a_one_ware_more fd_one_ware_more)(b_17:Binds K fd_one_ware_more ["some","wares"] [])(n_sum:mg "sum" = none)(n:Nat): FnOk P w K mg base CX0 (19+n) fa fd ["some","nodes","wares","least"] (spD K 4 (F_pairs_from n)):=by
 induction n with
 | zero=>exact q85
 | succ n ih=>exact F.okn (k:=19+n) (n:=8) (ar:=4) (k1:=19+(n+1)) (u:=xa (F_pairs_from n)) q8p rfl rfl rfl fun cdv A outer s H E hr=>(by exact q8q (kr:=19+n) (kk:=19+n) (gu _) (by omega) (Cal.mk ih mgf kpf) b_19 c_16 b_16 c_17 b_17 n_sum hr)
abbrev wc:Stmt:=top 10
noncomputable def q43:List Str:=["runs","depth","parted","run","basket","branches"]
theorem q05:(q43).Nodup:=by decide +kernel
theorem qe1:FnScope q43 ["runs","depth"] (qd wc):=⟨rfl,rfl,rfl,q05,rfl,by decide +kernel,by decide +kernel⟩
theorem qah:(["ware","parted","depth"]:List Str).Nodup:=by decide +kernel
theorem qai:(["run"]:List Str).Nodup:=by decide +kernel
noncomputable def q06(rc:List D->Option D): FS:=(z6 (j7 4 (eOp oIx (eV 3) (eC (.int 1)))) (sIf (jr oGt (qk x9 (qa (eV 4) qf)) (eV 1)) (q6l 2 (eOp oIx (eV 4) (eV 1)) (eV 3)) kq))
noncomputable def q0p(rc:List D->Option D): FS:=(z6 (sOD 2) (z6 (q0c (vg (eV 0)) (bN 3) (q06 rc)) (qdu 2 (z6 (q18 5 (zm (vg (eL (qdw (eV 2)))) [none,some 2,some 1] (bN 0) zl (za (qa (eV 0) (qa (qk (qt 2 [] rc) (qa (eOp q5e (eV 1) (eV 0)) (qa (eOp zo (eV 2) (eC (.int 1))) qf))) qf))))) (q2k 5 (zi (za (qa (qk q2o (qa (eL (zm (vg (eV 0)) [none] (bN 0) zl (eOp oIx (eV 0) (eC (.int 0))))) qf)) (qa (qk q0m (qa (eV 5) qf)) qf)))))))))
noncomputable def F_node_of(n:Nat): List D->Option D:=Nat.rec (fun _=>none) (fun _ rc=>ze 6 (q0p rc)) n
noncomputable def q44:List D->Option D:=F_node_of 16
theorem qe2{fa:Addr}{cdv:Value}{A:Around}{outer:List Env}{s:Shared}{H:Hp}{E:XK}{rc:List D->Option D}{kr kk:Nat}(hkr:kr<=kk)(hk0:0<=kk){a_node_of:Addr}{fd_node_of:FuncData}(c_15:Cal P w K mg base "node_of" kr ["runs","depth"] 2 rc a_node_of fd_node_of)(b_15:Binds K fd_node_of ["runs","depth"] [])(n_sum:mg "sum" = none)(n_tuple:mg "tuple" = none)(n_len:mg "len" = none)(n_sorted:mg "sorted" = none)(hr:Room kk (A.deeper (envOfC "node_of" (qd wc) s.heap.objs.size fa cdv))):
  PSs (zq CX0 P w K mg base q43 "node_of" (qd wc) fa cdv A outer s H E).nox (qr wc) (tDS K (q0p rc)):=by
 unfold q0p q06;refine(qm ?_ ?_);exact(qit rfl (i:=2) q05 rfl (Or.inr rfl));refine(qm ?_ ?_);refine(wj g01 rfl ?_ (z9 q05 rfl (Or.inl rfl) (.inl rfl)) (qm ?_ ?_));refine(xg ?_);exact(qc (pv 0));refine(zw (i:=4) ?_ ?_ ?_ ?_ ?_ ?_);exact q05;exact rfl;exact(Or.inl rfl);refine(zt ?_ qg);exact(qc (pv 3));exact rfl;walk_at "L";refine(qp ?_);refine(yi ?_ (qp ?_) xv);refine(x8 qil ?_ ?_);refine(zk (xh) rfl n_len DL.zx ?_);walk_at "A";exact(qc (pv 4));exact qe;exact(qc (pv 1));refine(qcn (pv 2) ?_ ?_);refine(zt ?_ ?_);exact(qc (pv 4));exact(qc (pv 1));exact(qc (pv 3));refine(qco 2 (qm ?_ ?_));refine(qc1 (i:=5) rfl q05 rfl rfl (N':=["ware","parted","depth"]) (cap:=[none,some 2,some 1]) (jo rfl rfl) (jt rfl) ?_ (fun _ _ _ _ _=>(z9 qah rfl (Or.inl rfl) (.inr rfl))) (fun _ _ _ _ _=>wk) (fun _ _ _ _ _=>?_));refine(xg ?_);refine(xo ?_);refine(qkd rfl rfl n_sorted ?_);exact(qc (pv 2));refine(qz ?_);walk_at "A";exact(qc (pv 0));walk_at "A";refine(z5 c_15 b_15 hr hkr rfl ?_);walk_at "A";refine(qn8 ?_ ?_);exact(qc (pv 1));exact(qc (pv 0));walk_at "A";refine(qo j6 ?_ qg);exact(qc (pv 2));exact qe;exact qe;refine(q3h 5 (qp ?_));refine(zc ?_);refine(qz ?_);walk_at "A";refine(zk (q69 rfl) rfl n_sum DL.boot_sum ?_);walk_at "A";refine(xo ?_);refine(vz (N':=["run"]) (cap:=[none]) rfl (jo rfl rfl) (jt rfl) ?_ (fun _ _ _ _ _=>(z9 qai rfl (Or.inl rfl) (.inr rfl))) (fun _ _ _ _ _=>wk) (fun _ _ _ _ _=>?_));refine(xg ?_);exact(qc (pv 0));refine(zt ?_ qg);exact(qc (pv 0));exact qe;walk_at "A";refine(q1n (q2p) rfl n_tuple DL.boot_tuple ?_);walk_at "A";exact(qc (pv 5));exact qe;exact qe
theorem qe3{fa:Addr}{dV:Value}{fd:FuncData}(F:Fun2 K "node_of" "node_of" wc dV fa fd)(mgf:mg "node_of" = some (.ref fa))(kpf:PySem.W.keepIn K (.ref fa)=true)(b_15:Binds K fd ["runs","depth"] [])(n_sum:mg "sum" = none)(n_tuple:mg "tuple" = none)(n_len:mg "len" = none)(n_sorted:mg "sorted" = none)(n:Nat): FnOk P w K mg base CX0 (1+n) fa fd ["runs","depth"] (spD K 2 (F_node_of n)):=by
 induction n with
 | zero=>exact q85
 | succ n ih=>exact F.okn (k:=1+n) (n:=6) (ar:=2) (k1:=1+(n+1)) (u:=q0p (F_node_of n)) qe1 rfl rfl rfl fun cdv A outer s H E hr=>(by exact qe2 (kr:=1+n) (kk:=1+n) (gu _) (by omega) (Cal.mk ih mgf kpf) b_15 n_sum n_tuple n_len n_sorted hr)
abbrev q2e:Stmt:=top 9
noncomputable def qaj:List Str:=["pile"]
theorem qkg:(qaj).Nodup:=by decide +kernel
theorem qkh:FnScope qaj ["pile"] (qd q2e):=⟨rfl,rfl,rfl,qkg,rfl,by decide +kernel,by decide +kernel⟩
noncomputable def q6w:FS:=(zi (qk (qt 2 [] q44) (qa (eOp oIx (eV 0) (eC (.int 1))) (qa (eC (.int 0)) qf))))
noncomputable def q45:List D->Option D:=ze 1 q6w
theorem qcq{fa:Addr}{cdv:Value}{A:Around}{outer:List Env}{s:Shared}{H:Hp}{E:XK}{a_node_of:Addr}{fd_node_of:FuncData}(c_15:Cal P w K mg base "node_of" 17 ["runs","depth"] 2 q44 a_node_of fd_node_of)(b_15:Binds K fd_node_of ["runs","depth"] [])(hr:Room 17 (A.deeper (envOfC "tree" (qd q2e) s.heap.objs.size fa cdv))):
  PSs (zq CX0 P w K mg base qaj "tree" (qd q2e) fa cdv A outer s H E).nox (qr q2e) (tDS K q6w):=by
 unfold q6w;refine(qp ?_);refine(zc ?_);refine(z5 c_15 b_15 hr (by decide) rfl ?_);walk_at "A";refine(zt ?_ qg);exact(qc (pv 0));walk_at "A";exact qg;exact qe
theorem qki{fa:Addr}{dV:Value}{fd:FuncData}(F:Fun2 K "tree" "tree" q2e dV fa fd){a_node_of:Addr}{fd_node_of:FuncData}(c_15:Cal P w K mg base "node_of" 17 ["runs","depth"] 2 q44 a_node_of fd_node_of)(b_15:Binds K fd_node_of ["runs","depth"] []): FnOk P w K mg base CX0 18 fa fd ["pile"] (spD K 1 q45):=
 F.okn (k:=17) (n:=1) (ar:=1) (k1:=18) (u:=q6w) qkh rfl rfl rfl fun cdv A outer s H E hr=>(by first|(with_reducible exact qcq c_15 b_15 hr)|exact qcq c_15 b_15 hr)
abbrev zh:Stmt:=qpg 19 0
noncomputable def kf:List Str:=["self","pile","least"]
theorem q46:(kf).Nodup:=by decide +kernel
theorem q47:FnScope kf ["self","pile","least"] (qd zh):=⟨rfl,rfl,rfl,q46,rfl,by decide +kernel,by decide +kernel⟩
noncomputable def jq:FS:=(zi (qk (qt 1 [] q00) (qa (qk (qt 4 [] q04) (qa (za qf) (qa (eL (yo (qa (qk (qt 1 [] q45) (qa (eV 1) qf)) qf))) (qa (eOp oIx (eV 1) (eC (.int 0))) (qa (eV 2) qf))))) qf)))
noncomputable def qu:List D->Option D:=ze 3 jq
theorem q0q{fa:Addr}{cdv:Value}{A:Around}{outer:List Env}{s:Shared}{H:Hp}{E:XK}{a_in_order:Addr}{fd_in_order:FuncData}(c_2:Cal P w K mg base "in_order" 5 ["pairs"] 1 q00 a_in_order fd_in_order)(b_2:Binds K fd_in_order ["pairs"] []){a_pairs_from:Addr}{fd_pairs_from:FuncData}(c_19:Cal P w K mg base "pairs_from" 35 ["some","nodes","wares","least"] 4 q04 a_pairs_from fd_pairs_from)(b_19:Binds K fd_pairs_from ["some","nodes","wares","least"] []){a_tree:Addr}{fd_tree:FuncData}(c_20:Cal P w K mg base "tree" 18 ["pile"] 1 q45 a_tree fd_tree)(b_20:Binds K fd_tree ["pile"] [])(hr:Room 35 (A.deeper (envOfC "Branching.often" (qd zh) s.heap.objs.size fa cdv))):
  PSs (zq CX0 P w K mg base kf "Branching.often" (qd zh) fa cdv A outer s H E).nox (qr zh) (tDS K jq):=by
 unfold jq;refine(qp ?_);refine(zc ?_);refine(z5 c_2 b_2 hr (by decide) rfl ?_);walk_at "A";refine(z5 c_19 b_19 hr (by decide) rfl ?_);walk_at "A";exact(qz qe);walk_at "A";refine(xo ?_);refine(yp ?_);walk_at "A";refine(z5 c_20 b_20 hr (by decide) rfl ?_);walk_at "A";exact(qc (pv 1));exact qe;exact qe;walk_at "A";refine(zt ?_ qg);exact(qc (pv 1));walk_at "A";exact(qc (pv 2));exact qe;exact qe
theorem q48{fa:Addr}{dV:Value}{fd:FuncData}(F:Fun2 K "often" "Branching.often" zh dV fa fd){a_in_order:Addr}{fd_in_order:FuncData}(c_2:Cal P w K mg base "in_order" 5 ["pairs"] 1 q00 a_in_order fd_in_order)(b_2:Binds K fd_in_order ["pairs"] []){a_pairs_from:Addr}{fd_pairs_from:FuncData}(c_19:Cal P w K mg base "pairs_from" 35 ["some","nodes","wares","least"] 4 q04 a_pairs_from fd_pairs_from)(b_19:Binds K fd_pairs_from ["some","nodes","wares","least"] []){a_tree:Addr}{fd_tree:FuncData}(c_20:Cal P w K mg base "tree" 18 ["pile"] 1 q45 a_tree fd_tree)(b_20:Binds K fd_tree ["pile"] []): FnOk P w K mg base CX0 36 fa fd ["self","pile","least"] (spD K 3 qu):=
 F.okn (k:=35) (n:=3) (ar:=3) (k1:=36) (u:=jq) q47 rfl rfl rfl fun cdv A outer s H E hr=>(by first|(with_reducible exact q0q c_2 b_2 c_19 b_19 c_20 b_20 hr)|exact q0q c_2 b_2 c_19 b_19 c_20 b_20 hr)
abbrev q4v:Stmt:=top 33
noncomputable def qe4:List Str:=["_law_script","_law_wares","_law_pile_here","_law_counts_here","_law_least_here","_law_due","_law_way","_law_other"]
theorem q0r:(qe4).Nodup:=by decide +kernel
theorem qnb:FnScope qe4 ["_law_script"] (qd q4v):=⟨rfl,rfl,rfl,q0r,rfl,by decide +kernel,by decide +kernel⟩
theorem qhy:(["_law_mark","_law_least_here","_law_counts_here"]:List Str).Nodup:=by decide +kernel
noncomputable def q6x:FS:=(z6 (j7 1 (eOp oMod (eOp oDiv (qk (qt 2 [] jb) (qa (eV 0) (qa (eC (.int 0)) qf))) (eC (.int 2))) (eC (.int 7)))) (z6 (j7 2 (qk (qt 3 [] wt) (qa (eV 0) (qa (eV 1) (qa (eC (.int 61)) qf))))) (z6 (j7 3 (qk (qt 1 [] yw) (qa (eV 2) qf))) (z6 (j7 4 (qk (qt 2 [] j3) (qa (eV 0) (qa (eV 3) qf)))) (z6 (j7 5 (qk (qt 2 [] yc) (qa (eL (zm (iR1 (qa (qk x9 (qa (eV 3) qf)) qf)) [none,some 4,some 3] (bN 0) (jr oGe (eOp oIx (eV 2) (eV 0)) (eV 1)) (eV 0))) (qa (eV 3) qf)))) (z6 (j7 6 (eC (.obj "Branching"))) (z6 (sIf (q1w (bT (qk (qt 2 [] jc) (qa (q3m "Branching" 3 qu (eV 6) (qa (eV 2) (qa (eV 4) qf))) (qa (eV 5) qf))))) (zi (eC (.bl false))) kq) (z6 (j7 7 (za (qa (eC (.int 2)) (qa (za (qa (za (qa (eC (.int 3)) (qa (za (qa (eC (.int 0)) qf)) qf))) (qa (za (qa (eC (.int 1)) (qa (za (qa (eC (.int 0)) (qa (eC (.int 1)) qf))) qf))) (qa (za (qa (eC (.int 2)) (qa (za qf) qf))) qf)))) qf)))) (z6 (sIf (bOr (q1w (bT (qk (qt 2 [] jc) (qa (q3m "Branching" 3 qu (eV 6) (qa (eV 7) (qa (eC (.int 2)) qf))) (qa (eL (yo (qa (za (qa (za qf) (qa (eC (.int 6)) qf))) (qa (za (qa (za (qa (eC (.int 0)) qf)) (qa (eC (.int 4)) qf))) qf)))) qf))))) (jr qdn (q3m "Branching" 3 qu (eV 6) (qa (za (qa (eC (.int 0)) (qa (za qf) qf))) (qa (eC (.int 1)) qf))) (za qf))) (zi (eC (.bl false))) kq) (z6 (sIf (bOr (q1w (bT (qk (qt 2 [] jc) (qa (q3m "Branching" 3 qu (eV 6) (qa (za (qa (eC (.int 0)) (qa (za (qa (za (qa (eC (.int 5)) (qa (za qf) qf))) (qa (za (qa (eC (.int 2)) (qa (za qf) qf))) qf))) qf))) (qa (eC (.int 7)) qf))) (qa (eL (yo (qa (za (qa (za qf) (qa (eC (.int 7)) qf))) qf))) qf))))) (jr qdn (q3m "Branching" 3 qu (eV 6) (qa (eV 7) (qa (eC (.int 7)) qf))) (za qf))) (zi (eC (.bl false))) kq) (zi (qk (qt 2 [] jc) (qa (q3m "Branching" 3 qu (eV 6) (qa (eV 2) (qa (eV 4) qf))) (qa (eV 5) qf))))))))))))))
noncomputable def qe5:List D->Option D:=ze 8 q6x
theorem qfw{fa:Addr}{cdv:Value}{A:Around}{outer:List Env}{s:Shared}{H:Hp}{E:XK}{C_Branching:Addr}(O_Branching:ClsOk K "Branching" C_Branching)(m_Branching:mg "Branching" = some (.ref C_Branching)){a__law_pile:Addr}{fd__law_pile:FuncData}(c_11:Cal P w K mg base "_law_pile" 3 ["_law_script","_law_wares","_law_most_runs"] 3 wt a__law_pile fd__law_pile)(b_11:Binds K fd__law_pile ["_law_script","_law_wares","_law_most_runs"] []){a__law_counts:Addr}{fd__law_counts:FuncData}(c_4:Cal P w K mg base "_law_counts" 2 ["_law_pile_here"] 1 yw a__law_counts fd__law_counts)(b_4:Binds K fd__law_counts ["_law_pile_here"] []){a__law_least:Addr}{fd__law_least:FuncData}(c_6:Cal P w K mg base "_law_least" 2 ["_law_script","_law_counts_here"] 2 j3 a__law_least fd__law_least)(b_6:Binds K fd__law_least ["_law_script","_law_counts_here"] []){a__law_pairs:Addr}{fd__law_pairs:FuncData}(c_10:Cal P w K mg base "_law_pairs" 3 ["_law_marks_here","_law_counts_here"] 2 yc a__law_pairs fd__law_pairs)(b_10:Binds K fd__law_pairs ["_law_marks_here","_law_counts_here"] []){a__law_same:Addr}{fd__law_same:FuncData}(c_13:Cal P w K mg base "_law_same" 2 ["_law_found","_law_due"] 2 jc a__law_same fd__law_same)(b_13:Binds K fd__law_same ["_law_found","_law_due"] []){a_Branching_often:Addr}{fd_Branching_often:FuncData}(c_0:CalM P w K mg base "Branching" "often" C_Branching 36 ["self","pile","least"] 3 qu a_Branching_often fd_Branching_often)(b_0:Binds K fd_Branching_often ["self","pile","least"] []){a__law_cell:Addr}{fd__law_cell:FuncData}(c_3:Cal P w K mg base "_law_cell" 1 ["_law_script","_law_k"] 2 jb a__law_cell fd__law_cell)(b_3:Binds K fd__law_cell ["_law_script","_law_k"] [])(n_range:mg "range" = none)(n_len:mg "len" = none)(hr:Room 36 (A.deeper (envOfC "law" (qd q4v) s.heap.objs.size fa cdv))):
  PSs (zq CX0 P w K mg base qe4 "law" (qd q4v) fa cdv A outer s H E).nox (qr q4v) (tDS K q6x):=by
 unfold q6x;refine(qm ?_ ?_);refine(zw (i:=1) ?_ ?_ ?_ ?_ ?_ ?_);exact q0r;exact rfl;exact(Or.inl rfl);refine(qo j9 ?_ qg);refine(qo q27 ?_ qg);refine(z5 c_3 b_3 hr (by decide) rfl ?_);walk_at "A";exact(qc (pv 0));walk_at "A";exact qg;exact qe;exact rfl;walk_at "L";refine(qm ?_ ?_);refine(zw (i:=2) ?_ ?_ ?_ ?_ ?_ ?_);exact q0r;exact rfl;exact(Or.inl rfl);refine(z5 c_11 b_11 hr (by decide) rfl ?_);walk_at "A";exact(qc (pv 0));walk_at "A";exact(qc (pv 1));walk_at "A";exact qg;exact qe;exact rfl;walk_at "L";refine(qm ?_ ?_);refine(zw (i:=3) ?_ ?_ ?_ ?_ ?_ ?_);exact q0r;exact rfl;exact(Or.inr rfl);refine(z5 c_4 b_4 hr (by decide) rfl ?_);walk_at "A";exact(qc (pv 2));exact qe;exact rfl;walk_at "L";refine(qm ?_ ?_);refine(zw (i:=4) ?_ ?_ ?_ ?_ ?_ ?_);exact q0r;exact rfl;exact(Or.inr rfl);refine(z5 c_6 b_6 hr (by decide) rfl ?_);walk_at "A";exact(qc (pv 0));walk_at "A";exact(qc (pv 3));exact qe;exact rfl;walk_at "L";refine(qm ?_ ?_);refine(zw (i:=5) ?_ ?_ ?_ ?_ ?_ ?_);exact q0r;exact rfl;exact(Or.inl rfl);refine(z5 c_10 b_10 hr (by decide) rfl ?_);walk_at "A";refine(xo ?_);refine(vz (N':=["_law_mark","_law_least_here","_law_counts_here"]) (cap:=[none,some 4,some 3]) rfl (jo rfl rfl) (jt rfl) ?_ (fun _ _ _ _ _=>(z9 qhy rfl (Or.inl rfl) (.inr rfl))) (fun _ _ _ _ _=>(q9b ?_)) (fun _ _ _ _ _=>?_));refine(q1o rfl n_range ?_);walk_at "A";refine(zk (xh) rfl n_len DL.zx ?_);walk_at "A";exact(qc (pv 3));exact qe;exact qe;refine(x8 qob ?_ ?_);refine(zt ?_ ?_);exact(qc (pv 2));exact(qc (pv 0));exact(qc (pv 1));exact(qc (pv 0));walk_at "A";exact(qc (pv 3));exact qe;exact rfl;walk_at "L";refine(qm ?_ ?_);refine(zw (i:=6) ?_ ?_ ?_ ?_ ?_ ?_);exact q0r;exact rfl;exact(Or.inl rfl);exact(qmy O_Branching m_Branching rfl);exact rfl;walk_at "L";refine(qm ?_ ?_);refine(yi ?_ (qp ?_) xv);refine(q0l ?_);refine(wg ?_);refine(z5 c_13 b_13 hr (by decide) rfl ?_);walk_at "A";refine(q2a O_Branching c_0 b_0 hr (by decide) ?_ ?_);exact(qc (pv 6));walk_at "A";exact(qc (pv 2));walk_at "A";exact(qc (pv 4));exact qe;walk_at "A";exact(qc (pv 5));exact qe;exact(zc q1m);refine(qm ?_ ?_);refine(zw (i:=7) ?_ ?_ ?_ ?_ ?_ ?_);exact q0r;exact rfl;exact(Or.inl rfl);refine(qz ?_);walk_at "A";exact qg;walk_at "A";refine(qz ?_);walk_at "A";refine(qz ?_);walk_at "A";exact qg;walk_at "A";refine(qz ?_);walk_at "A";exact qg;exact qe;exact qe;walk_at "A";refine(qz ?_);walk_at "A";exact qg;walk_at "A";refine(qz ?_);walk_at "A";exact qg;walk_at "A";exact qg;exact qe;exact qe;walk_at "A";refine(qz ?_);walk_at "A";exact qg;walk_at "A";exact(qz qe);exact qe;exact qe;exact qe;exact rfl;walk_at "L";refine(qm ?_ ?_);refine(yi ?_ (qp ?_) xv);refine(PW.pt (q4l ?_ (q3e ?_)));refine(q0l ?_);refine(wg ?_);refine(z5 c_13 b_13 hr (by decide) rfl ?_);walk_at "A";refine(q2a O_Branching c_0 b_0 hr (by decide) ?_ ?_);exact(qc (pv 6));walk_at "A";exact(qc (pv 7));walk_at "A";exact qg;exact qe;walk_at "A";refine(xo ?_);refine(yp ?_);walk_at "A";refine(qz ?_);walk_at "A";exact(qz qe);walk_at "A";exact qg;exact qe;walk_at "A";refine(qz ?_);walk_at "A";refine(qz ?_);walk_at "A";exact qg;exact qe;walk_at "A";exact qg;exact qe;exact qe;exact qe;refine(x8 (qfd hr.units) ?_ ?_);refine(q2a O_Branching c_0 b_0 hr (by decide) ?_ ?_);exact(qc (pv 6));walk_at "A";refine(qz ?_);walk_at "A";exact qg;walk_at "A";exact(qz qe);exact qe;walk_at "A";exact qg;exact qe;exact(qz qe);exact(zc q1m);refine(qm ?_ ?_);refine(yi ?_ (qp ?_) xv);refine(PW.pt (q4l ?_ (q3e ?_)));refine(q0l ?_);refine(wg ?_);refine(z5 c_13 b_13 hr (by decide) rfl ?_);walk_at "A";refine(q2a O_Branching c_0 b_0 hr (by decide) ?_ ?_);exact(qc (pv 6));walk_at "A";refine(qz ?_);walk_at "A";exact qg;walk_at "A";refine(qz ?_);walk_at "A";refine(qz ?_);walk_at "A";exact qg;walk_at "A";exact(qz qe);exact qe;walk_at "A";refine(qz ?_);walk_at "A";exact qg;walk_at "A";exact(qz qe);exact qe;exact qe;exact qe;walk_at "A";exact qg;exact qe;walk_at "A";refine(xo ?_);refine(yp ?_);walk_at "A";refine(qz ?_);walk_at "A";exact(qz qe);walk_at "A";exact qg;exact qe;exact qe;exact qe;refine(x8 (qfd hr.units) ?_ ?_);refine(q2a O_Branching c_0 b_0 hr (by decide) ?_ ?_);exact(qc (pv 6));walk_at "A";exact(qc (pv 7));walk_at "A";exact qg;exact qe;exact(qz qe);exact(zc q1m);refine(qp ?_);refine(zc ?_);refine(z5 c_13 b_13 hr (by decide) rfl ?_);walk_at "A";refine(q2a O_Branching c_0 b_0 hr (by decide) ?_ ?_);exact(qc (pv 6));walk_at "A";exact(qc (pv 2));walk_at "A";exact(qc (pv 4));exact qe;walk_at "A";exact(qc (pv 5));exact qe
theorem qnc{fa:Addr}{dV:Value}{fd:FuncData}(F:Fun2 K "law" "law" q4v dV fa fd){C_Branching:Addr}(O_Branching:ClsOk K "Branching" C_Branching)(m_Branching:mg "Branching" = some (.ref C_Branching)){a__law_pile:Addr}{fd__law_pile:FuncData}(c_11:Cal P w K mg base "_law_pile" 3 ["_law_script","_law_wares","_law_most_runs"] 3 wt a__law_pile fd__law_pile)(b_11:Binds K fd__law_pile ["_law_script","_law_wares","_law_most_runs"] []){a__law_counts:Addr}{fd__law_counts:FuncData}(c_4:Cal P w K mg base "_law_counts" 2 ["_law_pile_here"] 1 yw a__law_counts fd__law_counts)(b_4:Binds K fd__law_counts ["_law_pile_here"] []){a__law_least:Addr}{fd__law_least:FuncData}(c_6:Cal P w K mg base "_law_least" 2 ["_law_script","_law_counts_here"] 2 j3 a__law_least fd__law_least)(b_6:Binds K fd__law_least ["_law_script","_law_counts_here"] []){a__law_pairs:Addr}{fd__law_pairs:FuncData}(c_10:Cal P w K mg base "_law_pairs" 3 ["_law_marks_here","_law_counts_here"] 2 yc a__law_pairs fd__law_pairs)(b_10:Binds K fd__law_pairs ["_law_marks_here","_law_counts_here"] []){a__law_same:Addr}{fd__law_same:FuncData}(c_13:Cal P w K mg base "_law_same" 2 ["_law_found","_law_due"] 2 jc a__law_same fd__law_same)(b_13:Binds K fd__law_same ["_law_found","_law_due"] []){a_Branching_often:Addr}{fd_Branching_often:FuncData}(c_0:CalM P w K mg base "Branching" "often" C_Branching 36 ["self","pile","least"] 3 qu a_Branching_often fd_Branching_often)(b_0:Binds K fd_Branching_often ["self","pile","least"] []){a__law_cell:Addr}{fd__law_cell:FuncData}(c_3:Cal P w K mg base "_law_cell" 1 ["_law_script","_law_k"] 2 jb a__law_cell fd__law_cell)(b_3:Binds K fd__law_cell ["_law_script","_law_k"] [])(n_range:mg "range" = none)(n_len:mg "len" = none): FnOk P w K mg base CX0 37 fa fd ["_law_script"] (spD K 1 qe5):=
 F.okn (k:=36) (n:=8) (ar:=1) (k1:=37) (u:=q6x) qnb rfl rfl rfl fun cdv A outer s H E hr=>(by first|(with_reducible exact qfw O_Branching m_Branching c_11 b_11 c_4 b_4 c_6 b_6 c_10 b_10 c_13 b_13 c_0 b_0 c_3 b_3 n_range n_len hr)|exact qfw O_Branching m_Branching c_11 b_11 c_4 b_4 c_6 b_6 c_10 b_10 c_13 b_13 c_0 b_0 c_3 b_3 n_range n_len hr)
end
end My
namespace Js
open PySem
open Sem (wp)
section
variable{prog:Program}{w:World}{A:Around}{E:Value->Shared->Prop}{s:Shared}{a:Addr}
end
end Js
namespace Js
open PySem
section
variable{prog:Program}{w:World}{A:Around}{R:Result->Shared->Prop}
end
section
variable{prog:Program}{w:World}{A:Around}{E:Value->Shared->Prop}{s:Shared}
end
end Js
namespace DL
open PySem PySem.Spec PyProof.Rows L2
variable[Lam][Pin]
omit [Lam] [Pin] in
theorem items_int{P:Program}{w:World}: ∀ {k:List Int} {us:List Value},Vals (k.map V.int) us->ItemsAre (intKind P w) k us
 | [],_,r=>by cases r;exact .nil
 | i :: k,_,r=>by
  cases r with
  | cons h t=>
   obtain⟨tk,rfl⟩:=h;exact .cons (intKind_is _ _ _ _) (items_int t)
section
variable{X:Cx}{pins:List (Addr×Obj)}{σ : St}{H F:Hp}{s:Shared}
end
section
variable{X:Cx}
end
end DL
namespace DL
open PySem L2
theorem qak(a b:Int): decide (V.int a=V.int b)=decide (a=b):=decide_eq_decide.mpr ⟨fun h=>by injection h,fun h=>by rw [h]⟩
theorem qcr(a b:Int): oEq (.int a) (.int b)=some (.bl (decide (a=b))):=by
 simp only [oEq,qgz,flD,q77,gm,ny,g4e,qak]
theorem qkj(a b:Int): q5b (.int a) (.int b)=some (.bl (!decide (a=b))):=by
 simp only [q5b,flD,q77,gm,ny,qak]
theorem qnd(a b:Bool): oEq (.bl a) (.bl b)=some (.bl (a==b)):=by
 cases a <;> cases b <;> rfl
theorem qal(a b:Int)(h:0<b): oMod (.int a) (.int b)=some (.int (a%b)):=by simp [oMod,oI,h]
theorem qam(a b:Int)(h:0<b)(h2:b<1073741824): oDiv (.int a) (.int b)=some (.int (a / b)):=by simp [oDiv,oI,h,h2]
theorem qfx(a b:Int): zo (.int a) (.int b)=some (.int (a+b)):=rfl
theorem qhz(a b:Int): oSub (.int a) (.int b)=some (.int (a-b)):=rfl
theorem qkk(a b:Int): oLt' (.int a) (.int b)=some (.bl (decide (a<b))):=rfl
theorem qkl(a b:Int): oLe (.int a) (.int b)=some (.bl (decide (a<=b))):=rfl
theorem qkm(a b:Int): oGt (.int a) (.int b)=some (.bl (decide (b<a))):=rfl
theorem qkn(a b:Int): oGe (.int a) (.int b)=some (.bl (decide (b<=a))):=rfl
theorem qfy(xs ys:List D)(h:xs.length+ys.length<=1000000): zo (.tup xs) (.tup ys)=some (.tup (xs++ys)):=by
 show(oAdd (.tup xs) (.tup ys)).or (q9e (.tup xs) (.tup ys))=_;simp only [oAdd,oI,Option.none_or,q9e,lim,m4 h]
theorem q5k(a b:Int)(h:0<=b)(h2:b<=1000000)(h3:a.natAbs<2 ^ 64): oShl (.int a) (.int b)=some (.int (a*2 ^ b.toNat)):=by simp [oShl,oI,h,h2,h3]
theorem qi0(a b:Int)(h:0<=b): oShr (.int a) (.int b)=some (.int (a / 2 ^ b.toNat)):=by simp [oShr,oI,h]
theorem q5l(a b:Int)(h:0<=b)(h2:b<=1000000)(h3:a.natAbs<2 ^ 64): oPow (.int a) (.int b)=some (.int (a ^ b.toNat)):=by simp [oPow,oI,h,h2,h3]
theorem q1s(ns:List Int): q2o [.lst (ns.map .int)]=some (.int ns.sum):=by simp [q2o,o1L,q82]
theorem qcs{α : Type}{xs:List α}{i:Int}(h0:0<=i): atI xs i=xs[i.toNat]? :=by
 unfold atI ixN;rw [m4 h0]
 by_cases h:i<xs.length
 ·rw [m4 h];rfl
 ·rw [m9 h,g4f (by omega)];rfl
theorem qi1{α : Type}(xs:List α): atI xs (-1)=xs.getLast? :=by
 unfold atI ixN;rw [m9 (by decide)];cases xs with
 | nil=>rfl
 | cons a r=>
  rw [m4 (by simp only [ph];omega)];show(a :: r)[((-1:Int)+((a :: r).length:Nat)).toNat]? = _;rw [List.getLast?_eq_getElem?]
  congr 1
  simp only [ph];omega
section
variable{b:FB}{body:FS}{d:D}{ds:List D}{ρ ρ1 ρ2:Rho}
theorem xm(h1:b d ρ = some ρ1)(h2:body ρ1=some (.nx, ρ2)): runFor b body (d :: ds) ρ = runFor b body ds ρ2:=by simp only [runFor,h1,h2,gm]
end
theorem q32{b:FB}{c:FT}{f:FE}{ρ : Rho}(p:D->Bool)(g:D->D): ∀ {ds:List D},(∀d∈ds,∃ ρ1,b d ρ = some ρ1/\c ρ1=some (p d)/\(p d=true->f ρ1=some (g d)))->qw b c f ρ ds=some ((ds.filter p).map g)
 | [],_=>rfl
 | d :: ds,h=>by
  obtain⟨ρ1,e1,e2,e3⟩:=h d gw;have ih:=q32 p g fun e he=>h e (gq _ he);simp only [qw,e1,e2,gm];cases hp:p d with
  | true=>simp only [ny,e3 hp,gm,ih,pf,tq,hp,gd]
  | false=>simp only [m7,nt,ih,tq,hp]
theorem q55{b:FB}{f:FE}{ρ : Rho}(g:D->D){ds:List D}(h:∀d∈ds,∃ ρ1,b d ρ = some ρ1/\f ρ1=some (g d)): qw b zl f ρ ds=some (ds.map g):=by
 have:=q32 (b:=b) (c:=zl) (f:=f) (ρ := ρ) (fun _=>true) g (ds:=ds) fun d hd=>let⟨ρ1,e1,e2⟩:=h d hd; ⟨ρ1,e1,rfl,fun _=>e2⟩
 rw [g02.mpr (fun _ _=>rfl)] at this;exact this
theorem q56(lo:Int)(n:Nat): z0 lo (n+1)=.int lo :: z0 (lo+1) n:=by
 unfold z0;rw [g22,gd,nv]
 congr 1
 ·simp
 ·apply g0f
  intro a _;simp only [Function.comp,Nat.succ_eq_add_one,Int.natCast_add]
  congr 1
  omega
theorem q6y(lo:Int)(n:Nat): (z0 lo n).length=n:=by simp [z0]
theorem q7q(fa:FA)(ρ : Rho)(j:Int)(h:fa ρ = some [.int j])(h1 : -(2 ^ 62)<=j)(h2:j<2 ^ 62): iR1 fa ρ = some (z0 0 j.toNat):=by
 simp only [iR1,h,gm,n8 h1,n8 h2,Bool.and_self,ny]
section
variable{ρ ρ1 ρ':Rho}{f g:FE}{d x y z:D}{i n m ar:Nat}{fa fk:FA}{ds es:List D}{t t2:FT}{c:Bool}{u w:FS}{r:Option (Fl×Rho)}
theorem x_c:eC d ρ = some d:=rfl
theorem x_v(h : ρ[i]? = some (some (.fz d))): eV i ρ = some d:=by unfold eV;rw [h]
theorem yg{o:D->D->Option D}(h1:f ρ = some x)(h2:g ρ = some y)(h3:o x y=some z): eOp o f g ρ = some z:=by unfold eOp;rw [h1,gm,h2,gm,h3]
theorem qne{o:D->Option D}(h1:f ρ = some x)(h3:o x=some z): eUn o f ρ = some z:=by unfold eUn;rw [h1,gm,h3]
theorem xr:qf ρ = some []:=rfl
theorem zj(h1:f ρ = some d)(h2:fa ρ = some ds): qa f fa ρ = some (d :: ds):=by unfold qa;rw [h1,gm,h2,pf]
theorem x_call{o:List D->Option D}(h1:fa ρ = some ds)(h2:o ds=some d): qk o fa ρ = some d:=by unfold qk;rw [h1,gm,h2]
theorem q49{o:List D->Option D}{dds:List D}(h1:fa ρ = some ds)(hl:(ds++dds).length=ar)(h2:o (ds++dds)=some d): qk (qt ar dds o) fa ρ = some d:=by unfold qk qt;rw [h1,gm,m4 hl,h2]
theorem qe6(h1:fa ρ = some ds)(hl:ds.length<=lim): za fa ρ = some (.tup ds):=by unfold za;rw [h1,gm,m4 hl]
theorem x_l(h1:fa ρ = some ds): eL fa ρ = some (.lst ds):=by unfold eL;rw [h1,pf]
theorem qfz{it:FA}{cap:List (Option Nat)}{b:FB}{q:FT}(h1:it ρ = some ds)(hl:ds.length<=lim)(h2:qw b q f (yq cap ρ) ds=some es): zm it cap b q f ρ = some es:=by unfold zm;rw [h1,gm,m4 hl,h2]
theorem q4a(h1:f ρ = some d)(h2:q1x d=some ds): vg f ρ = some ds:=by unfold vg;rw [h1,gm,h2]
theorem qe7{o:D->D->Option D}(h1:f ρ = some x)(h2:g ρ = some y)(h3:o x y=some (.bl c)): jr o f g ρ = some c:=by unfold jr;rw [yg h1 h2 h3,gm];rfl
theorem q07(h1:u ρ = some (.nx, ρ1))(h2:w ρ1=r): z6 u w ρ = r:=by unfold z6;rw [h1,gm];exact h2
theorem qnf(h1:t ρ = some c)(hc:c=true)(h2:u ρ = r): sIf t u w ρ = r:=by subst hc;unfold sIf;rw [h1,gm];exact h2
theorem qng(h1:t ρ = some c)(hc:c=false)(h2:w ρ = r): sIf t u w ρ = r:=by subst hc;unfold sIf;rw [h1,gm];exact h2
theorem qe8(h1:f ρ = some d): zi f ρ = some (.rt d, ρ):=by unfold zi;rw [h1,pf]
theorem qoo(h1:f ρ = some d): j7 i f ρ = some (.nx, ρ.set i (some (.fz d))):=by unfold j7;rw [h1,pf]
theorem qiu(h1:fa ρ = some ds): q18 i fa ρ = some (.nx, ρ.set i (some (.ow ds))):=by unfold q18;rw [h1,pf]
theorem qi2(h0 : ρ[i]? = some (some (.ow ds)))(h1:f ρ = some d)(hl:ds.length<lim): q2j i f ρ = some (.nx, ρ.set i (some (.ow (ds++[d])))):=by unfold q2j q3g;rw [h0];simp only [gm,h1,m4 hl]
theorem q8v{it:FA}{b:FB}{body:FS}(h1:it ρ = some ds)(h2:runFor b body ds ρ = r): q0c it b body ρ = r:=by unfold q0c;rw [h1,gm];exact h2
theorem qiv(h1:frz i ρ = ρ1)(h2:u ρ1=r): q2k i u ρ = r:=by unfold q2k;rw [h1];exact h2
theorem q4b(h:u (ds.map (fun d=>some (.fz d))++List.replicate (n-ds.length) none)=some (.rt d, ρ')): ze n u ds=some d:=by unfold ze;rw [h]
end
theorem eV0(d:D)(r:Rho): eV 0 (some (.fz d) :: r)=some d:=rfl
theorem eVs(i:Nat)(x:Option B)(r:Rho): eV (i+1) (x :: r)=eV i r:=rfl
theorem qiw(ds:List D): x9 [.tup ds]=some (.int ds.length):=rfl
theorem qix(ds:List D): x9 [.lst ds]=some (.int ds.length):=rfl
theorem qph(i:Int): (match D.int i with | .int i=>some (some i)|_=>none:Option (Option Int))=some (some i):=rfl
theorem qpi(ds:List D)(r:Rho): frz 0 (some (.ow ds) :: r)=some (.fz (.lst ds)) :: r:=rfl
theorem frzs(i:Nat)(x:Option B)(r:Rho): frz (i+1) (x :: r)=x :: frz i r:=by
 unfold frz;rw [uk];cases h:r[i]? with
 | none=>rfl
 | some y=>
  cases y with
  | none=>rfl
  | some z=>cases z <;> rfl
theorem vm(a b:Int)(h : -(2 ^ 64)<b/\b<2 ^ 64): j0 (.int a) (.int b)=some (.int (a*b)):=by
 have h2:(decide (-(2 ^ 64)<b)&&decide (b<2 ^ 64))=true:=by rw [n8 h.1,n8 h.2];rfl
 show(if((decide (-(2 ^ 64)<a)&&decide (a<2 ^ 64)) || (decide (-(2 ^ 64)<b)&&decide (b<2 ^ 64)))=true then some (D.int (a*b)) else none).or _=_;rw [h2,Bool.or_true,m4 rfl,g4e]
theorem q0i(a b:Int)(h : -(2 ^ 64)<a/\a<2 ^ 64): j0 (.int a) (.int b)=some (.int (a*b)):=by
 have h2:(decide (-(2 ^ 64)<a)&&decide (a<2 ^ 64))=true:=by rw [n8 h.1,n8 h.2];rfl
 show(if((decide (-(2 ^ 64)<a)&&decide (a<2 ^ 64)) || (decide (-(2 ^ 64)<b)&&decide (b<2 ^ 64)))=true then some (D.int (a*b)) else none).or _=_;rw [h2,Bool.true_or,m4 rfl,g4e]
theorem qpj(ds:List D)(i:Int): oIx (.lst ds) (.int i)=atI ds i:=rfl
theorem qi3(ds:List D)(i:Int): oIx (.tup ds) (.int i)=atI ds i:=rfl
theorem qko{α : Type}(xs:List α)(n:Nat): atI xs (no_index (OfNat.ofNat n:Int))=xs[n]? :=by
 show atI xs (n:Int)=xs[n]?;rw [qcs (show(0:Int)<=(n:Int) by omega)]
 rfl
theorem q0f{α : Type}(xs:List α)(n:Nat): atI xs (n:Int)=xs[n]? :=by
 rw [qcs (show(0:Int)<=(n:Int) by omega)]
 rfl
theorem qkp(ds:List D): qio [.lst ds]=some ds:=rfl
theorem qkq(ds:List D): qio [.tup ds]=some ds:=rfl
theorem q1k(ds:List D): q0m [.lst ds]=some (.tup ds):=rfl
theorem qi4(ds:List D): q0m [.tup ds]=some (.tup ds):=rfl
theorem qe9(ds:List D)(r:Rho): q3g 0 (some (.ow ds) :: r)=some ds:=rfl
theorem qea(i:Nat)(x:Option B)(r:Rho): q3g (i+1) (x :: r)=q3g i r:=rfl
theorem je{n:Nat}{u:FS}{ds:List D}{d:D}(h:(u (ds.map (fun d=>some (.fz d))++List.replicate (n-ds.length) none)).map Prod.fst=some (.rt d)): ze n u ds=some d:=by
 cases e:u (ds.map (fun d=>some (.fz d))++List.replicate (n-ds.length) none) with
 | none=>rw [e] at h;cases h
 | some p=>
  obtain⟨fl, ρ'⟩:=p;rw [e] at h;have h':fl=.rt d:=by simpa using h
  subst h';exact q4b e
theorem qkr:z8 .int .non=false/\(∀b:Bool,z8 .int (.bl b)=true)/\(∀i:Int,z8 .int (.int i)=true)/\(∀x:Str,z8 .int (.str x)=false)/\(∀ds:List D,z8 .int (.tup ds)=false)/\(∀ds:List D,z8 .int (.lst ds)=false)/\(∀(ks:List Key) (vs:List D),z8 .int (.dct ks vs)=false)/\(∀(ks:List (List Int)) (vs:List D),z8 .int (.dtt ks vs)=false)/\z8 .bool .non=false/\(∀b:Bool,z8 .bool (.bl b)=true)/\(∀i:Int,z8 .bool (.int i)=false)/\(∀x:Str,z8 .bool (.str x)=false)/\(∀ds:List D,z8 .bool (.tup ds)=false)/\(∀ds:List D,z8 .bool (.lst ds)=false)/\(∀(ks:List Key) (vs:List D),z8 .bool (.dct ks vs)=false)/\(∀(ks:List (List Int)) (vs:List D),z8 .bool (.dtt ks vs)=false)/\z8 .tuple .non=false/\(∀b:Bool,z8 .tuple (.bl b)=false)/\(∀i:Int,z8 .tuple (.int i)=false)/\(∀x:Str,z8 .tuple (.str x)=false)/\(∀ds:List D,z8 .tuple (.tup ds)=true)/\(∀ds:List D,z8 .tuple (.lst ds)=false)/\(∀(ks:List Key) (vs:List D),z8 .tuple (.dct ks vs)=false)/\(∀(ks:List (List Int)) (vs:List D),z8 .tuple (.dtt ks vs)=false)/\z8 .list .non=false/\(∀b:Bool,z8 .list (.bl b)=false)/\(∀i:Int,z8 .list (.int i)=false)/\(∀x:Str,z8 .list (.str x)=false)/\(∀ds:List D,z8 .list (.tup ds)=false)/\(∀ds:List D,z8 .list (.lst ds)=true)/\(∀(ks:List Key) (vs:List D),z8 .list (.dct ks vs)=false)/\(∀(ks:List (List Int)) (vs:List D),z8 .list (.dtt ks vs)=false)/\z8 .str .non=false/\(∀b:Bool,z8 .str (.bl b)=false)/\(∀i:Int,z8 .str (.int i)=false)/\(∀x:Str,z8 .str (.str x)=true)/\(∀ds:List D,z8 .str (.tup ds)=false)/\(∀ds:List D,z8 .str (.lst ds)=false)/\(∀(ks:List Key) (vs:List D),z8 .str (.dct ks vs)=false)/\(∀(ks:List (List Int)) (vs:List D),z8 .str (.dtt ks vs)=false)/\z8 .dict .non=false/\(∀b:Bool,z8 .dict (.bl b)=false)/\(∀i:Int,z8 .dict (.int i)=false)/\(∀x:Str,z8 .dict (.str x)=false)/\(∀ds:List D,z8 .dict (.tup ds)=false)/\(∀ds:List D,z8 .dict (.lst ds)=false)/\(∀(ks:List Key) (vs:List D),z8 .dict (.dct ks vs)=true)/\(∀(ks:List (List Int)) (vs:List D),z8 .dict (.dtt ks vs)=true):=by
 refine⟨?_,?_,?_,?_,?_,?_,?_,?_,?_,?_,?_,?_,?_,?_,?_,?_,?_,?_,?_,?_,?_,?_,?_,?_,?_,?_,?_,?_,?_,?_,?_,?_,?_,?_,?_,?_,?_,?_,?_,?_,?_,?_,?_,?_,?_,?_,?_,?_⟩ <;> intros <;> rfl
theorem q4w{x:Int}{n:Nat}(hn:0<n): ∃k:Nat,k<n/\oMod (.int x) (.int (n:Int))=some (.int (k:Int)):=by
 have h1:=g18 x (show(n:Int)≠0 by omega);have h2:=g1q x (show(0:Int)<(n:Int) by omega);refine⟨(x%n).toNat,by omega,?_⟩;rw [qal _ _ (by omega),g1f h1]
end DL
open PySem PyProof.Rows L2 DL
local macro_rules | `(tactic| simp! [$a,*])=> `(tactic| simp (config:={decide:=true,implicitDefEqProofs:=false}) only [ze,z6,sIf,j7,zi,qod,kq,q18,qpa,qpb,qoe,q0c,q2k,qog,eOp,eC,eV0,eVs,qk,qa,qf,za,eL,yo,q4n,eSl,oNo,oAt,qph,qp9,jr,q1w,bT,bOr,qdi,eOr,qh0,eIf,q5c,qkr,eUn,isB,qdh,q1b,qiw,qix,qpi,frzs,vg,q1x,qt,qoj,qpe,bN,xx,zg,xw,yq,qmm,gd,g04,ph,g1j,gr,Nat.reduceAdd,Nat.reduceSub,Nat.reduceEqDiff,List.replicate,g0w,g0p,g12,List.set_cons_zero,List.set_cons_succ,List.set_nil,List.getElem?_cons_zero,uk,gm,Option.bind_none,pf,Option.map_none,g26,Option.join_none,qal,qam,qfx,qhz,vm,q0i,qcr,qkj,qnd,qkk,qkl,qkm,qkn,q1k,qi4,ny,nt,decide_true,g4k,m7,g10,g2x,and_true,true_and,and_self,ite_true,ite_false,Int.reduceSub,Int.reduceMod,Int.reduceAdd,Int.reduceDiv,Int.reducePow,Int.reduceMul,Int.reduceNeg,Int.reduceEq,Int.reduceLT,Int.reduceLE,Int.reduceToNat,qpj,qi3,qko,qkp,qkq,q5l,reduceCtorEq,List.isEmpty_nil,List.isEmpty_cons,List.isEmpty_iff, $a,*])
namespace My
open PySem PyProof.Rows L2 DL
abbrev TI(ns:List Int): D:=.tup (ns.map .int)
abbrev Run:=Int×List Int
abbrev j5(r:Run): D:=.tup [.int r.1,TI r.2]
abbrev q08(w:Nat)(rs:List Run): D:=.tup [.int (w:Int),.tup (rs.map j5)]
def bit(m i:Nat): Bool:=m / 2 ^ i%2==1
def qv(n m:Nat): List Int:=((List.range n).filter fun i=>bit m i).map fun i:Nat=>(i:Int)
def mk(b:List Int): Int:=(b.map fun x=>(2:Int) ^ x.toNat).sum
theorem qct(a b:Nat): Builtin.bitAnd (a:Int) (b:Int)=((a &&& b:Nat):Int):=by
 unfold Builtin.bitAnd;rw [n8 (by omega:(0:Int)<=(a:Int)),n8 (by omega:(0:Int)<=(b:Int))];simp
theorem qg0(a b:Nat): oBand (.int (a:Int)) (.int (b:Int))=some (.int ((a &&& b:Nat):Int)):=by
 show some (D.int (Builtin.bitAnd (a:Int) (b:Int)))=_;rw [qct]
theorem q8b(a b:Int): oBand (.int a) (.int b)=some (.int (Builtin.bitAnd a b)):=rfl
theorem qks(m i:Nat): oShr (.int (m:Int)) (.int (i:Int))=some (.int ((m / 2 ^ i:Nat):Int)):=by
 rw [qi0 _ _ (by omega),ud]
 norm_cast
theorem q7r(n:Nat): z0 0 n=(List.range n).map fun i:Nat=>.int (i:Int):=by
 unfold z0;simp only [g4l]
theorem q33(m:Nat): z7 [.int (m:Int)]=some (TI (qv 12 m)):=by
 have c:qw (bN 0) (jr oEq (eOp oBand (eOp oShr (eV 1) (eV 0)) (eC (.int 1))) (eC (.int 1))) (eV 0) [none,some (.fz (.int (m:Int)))] (z0 0 12)=some ((qv 12 m).map D.int):=by
  have:=q32 (b:=bN 0) (c:=jr oEq (eOp oBand (eOp oShr (eV 1) (eV 0)) (eC (.int 1))) (eC (.int 1))) (f:=eV 0) (ρ :=[none,some (.fz (.int (m:Int)))]) (fun d=>match d with | .int x=>bit m x.toNat|_=>false) id (ds:=z0 0 12) fun d hd=>by
   rw [q7r] at hd;obtain⟨i,_,rfl⟩:=nu.mp hd;refine⟨_,rfl,qe7 (yg (yg (x_v rfl) (x_v rfl) (qks m i)) x_c (qg0 _ 1)) x_c ?_,fun _=>rfl⟩;rw [qcr]
   congr 2
   show decide _=bit m (i:Int).toNat;rw [ud,bit,Nat.and_one_is_mod,g0k,g1v,g2d];omega
  rw [this,List.map_id,q7r,List.filter_map,qv,nv]
  rfl
 have hr:iR1 (qa (eC (.int 12)) qf) [some (.fz (.int (m:Int)))]=some (z0 0 12):=rfl;have hl:(z0 0 12).length<=lim:=by decide
 (refine je ?_;simp! [vq,zm,hr,hl,c,q1k])
theorem q34:∀k:Nat,k<64->qv (Builtin.Int.intBits (k:Int)) k=qv 12 k/\mk (qv 12 k)=(k:Int):=by decide
theorem qi5:∀a:Nat,a<64->∀b:Nat,b<64->qv 12 a=qv 12 b->a=b:=fun a ha b hb h=>by
 have h1:=(q34 a ha).2;have h2:=(q34 b hb).2;rw [h,h2] at h1;omega
theorem q5m(n m:Nat): (qv n m).length<=n:=by
 unfold qv;rw [gr];exact ml (tx _ _) (by simp)
theorem qan{n m:Nat}{x:Int}(h:x∈qv n m): ∃i:Nat,x=(i:Int)/\i<n:=by
 unfold qv at h;obtain⟨i,hi,rfl⟩:=nu.mp h;exact⟨i,rfl,by simpa using(mx.mp hi).1⟩
theorem qkt(b:List Int)(hb:∀x∈b,0<=x/\x<100)(ρ : Rho): qw (bN 0) zl (eOp oShl (eC (.int 1)) (eV 0)) (none :: ρ) (b.map D.int)=some ((b.map fun x=>(2:Int) ^ x.toNat).map D.int):=by
 have:=q55 (b:=bN 0) (f:=eOp oShl (eC (.int 1)) (eV 0)) (ρ :=none :: ρ) (fun d=>match d with | .int x=>.int (2 ^ x.toNat)|_=>.non) (ds:=b.map D.int) fun d hd=>by
  obtain⟨x,hx,rfl⟩:=nu.mp hd;have:=hb x hx;refine⟨_,rfl,yg x_c (x_v rfl) ?_⟩;rw [q5k 1 x (by omega) (by omega) (by decide),Int.one_mul]
 rw [this,nv,nv]
 rfl
end My
open PySem PyProof.Rows L2 DL
namespace My
open PySem PyProof.Rows L2 DL
def q09(rs:List Run): Prop:=rs.length<=1000/\∀r∈rs,(∀x∈r.2,0<=x/\x<100)/\r.2.length<=1000/\0<=r.1/\∃t,t<64/\r.2=qv 12 t
abbrev mrD(r:Run): D:=.tup [.int r.1,.int (mk r.2)]
theorem qao(w:Nat)(rs:List Run)(h:q09 rs): kh [q08 w rs]=some (.lst (rs.map mrD)):=by
 have hl':rs.length<=lim:=by have:=h.1;show _<=1000000;omega
 have c:qw (xx 2 (zg (bN 0) (zg (bN 1) xw))) zl (za (qa (eV 0) (qa (qk q2o (qa (eL (zm (vg (eV 1)) [none] (bN 0) zl (eOp oShl (eC (.int 1)) (eV 0)))) qf)) qf))) [none,none] (rs.map j5)=some (rs.map mrD):=by
  have hr:=h.2;clear hl' h
  induction rs with
  | nil=>rfl
  | cons r rs ih=>
   have ih':=ih fun x hx=>hr x (gq _ hx);have hl2:r.2.length<=lim:=by have:=(hr r gw).2.1;show _<=1000000;omega
   have c2:=qkt r.2 (hr r gw).1 [];have a:=q1s (r.2.map fun x=>(2:Int) ^ x.toNat);rw [gd];simp! [qw,ih',zm,hl2,c2,a,zl]
   rfl
 (refine je ?_;simp! [kg,zm,hl',c])
def cM(rs:List Run)(k:Nat): Int:=((rs.filter fun r=>decide (Builtin.bitAnd (mk r.2) (k:Int)=(k:Int))).map (·.1)).sum
theorem qku(rs:List Run)(k:Nat): qw (xx 2 (zg (bN 0) (zg (bN 1) xw))) (jr oEq (eOp oBand (eV 1) (eV 2)) (eV 2)) (eV 0) [none,none,some (.fz (.int (k:Int)))] (rs.map mrD)
  = some (((rs.filter fun r=>decide (Builtin.bitAnd (mk r.2) (k:Int)=(k:Int))).map (·.1)).map D.int):=by
 induction rs with
 | nil=>rfl
 | cons r rs ih=>
  rw [gd]
  by_cases hb:Builtin.bitAnd (mk r.2) (k:Int)=(k:Int)
  ·simp! [qw,ih,q8b,hb,tq,decide_true,ny]
  ·simp! [qw,ih,q8b,hb,tq,g4k,nt,m7]
theorem q1t(x0:Option B)(rs:List Run)(h:q09 rs): ∀(n k:Nat) (acc:List D) (b:Option B),acc.length+n<=1000->∃b',
  runFor (bN 3) yl (z0 (k:Int) n) [x0,some (.fz (.lst (rs.map mrD))),some (.ow acc),b]=some (.nx,[x0,some (.fz (.lst (rs.map mrD))),some (.ow (acc++(List.range' k n).map fun i:Nat=>.int (cM rs i))),b'])
 | 0,k,acc,b,_=>⟨b,by simp [z0,runFor]⟩
 | n+1,k,acc,b,hn=>by
  have hl':rs.length<=lim:=by have:=h.1;show _<=1000000;omega
  have hl2:acc.length<lim:=by show _<1000000;omega
  obtain⟨b',ih⟩:=q1t x0 rs h n (k+1) (acc++[.int (cM rs k)]) (some (.fz (.int (k:Int)))) (by simp;omega);have c:=qku rs k;have a:q2o [.lst (((rs.filter fun r=>decide (Builtin.bitAnd (mk r.2) (k:Int)=(k:Int))).map (·.1)).map D.int)]=some (.int (cM rs k)):=q1s _;have body:yl [x0,some (.fz (.lst (rs.map mrD))),some (.ow acc),some (.fz (.int (k:Int)))]=some (.nx,[x0,some (.fz (.lst (rs.map mrD))),some (.ow (acc++[.int (cM rs k)])),some (.fz (.int (k:Int)))]):=by
   refine qi2 rfl ?_ hl2;simp! [zm,hl',c,a]
  refine⟨b',?_⟩;rw [q56,xm (b:=bN 3) rfl body,show(k:Int)+1=((k+1:Nat):Int) by omega,ih,List.range'_succ];simp
theorem q8s(w:Nat)(rs:List Run)(h:q09 rs)(hw:w<=6): yw [q08 w rs]=some (.lst ((List.range (2 ^ w)).map fun i:Nat=>.int (cM rs i))):=by
 have h2:2 ^ w<=64:=ml (uw (by decide) hw) (by decide);obtain⟨b',e⟩:=q1t (some (.fz (q08 w rs))) rs h (2 ^ w) 0 [] none (by simp;omega);have m:=qao w rs h;have hr:iR1 (qa (eOp oShl (eC (.int 1)) (eOp oIx (eV 0) (eC (.int 0)))) qf) [some (.fz (q08 w rs)),some (.fz (.lst (rs.map mrD))),some (.ow []),none]=some (z0 ((0:Nat):Int) (2 ^ w)):=by
  have hs:oShl (.int 1) (.int (w:Int))=some (.int ((2 ^ w:Nat):Int)):=by
   rw [q5k 1 (w:Int) (by omega) (by omega) (by decide),ud,Int.one_mul]
   norm_cast
  have ha:qa (eOp oShl (eC (.int 1)) (eOp oIx (eV 0) (eC (.int 0)))) qf [some (.fz (q08 w rs)),some (.fz (.lst (rs.map mrD))),some (.ow []),none]=some [.int ((2 ^ w:Nat):Int)]:=zj (yg x_c (yg (x_v rfl) x_c rfl) hs) xr;have h3:(0:Int)<=((2 ^ w:Nat):Int):=g31 _;have h4:((2 ^ w:Nat):Int)<=64:=by exact_mod_cast h2
  rw [q7q _ _ _ ha (g3s (by decide) h3) (Int.lt_of_le_of_lt h4 (by decide)),ud]
  rfl
 have hlst:yo qf [some (.fz (q08 w rs)),some (.fz (.lst (rs.map mrD))),none,none]=some []:=rfl;rw [g0p, <- List.range_eq_range'] at e;refine q4b (q07 (qoo (q49 (zj (x_v rfl) xr) rfl m)) (q07 (qiu hlst) (q07 (q8v hr e) (qiv rfl (qe8 (x_v rfl))))))
end My
open PySem PyProof.Rows L2 DL
namespace My
open PySem PyProof.Rows L2 DL
theorem q23(ns:List Int)(k:Nat): ∃c:Int,jb [.lst (ns.map .int),.int (k:Int)]=some (.int c):=by
 by_cases h:(k:Int)<(ns.length:Int)
 ·have hk:k<ns.length:=by omega
  have hi:atI (ns.map D.int) (k:Int)=some (.int ns[k]):=by rw [q0f,mh,tj hk];rfl
  refine⟨ns[k],?_⟩
  (refine je ?_;simp! [yz,h,hi])
 ·refine⟨0,?_⟩
  (refine je ?_;simp! [yz,h])
theorem q0a(ns:List Int)(hl:ns.length<=63)(k:Int)(h0:0<=k)(h1:k<=1000000): ∃m,zr [.lst (ns.map .int),.int k]=some (.int m)/\0<=m/\m<2147483563:=by
 have hk7:j0 (.int k) (.int 7919)=some (.int (k*7919)):=vm _ _ ⟨by decide,by decide⟩;have h7k:j0 (.int 7) (.int k)=some (.int (7*k)):=q0i _ _ ⟨by decide,by decide⟩;have h2k:j0 (.int 2) (.int k)=some (.int (2*k)):=q0i _ _ ⟨by decide,by decide⟩;have h2kk:j0 (.int (2*k)) (.int k)=some (.int (2*k*k)):=vm _ _ ⟨by omega,by omega⟩;have hkk:0<=2*k*k/\2*k*k<=2000000000000:=by
  have a:0<=k*k:=Int.mul_nonneg h0 h0;have b:k*k<=1000000*1000000:=Int.mul_le_mul h1 h1 h0 (by decide);rw [Int.mul_assoc];omega
 have hc:∀x:Int,j0 (.int x) (.int (48271+2*k*k))=some (.int (x*(48271+2*k*k))):=fun x=>vm _ _ ⟨by omega,by omega⟩;have hx:∀x:Int,j0 (.int (x%2147483629)) (.int (x%2147483629))=some (.int ((x%2147483629)*(x%2147483629))):=fun x=>
  vm _ _ ⟨by have:=g18 x (show(2147483629:Int)≠0 by decide);omega,by have:=g1q x (show(0:Int)<2147483629 by decide);omega⟩
 have hy:∀x:Int,j0 (.int x) (.int (69621+k))=some (.int (x*(69621+k))):=fun x=>vm _ _ ⟨by omega,by omega⟩;have fin:∀x:Int,0<=x%2147483563/\x%2147483563<2147483563:=fun x=>⟨g18 x (by decide),g1q x (by decide)⟩
 by_cases hn:0<ns.length
 ·obtain⟨j,hj,hm⟩:=q4w (x:=k) hn
  have hn':(0:Int)<(ns.length:Int):=by omega
  have hi:atI (ns.map D.int) (j:Int)=some (.int ns[j]):=by rw [q0f,mh,tj hj];rfl
  have hd:oDiv (.int k) (.int (ns.length:Int))=some (.int (k / (ns.length:Int))):=qam _ _ hn' (by omega);have h11:∀x:Int,j0 (.int 11) (.int x)=some (.int (11*x)):=fun x=>q0i _ _ ⟨by decide,by decide⟩;simp! [zr,y8,hk7,h7k,h2k,h2kk,hc,hx,hy,hm,hn',hi,hd,h11];exact⟨_,rfl,fin _⟩
 ·have hn':¬(0:Int)<(ns.length:Int):=by omega
  simp! [zr,y8,hk7,h7k,h2k,h2kk,hc,hx,hy,hn'];exact⟨_,rfl,fin _⟩
def runOf(n:Int)(w:Nat)(most:Int): Run:=(1+n / 4096%most,qv 12 (n%2 ^ w).toNat)
theorem qcu(w:Nat)(hw:w<=1000): oShl (.int 1) (.int (w:Int))=some (.int (2 ^ w)):=by
 rw [q5k 1 (w:Int) (by omega) (by omega) (by decide),ud,Int.one_mul]
theorem q6z(n:Int)(w:Nat)(most:Int)(hw:w<=6)(hm:0<most): wb [.int n,.int (w:Int),.int most]=some (j5 (runOf n w most)):=by
 have hp:=qcu w (by omega);have hpos:(0:Int)<2 ^ w:=Int.pow_pos (by decide);have ls:=q33 (n%2 ^ w).toNat;rw [g1f (g18 n (by omega))] at ls
 (refine je ?_;simp! [q0o,hp,hm,hpos,ls])
 rfl
def qeb(r:Run): Prop:=(∀x∈r.2,0<=x/\x<100)/\r.2.length<=1000/\0<=r.1/\∃t,t<64/\r.2=qv 12 t
theorem qap(n:Int)(w:Nat)(most:Int)(hw:w<=6)(hm:0<most): qeb (runOf n w most):=by
 have hp:(2:Int) ^ w<=64:=by
  have:2 ^ w<=64:=ml (uw (by decide) hw) (by decide)
  exact_mod_cast this
 have hp0:(0:Int)<2 ^ w:=Int.pow_pos (by decide);have h1:=g18 (n / 4096) (by omega:most≠0);have h2:=g1q n hp0;have h3:=g18 n (by omega:(2:Int) ^ w≠0);refine⟨fun x hx=>?_,ml (q5m 12 _) (by decide),by show 0<=1+n / 4096%most;omega,_,?_,rfl⟩
 case refine_2=>omega
 obtain⟨i,rfl,hi⟩:=qan hx;omega
theorem q2f(x0 x2:Option B)(w:Nat)(most:Int)(hw:w<=6)(hm:0<most)(t:Rho): ∀(cs:List Int) (acc:List Run) (b5:Option B),acc.length+cs.length<=1000->∃b5',
  runFor (bN 5) vt (cs.map D.int) ([x0,some (.fz (.int (w:Int))),x2,some (.fz (.int most)),some (.ow (acc.map j5)),b5]++t) =
   some (.nx,[x0,some (.fz (.int (w:Int))),x2,some (.fz (.int most)),some (.ow ((acc++cs.map fun n=>runOf n w most).map j5)),b5']++t)
 | [],acc,b5,_=>⟨b5,by simp [runFor]⟩
 | c :: cs,acc,b5,h=>by
  have lr:=q6z c w most hw hm;have hl:acc.length<lim:=by simp at h;show _<1000000;omega
  obtain⟨b5',ih⟩:=q2f x0 x2 w most hw hm t cs (acc++[runOf c w most]) (some (.fz (.int c))) (by simp at h ⊢;omega);have body:vt ([x0,some (.fz (.int (w:Int))),x2,some (.fz (.int most)),some (.ow (acc.map j5)),some (.fz (.int c))]++t)=some (.nx,[x0,some (.fz (.int (w:Int))),x2,some (.fz (.int most)),some (.ow ((acc++[runOf c w most]).map j5)),some (.fz (.int c))]++t):=by
   simp! [vt,lr,q2j,qe9,qea,hl,pj]
  refine⟨b5',?_⟩;rw [gd,xm (b:=bN 5) rfl body,ih];simp
theorem q2g(ns:List Int)(hns:ns.length<=63)(x2:Option B)(w:Nat)(most base:Int)(hw:w<=6)(hm:0<most)(b5:Option B): ∀(n:Nat) (k:Int) (acc:List Run) (b7 b8:Option B),0<=k->k+n<=1000->acc.length+n<=1000->(∀r∈acc,qeb r) ->
  ∃(rs:List Run) (b7' b8':Option B),runFor (bN 7) xc (z0 k n) [some (.fz (.lst (ns.map .int))),some (.fz (.int (w:Int))),x2,some (.fz (.int most)),some (.ow (acc.map j5)),b5,some (.fz (.int base)),b7,b8] =
   some (.nx,[some (.fz (.lst (ns.map .int))),some (.fz (.int (w:Int))),x2,some (.fz (.int most)),some (.ow (rs.map j5)),b5,some (.fz (.int base)),b7',b8'])/\rs.length=acc.length+n/\∀r∈rs,qeb r
 | 0,k,acc,b7,b8,_,_,_,ha=>⟨acc,b7,b8,by simp [z0,runFor],by simp,ha⟩
 | n+1,k,acc,b7,b8,h0,h1,h2,ha=>by
  obtain⟨m1,e1,p1,q1⟩:=q0a ns hns (10+k) (by omega) (by omega);have hl:acc.length<lim:=by show _<1000000;omega
  have body:∃N b8',xc [some (.fz (.lst (ns.map .int))),some (.fz (.int (w:Int))),x2,some (.fz (.int most)),some (.ow (acc.map j5)),b5,some (.fz (.int base)),some (.fz (.int k)),b8] =
    some (.nx,[some (.fz (.lst (ns.map .int))),some (.fz (.int (w:Int))),x2,some (.fz (.int most)),some (.ow ((acc++[runOf N w most]).map j5)),b5,some (.fz (.int base)),some (.fz (.int k)),b8']):=by
   have lr:=fun n=>q6z n w most hw hm;have hor:∀a b:Int,oBor (.int a) (.int b)=some (.int (Builtin.bitOr a b)):=fun _ _=>rfl;have ht:∀x:Int,j0 (.int x) (.int 4096)=some (.int (x*4096)):=fun x=>vm _ _ ⟨by decide,by decide⟩
   by_cases c2:m1%3=0
   ·simp! [xc,e1,c2,lr,hor,ht,q2j,qe9,qea,hl,pj]
    exact⟨_,_,rfl⟩
   ·simp! [xc,e1,c2,lr,q2j,qe9,qea,hl,pj]
    exact⟨_,_,rfl⟩
  obtain⟨N,b8',eb⟩:=body;obtain⟨rs,c7,c8,er,el,ho⟩:=q2g ns hns x2 w most base hw hm b5 n (k+1) (acc++[runOf N w most]) (some (.fz (.int k))) b8' (by omega) (by omega) (by simp;omega) (fun r hr=>by
   rcases pb.mp hr with hr|hr
   ·exact ha r hr
   ·rw [my.mp hr];exact qap N w most hw hm)
  refine⟨rs,c7,c8,?_,by rw [el];simp;omega,ho⟩;rw [q56,xm (b:=bN 7) rfl eb,er]
theorem qbm(ns:List Int)(hl:ns.length<=63)(w:Nat)(hw:w<=6)(mr:Nat)(hmr:mr<=61): ∃rs:List Run,wt [.lst (ns.map .int),.int (w:Int),.int (mr:Int)]=some (q08 w rs)/\q09 rs:=by
 obtain⟨m0,e0,p0,q0⟩:=q0a ns hl 0 (by decide) (by decide);obtain⟨m1,e1,p1,q1⟩:=q0a ns hl 1 (by decide) (by decide);obtain⟨m2,e2,p2,q2⟩:=q0a ns hl 2 (by decide) (by decide);obtain⟨c0,ec⟩:=q23 ns 0;rw [show((0:Nat):Int)=0 from rfl] at ec;obtain⟨most,emost,hmost⟩:∃most:Int,atI [D.int 1,D.int 3,D.int 9,D.int 1000000000000] (m0%4)=some (.int most)/\0<most:=by
  have:m0%4=0\/m0%4=1\/m0%4=2\/m0%4=3:=by omega
  rcases this with e|e|e|e <;> rw [e]
  ·exact⟨1,rfl,by decide⟩
  ·exact⟨3,rfl,by decide⟩
  ·exact⟨9,rfl,by decide⟩
  ·exact⟨1000000000000,rfl,by decide⟩
 have hpw:oPow (.int 10) (.int 12)=some (.int 1000000000000):=by
  rw [q5l 10 12 (by decide) (by decide) (by decide)];rfl
 by_cases hc:c0%2=0
 ·have sl:∃cs:List Int,oSl (.lst (ns.map D.int)) (some 2) (some (2+(mr:Int)))=some (.lst (cs.map D.int))/\cs.length<=63:=by
   refine⟨(ns.drop (min 2 ns.length)).take (min (2+mr) ns.length-min 2 ns.length),?_,?_⟩
   ·show some (D.lst (DL.cutD (ns.map D.int) (some ((2:Nat):Int)) (some (2+(mr:Int)))))=_
    rw [show(2:Int)+(mr:Int)=((2+mr:Nat):Int) by omega];unfold DL.cutD;rw [HT.sIx_nat,HT.sIx_nat,gr,List.map_take,List.map_drop]
   ·rw [tf,uo];omega
  obtain⟨cs,sl,hcs⟩:=sl;obtain⟨b5,e⟩:=q2f (some (.fz (.lst (ns.map .int)))) (some (.fz (.int (mr:Int)))) w most hw hmost [none,none,none] cs [] none (by simp;omega);refine⟨cs.map fun n=>runOf n w most,?_,?_,?_⟩
  ·simp only [g04,g0p,g0w] at e
   (refine je ?_;simp! [k6,e0,ec,emost,hpw,hc,sl,e,q1k])
  ·rw [gr];omega
  ·intro r hr
   obtain⟨n,_,rfl⟩:=nu.mp hr;exact qap n w most hw hmost
 ·obtain⟨tn,htn,etn⟩:=q4w (x:=m2) (n:=mr+1) (by omega)
  rw [show((mr+1:Nat):Int)=(mr:Int)+1 by omega] at etn;have hpos:(0:Int)<2 ^ w:=Int.pow_pos (by decide);have hp:=qcu w (by omega);obtain⟨rs,b7,b8,e,el,ho⟩:=q2g ns hl (some (.fz (.int (mr:Int)))) w most (m1%2 ^ w) hw hmost none tn 0 [] none none (by decide) (by omega) (by simp;omega) (by simp);have hr:iR1 (qa (eOp oMod (qk (qt 2 [] zr) (qa (eV 0) (qa (eC (.int 2)) qf))) (eOp zo (eV 2) (eC (.int 1)))) qf) [some (.fz (.lst (ns.map .int))),some (.fz (.int (w:Int))),some (.fz (.int (mr:Int))),some (.fz (.int most)),some (.ow []),none,some (.fz (.int (m1%2 ^ w))),none,none]=some (z0 0 tn):=by
   have ha:qa (eOp oMod (qk (qt 2 [] zr) (qa (eV 0) (qa (eC (.int 2)) qf))) (eOp zo (eV 2) (eC (.int 1)))) qf [some (.fz (.lst (ns.map .int))),some (.fz (.int (w:Int))),some (.fz (.int (mr:Int))),some (.fz (.int most)),some (.ow []),none,some (.fz (.int (m1%2 ^ w))),none,none]=some [.int (tn:Int)]:=
    zj (yg (q49 (zj (x_v rfl) (zj x_c xr)) rfl e2) (yg (x_v rfl) x_c rfl) etn) xr
   rw [q7q _ _ _ ha (by omega) (by omega),ud]
  refine⟨rs,?_,by rw [el];simp;omega,ho⟩;simp only [g04] at e
  (refine je ?_;simp! [k6,e0,e1,ec,emost,hpw,hc,hp,hpos,hr,e,q1k])
theorem qaq(ns:List Int)(cs:List Int)(hc:0<cs.length)(hc2:cs.length<=1000): ∃L:Int,j3 [.lst (ns.map .int),.lst (cs.map .int)]=some (.int L):=by
 obtain⟨c1,ec⟩:=q23 ns 1;rw [show((1:Nat):Int)=1 from rfl] at ec;have hpw:oPow (.int 10) (.int 15)=some (.int 1000000000000000):=by
  rw [q5l 10 15 (by decide) (by decide) (by decide)];rfl
 have r5:c1%5=0\/c1%5=1\/c1%5=2\/c1%5=3\/c1%5=4:=by omega
 obtain⟨j,hj,hm⟩:=q4w (x:=c1 / 5) hc;have hi:atI (cs.map D.int) (j:Int)=some (.int cs[j]):=by rw [q0f,mh,tj hj];rfl
 have hmax:∀a b:Int,oMax [.int a,.int b]=some (.int (if b>a then b else a)):=fun _ _=>rfl;rcases r5 with e|e|e|e|e
 ·simp! [j3,jj,ec,hpw,e]
  exact⟨_,rfl⟩
 ·simp! [j3,jj,ec,hpw,e]
  exact⟨_,rfl⟩
 ·simp! [j3,jj,ec,hpw,e,hm,hi,hmax]
  exact⟨_,rfl⟩
 ·simp! [j3,jj,ec,hpw,e,hm,hi,hmax]
  exact⟨_,rfl⟩
 ·simp! [j3,jj,ec,hpw,e,hm,hi,hmax]
  exact⟨_,rfl⟩
end My
open PySem PyProof.Rows L2 DL
namespace My
open PySem PyProof.Rows L2 DL
def q35(lt:Nat->Nat->Bool)(x:Nat): List Nat->List Nat
 | []=>[x]
 | y :: r=>if lt y x=true then y :: q35 lt x r else x :: y :: r
def zp(lt:Nat->Nat->Bool): List Nat->List Nat
 | []=>[]
 | x :: r=>q35 lt x (zp lt r)
theorem q8c(lt:Nat->Nat->Bool)(x:Nat): ∀l,(q35 lt x l).Perm (x :: l)
 | []=>.refl _
 | y :: r=>by
  unfold q35
  split
  ·exact((q8c lt x r).cons y).trans (.swap x y r)
  ·exact .refl _
theorem vn(lt:Nat->Nat->Bool): ∀l,(zp lt l).Perm l
 | []=>.refl _
 | x :: r=>(q8c lt x _).trans ((vn lt r).cons x)
theorem qar(f:Nat->D×D)(x:Nat): ∀l,q3n (f x) (l.map f)=(q35 (fun a b=>ltT (f a).1 (f b).1) x l).map f
 | []=>rfl
 | y :: r=>by
  rw [gd];unfold q3n q35
  by_cases h:ltT (f y).1 (f x).1=true
  ·rw [m4 h,m4 h,qar f x r,gd]
  ·rw [m9 h,m9 h,gd,gd]
theorem yx(f:Nat->D×D): ∀l,yj (l.map f)=(zp (fun a b=>ltT (f a).1 (f b).1) l).map f
 | []=>rfl
 | x :: r=>by
  rw [gd];unfold yj zp;rw [yx f r,qar]
theorem q70{l1 l2:Nat->Nat->Bool}(x:Nat): ∀l,(∀a∈l,l1 a x=l2 a x)->q35 l1 x l=q35 l2 x l
 | [],_=>rfl
 | y :: r,h=>by
  unfold q35;rw [h y gw,q70 x r fun a ha=>h a (gq _ ha)]
theorem q57{l1 l2:Nat->Nat->Bool}: ∀l,(∀a∈l,∀b∈l,l1 a b=l2 a b)->zp l1 l=zp l2 l
 | [],_=>rfl
 | x :: r,h=>by
  unfold zp;rw [q57 r fun a ha b hb=>h a (gq _ ha) b (gq _ hb)];exact q70 x _ fun a ha=>h a (gq _ ((vn l2 r).mem_iff.mp ha)) x gw
def zu(k:Nat): D:=.tup [.int ((qv 12 k).length:Int),TI (qv 12 k)]
def ltO(a b:Nat): Bool:=ltT (zu a) (zu b)
theorem q5n:∀ns:List Int,kDL (ns.map D.int)=true
 | []=>by simp [kDL]
 | n :: ns=>by simp only [gd,kDL,kD,q5n ns,g0r]
theorem q5o:∀ns ms:List Int,shL (ns.map D.int) (ms.map D.int)=true
 | [],ms=>by simp [shL]
 | n :: ns,[]=>by simp [shL]
 | n :: ns,m :: ms=>by simp only [gd,shL,shD,q5o ns ms,g0r]
theorem q4c:∀ns:List Int,ju (ns.map D.int)=0
 | []=>by simp [ju]
 | n :: ns=>by simp only [gd,ju,vh,q4c ns];rfl
theorem qas(k:Nat): kD (zu k)=true:=by simp only [zu,TI,kD,kDL,q5n,g0r]
theorem qnh(a b:Nat): shD (zu a) (zu b)=true:=by simp only [zu,TI,shD,shL,q5o,g0r]
theorem qkv(k:Nat): vh (zu k)<=50:=by simp only [zu,TI,vh,ju,q4c];decide
theorem qat:∀ {a b:List Int},a.map D.int=b.map D.int->a=b
 | [],[],_=>rfl
 | [],_ :: _,h=>by cases h
 | _ :: _,[],h=>by cases h
 | x :: a,y :: b,h=>by
  rw [gd,gd] at h;injection h with h1 h2
  injection h1 with h1
  rw [h1,qat h2]
theorem q4x{a b:Nat}(ha:a<64)(hb:b<64)(h1:ltO a b=false)(h2:ltO b a=false): a=b:=by
 have:=lt_eq (qas a) (qas b) h1 h2;unfold zu at this;injection this with this
 injection this with _ this
 injection this with this _
 injection this with this
 exact qi5 a ha b hb (qat this)
theorem qg1(l:List Nat): q0h (l.map zu)=true:=by
 unfold q0h;rw [gv,gv,g0m,gv];refine⟨⟨?_,?_⟩,.inr ⟨?_,?_⟩⟩
 ·rw [uq,mv];exact fun k _=>qas k
 ·rw [uq,mv]
  intro a _;show(List.all _ _)=true;rw [uq,mv];exact fun b _=>qnh a b
 ·rw [uq,mv];exact fun k _=>rfl
 ·rw [uq,mv];exact fun k _=>n8 (qkv k)
theorem qau:∀l:List Nat,l.Nodup->(∀k∈l,k<64)->q3q (l.map zu)=true
 | [],_,_=>rfl
 | k :: l,hn,hl=>by
  rw [gd];unfold q3q;rw [gv];have hn':=g14.mp hn;refine⟨?_,qau l hn'.2 fun x hx=>hl x (gq _ hx)⟩;rw [uq,mv];intro b hb;show(ltO k b || ltO b k)=true;cases h1:ltO k b
  ·cases h2:ltO b k
   ·have:=q4x (hl k gw) (hl b (gq _ hb)) h1 h2
    exact absurd (this ▸ hb) hn'.1
   ·rfl
  ·rfl
theorem q4d(p:Nat->Bool)(l:List Nat)(hl:∀k∈l,k<64): zp ltO (l.filter p)=(zp ltO l).filter p:=by
 have e1:=yx (fun k=>(zu k,D.int (k:Int))) l;have e2:=yx (fun k=>(zu k,D.int (k:Int))) (l.filter p);have e3:((zp ltO l).filter p).map (fun k:Nat=>(zu k,D.int (k:Int)))=yj ((l.filter p).map (fun k:Nat=>(zu k,D.int (k:Int)))):=by
  refine q2q ?_ ?_ ?_
  ·exact((vn ltO l).filter p).map _
  ·rw [uf]
   refine g0t p ?_;have:=q0z (l.map (fun k:Nat=>(zu k,D.int (k:Int))));rw [e1,uf] at this;exact this
  ·intro x hx y hy h1 h2
   obtain⟨a,ha,rfl⟩:=nu.mp hx;obtain⟨b,hb,rfl⟩:=nu.mp hy;rw [q4x (hl a (mx.mp ha).1) (hl b (mx.mp hb).1) h1 h2]
 have e4:=e2.symm.trans e3.symm;have inj:∀ {a b:List Nat},a.map (fun k:Nat=>(zu k,D.int (k:Int)))=b.map (fun k:Nat=>(zu k,D.int (k:Int)))->a=b:=by
  intro a
  induction a with
  | nil=>intro b h;cases b with
   | nil=>rfl
   | cons y b=>cases h
  | cons x a ih=>
   intro b h;cases b with
   | nil=>cases h
   | cons y b=>
    rw [gd,gd] at h;injection h with h1 h2
    injection h1 with _ h1
    injection h1 with h1
    rw [ih h2,show x=y by omega]
 exact inj e4
abbrev q0g(k:Nat): D:=TI (qv 12 k)
def qkw(w:Nat): List Nat:=zp ltO (List.range (2 ^ w))
theorem qec{w:Nat}(hw:w<=6): 2 ^ w<=64:=ml (uw (by decide) hw) (by decide)
end My
open PySem PyProof.Rows L2 DL
namespace My
open PySem PyProof.Rows L2 DL
abbrev pairD(rs:List Run)(k:Nat): D:=.tup [q0g k,.int (cM rs k)]
def oft(w:Nat)(rs:List Run)(L:Int): List Nat:=(qkw w).filter fun k=>decide (L<=cM rs k)
def vp(k:Nat): D:=.tup [.int ((qv 12 k).length:Int),TI (qv 12 k),.int (k:Int)]
theorem qni(k:Nat): kD (vp k)=true:=by simp only [vp,TI,kD,kDL,q5n,g0r]
theorem qnj(a b:Nat): shD (vp a) (vp b)=true:=by simp only [vp,TI,shD,shL,q5o,g0r]
theorem qkx(k:Nat): vh (vp k)<=50:=by simp only [vp,TI,vh,ju,q4c];decide
theorem qg2(l:List Nat): q0h (l.map vp)=true:=by
 unfold q0h;rw [gv,gv,g0m,gv];refine⟨⟨?_,?_⟩,.inr ⟨?_,?_⟩⟩
 ·rw [uq,mv];exact fun k _=>qni k
 ·rw [uq,mv]
  intro a _;show(List.all _ _)=true;rw [uq,mv];exact fun b _=>qnj a b
 ·rw [uq,mv];exact fun k _=>rfl
 ·rw [uq,mv];exact fun k _=>n8 (qkx k)
theorem qnk{a b:Nat}(ha:a<64)(hb:b<64): ltT (vp a) (vp b)=ltO a b:=by
 by_cases e:a=b
 ·subst e
  rw [qfh];exact(qfh (zu a)).symm
 ·unfold vp ltO zu
  rw [jx,jx];simp only [ve,kx];have ne:ltO a b=true\/ltO b a=true:=by
   cases h1:ltO a b
   ·cases h2:ltO b a
    ·exact absurd (q4x ha hb h1 h2) e
    ·exact .inr rfl
   ·exact .inl rfl
  unfold ltO zu at ne;rw [jx,jx] at ne;simp only [ve,kx] at ne
  revert ne
  generalize ltT (D.int ((qv 12 a).length:Int)) (D.int ((qv 12 b).length:Int))=p;generalize ltT (D.int ((qv 12 b).length:Int)) (D.int ((qv 12 a).length:Int))=q;generalize ltT (TI (qv 12 a)) (TI (qv 12 b))=r;generalize ltT (TI (qv 12 b)) (TI (qv 12 a))=s;generalize (ltT (D.int (a:Int)) (D.int (b:Int)) || !ltT (D.int (b:Int)) (D.int (a:Int))&&false)=y;cases p <;> cases q <;> cases r <;> cases s <;> cases y <;> simp
theorem qbn(l:List Nat)(hl:∀k∈l,k<64)(hn:l.length<=1000): v8 [.lst (l.map fun k:Nat=>.int (k:Int))]=some (.lst ((zp ltO l).map fun k:Nat=>.int (k:Int))):=by
 have hl':l.length<=lim:=by show _<=1000000;omega
 have c:qw (bN 0) zl (za (qa (qk x9 (qa (qk (qt 1 [] z7) (qa (eV 0) qf)) qf)) (qa (qk (qt 1 [] z7) (qa (eV 0) qf)) (qa (eV 0) qf)))) [none] (l.map fun k:Nat=>.int (k:Int))=some (l.map vp):=by
  clear hl hn hl'
  induction l with
  | nil=>rfl
  | cons k l ih=>
   have m:=q33 k;rw [gd];simp! [qw,ih,m,zl]
   rfl
 have srt:q3p [.lst (l.map vp)]=some ((zp ltO l).map vp):=by
  unfold q3p;dsimp only;rw [qg2,m4 rfl];have e1:(l.map vp).map (fun d=>(d,d))=l.map fun k=>(vp k,vp k):=by rw [nv];rfl
  rw [e1,yx,q57 (l2:=ltO) l (fun a ha b hb=>qnk (hl a ha) (hl b hb)),nv]
  rfl
 have hl2:(zp ltO l).length<=lim:=by rw [(vn _ _).length_eq];exact hl'
 have c2:qw (xx 3 (zg (bN 0) (zg (bN 1) (zg (bN 2) xw)))) zl (eV 2) [none,none,none] ((zp ltO l).map vp)=some ((zp ltO l).map fun k:Nat=>.int (k:Int)):=by
  generalize zp ltO l=m
  induction m with
  | nil=>rfl
  | cons k m ih=>
   rw [gd];simp! [qw,ih,zl,vp]
 (refine je ?_;simp! [v7,zm,hl',c,srt,hl2,c2])
theorem qi6(w:Nat)(rs:List Run)(hw:w<=6)(l:List Nat)(hl:∀k∈l,k<2 ^ w)(hn:l.length<=1000):
  yc [.lst (l.map fun k:Nat=>.int (k:Int)),.lst ((List.range (2 ^ w)).map fun i:Nat=>.int (cM rs i))]=some (.lst ((zp ltO l).map (pairD rs))):=by
 have h2:=qec hw;have io:=qbn l (fun k hk=>by have:=hl k hk;omega) hn;have hl2:(zp ltO l).length<=lim:=by rw [(vn _ _).length_eq];show _<=1000000;omega
 have hm:∀k∈zp ltO l,k<2 ^ w:=fun k hk=>hl k ((vn ltO l).mem_iff.mp hk);have c:qw (bN 0) zl (za (qa (qk (qt 1 [] z7) (qa (eV 0) qf)) (qa (eOp oIx (eV 1) (eV 0)) qf))) [none,some (.fz (.lst ((List.range (2 ^ w)).map fun i:Nat=>.int (cM rs i))))] ((zp ltO l).map fun k:Nat=>.int (k:Int))=some ((zp ltO l).map (pairD rs)):=by
  clear hl2 io;generalize zp ltO l=m at hm
  induction m with
  | nil=>rfl
  | cons k m ih=>
   have ih':=ih fun x hx=>hm x (gq _ hx);have mm:=q33 k;have hi:atI ((List.range (2 ^ w)).map fun i:Nat=>D.int (cM rs i)) (k:Int)=some (.int (cM rs k)):=by
    rw [q0f,mh,List.getElem?_range (hm k gw)];rfl
   rw [gd];simp! [qw,ih',mm,hi,zl]
 (refine je ?_;simp! [ki,zm,io,hl2,c])
theorem qav(a:Int): yf [.int a,.int a]=some (.bl true):=by
 (refine je ?_;simp! [kj])
theorem q71(x:Rho)(hx:x.length=4): ∀(b:List Int) (b4 b5:Option B),∃b4' b5',runFor (xx 2 (zg (bN 4) (zg (bN 5) xw))) vw (q1a (b.map D.int) (b.map D.int)) (x++[b4,b5])=some (.nx,x++[b4',b5'])
 | [],b4,b5=>⟨b4,b5,rfl⟩
 | n :: b,b4,b5=>by
  obtain⟨b4',b5',ih⟩:=q71 x hx b (some (.fz (.int n))) (some (.fz (.int n)))
  match x,hx with
  | [x0,x1,x2,x3],_=>
   have wq:=qav n;have e0:xx 2 (zg (bN 4) (zg (bN 5) xw)) (.tup [.int n,.int n]) [x0,x1,x2,x3,b4,b5]=some [x0,x1,x2,x3,some (.fz (.int n)),some (.fz (.int n))]:=rfl;have body:vw [x0,x1,x2,x3,some (.fz (.int n)),some (.fz (.int n))]=some (.nx,[x0,x1,x2,x3,some (.fz (.int n)),some (.fz (.int n))]):=by
    simp! [vw,wq]
   have z:q1a ((n :: b).map D.int) ((n :: b).map D.int)=.tup [.int n,.int n] :: q1a (b.map D.int) (b.map D.int):=rfl;exact⟨b4',b5',by rw [z];exact(xm e0 body).trans ih⟩
abbrev prD(p:List Int×Int): D:=.tup [TI p.1,.int p.2]
theorem q72(x0 x1:Option B): ∀(ps:List (List Int×Int)) (b2 b3 b4 b5:Option B),∃b2' b3' b4' b5',runFor (xx 2 (zg (bN 2) (zg (bN 3) xw))) vx (q1a (ps.map prD) (ps.map prD)) [x0,x1,b2,b3,b4,b5]=some (.nx,[x0,x1,b2',b3',b4',b5'])
 | [],b2,b3,b4,b5=>⟨b2,b3,b4,b5,rfl⟩
 | p :: ps,b2,b3,b4,b5=>by
  obtain⟨d4,d5,e1⟩:=q71 [x0,x1,some (.fz (prD p)),some (.fz (prD p))] rfl p.1 b4 b5;simp only [g0w,g0p] at e1;obtain⟨b2',b3',b4',b5',ih⟩:=q72 x0 x1 ps (some (.fz (prD p))) (some (.fz (prD p))) d4 d5;have wq:=qav p.2;have e0:xx 2 (zg (bN 2) (zg (bN 3) xw)) (.tup [prD p,prD p]) [x0,x1,b2,b3,b4,b5]=some [x0,x1,some (.fz (prD p)),some (.fz (prD p)),b4,b5]:=rfl;have body:vx [x0,x1,some (.fz (prD p)),some (.fz (prD p)),b4,b5]=some (.nx,[x0,x1,some (.fz (prD p)),some (.fz (prD p)),d4,d5]):=by
   simp! [vx,wq,q9h,e1]
  have z:q1a ((p :: ps).map prD) ((p :: ps).map prD)=.tup [prD p,prD p] :: q1a (ps.map prD) (ps.map prD):=rfl;exact⟨b2',b3',b4',b5',by rw [z];exact(xm e0 body).trans ih⟩
theorem q5p(ps:List (List Int×Int)): jc [.tup (ps.map prD),.lst (ps.map prD)]=some (.bl true):=by
 obtain⟨b2,b3,b4,b5,e⟩:=q72 (some (.fz (.tup (ps.map prD)))) (some (.fz (.lst (ps.map prD)))) ps none none none none
 (refine je ?_;simp! [wx,q9h,e])
theorem qed(rs:List Run)(l:List Nat): jc [.tup (l.map (pairD rs)),.lst (l.map (pairD rs))]=some (.bl true):=by
 have:=q5p (l.map fun k=>(qv 12 k,cM rs k));rw [nv] at this;exact this
end My
open PySem PyProof.Rows L2 DL
namespace My
open PySem PyProof.Rows L2 DL
def xn:Nat->Nat->Nat->List Nat
 | 0,_,m=>[m]
 | d+1,s,m=>xn d (s+1) m++xn d (s+1) (m+2 ^ s)
def q0b(p:Nat->Bool): Nat->Nat->Nat->List Nat
 | 0,_,_=>[]
 | d+1,s,m=>(if p (m+2 ^ s) then(m+2 ^ s) :: q0b p d (s+1) (m+2 ^ s) else [])++q0b p d (s+1) m
def yh(p:Nat->Bool)(d s m:Nat): List Nat:=if p m then m :: q0b p d s m else []
theorem q4e(p:Nat->Bool)(anti:∀d s m,s+d<=6->m<2 ^ s->p m=false->∀k∈xn d s m,p k=false): ∀d s m,s+d<=6->m<2 ^ s->p m=true->(m :: q0b p d s m).Perm ((xn d s m).filter p)
 | 0,s,m,_,_,h=>by simp [q0b,xn,h]
 | d+1,s,m,hd,hm,h=>by
  have e2:2 ^ (s+1)=2 ^ s*2:=g2p ..;have i1:=q4e p anti d (s+1) m (by omega) (by omega) h;rw [q0b,xn,g37];have i2:(if p (m+2 ^ s) then(m+2 ^ s) :: q0b p d (s+1) (m+2 ^ s) else []).Perm ((xn d (s+1) (m+2 ^ s)).filter p):=by
   cases hp:p (m+2 ^ s) with
   | true=>rw [m4 rfl];exact q4e p anti d (s+1) _ (by omega) (by omega) hp
   | false=>
    rw [m9 gz];have:=anti d (s+1) (m+2 ^ s) (by omega) (by omega) hp;rw [g24.mpr fun k hk=>by rw [this k hk];exact gz]
  exact((pq.cons m).trans (i1.append i2:_))
theorem qg3(p:Nat->Bool)(anti:∀d s m,s+d<=6->m<2 ^ s->p m=false->∀k∈xn d s m,p k=false)(d s m:Nat)(hd:s+d<=6)(hm:m<2 ^ s): (yh p d s m).Perm ((xn d s m).filter p):=by
 unfold yh;cases h:p m with
 | true=>rw [m4 rfl];exact q4e p anti d s m hd hm h
 | false=>
  rw [m9 gz,g24.mpr fun k hk=>by rw [anti d s m hd hm h k hk];exact gz]
theorem q5q(p:Nat->Bool): ∀d s m,(q0b p d s m).length+1<=2 ^ d
 | 0,_,_=>by simp [q0b]
 | d+1,s,m=>by
  have h1:=q5q p d (s+1) m;have h2:=q5q p d (s+1) (m+2 ^ s);rw [q0b,n9,g2p]
  split
  ·rw [ph];omega
  ·simp only [g1j];omega
theorem qbo:∀w:Nat,w<7->(xn w 0 0).Perm (List.range (2 ^ w)):=by decide +kernel
theorem qee{a b:List Nat}(h:a.Perm b)(hb:∀k∈b,k<64): zp ltO a=zp ltO b:=by
 have e1:=yx (fun k=>(zu k,D.int (k:Int))) a;have e2:=yx (fun k=>(zu k,D.int (k:Int))) b;have e3:(zp ltO a).map (fun k:Nat=>(zu k,D.int (k:Int)))=yj (b.map (fun k:Nat=>(zu k,D.int (k:Int)))):=by
  refine q2q ?_ ?_ ?_
  ·exact((vn ltO a).trans h).map _
  ·have:=q0z (a.map (fun k:Nat=>(zu k,D.int (k:Int))))
   rw [e1] at this;exact this
  ·intro x hx y hy h1 h2
   obtain⟨c,hc,rfl⟩:=nu.mp hx;obtain⟨d,hd,rfl⟩:=nu.mp hy;rw [q4x (hb c hc) (hb d hd) h1 h2]
 have e4:=e3.trans e2;have inj:∀ {a b:List Nat},a.map (fun k:Nat=>(zu k,D.int (k:Int)))=b.map (fun k:Nat=>(zu k,D.int (k:Int)))->a=b:=by
  intro a
  induction a with
  | nil=>intro b h;cases b with
   | nil=>rfl
   | cons y b=>cases h
  | cons x a ih=>
   intro b h;cases b with
   | nil=>cases h
   | cons y b=>
    rw [gd,gd] at h;injection h with h1 h2
    injection h1 with _ h1
    injection h1 with h1
    rw [ih h2,show x=y by omega]
 exact inj e4
theorem qky(rs:List Run)(k:Nat): jg [pairD rs k]=some (zu k):=by
 have e:k9 [q0g k]=some (zu k):=by
  (refine je ?_;simp! [wy])
  rfl
 unfold jg;simp! [ze,e]
theorem qop(rs:List Run)(l:List Nat): yk jg (l.map (pairD rs))=some (l.map zu):=by
 induction l with
 | nil=>rfl
 | cons k l ih=>
  rw [gd];simp only [yk,qky,ih,gm,pf,gd]
theorem qef(rs:List Run)(l:List Nat)(hn:l.Nodup)(hl:∀k∈l,k<64): q00 [.lst (l.map (pairD rs))]=some (.tup ((zp ltO l).map (pairD rs))):=by
 have srt:q4r jg [.lst (l.map (pairD rs))]=some ((zp ltO l).map (pairD rs)):=by
  show q1d jg (.lst (l.map (pairD rs)))=_;unfold q1d;dsimp only;rw [qop,gm,qg1,qau _ hn hl];have ez:(l.map zu).zip (l.map (pairD rs))=l.map fun k=>(zu k,pairD rs k):=by
   rw [g4h]
  rw [ez,yx];simp only [Bool.and_self,ny,nv];exact rfl
 (refine je ?_;simp! [wz,srt,q1k])
theorem q0j{α : Type}{b:FB}{c:FT}{e:FE}{ρ : Rho}(f : α -> D)(p : α -> Bool)(g : α -> D): ∀(as:List α),(∀a∈as,∃ ρ1,b (f a) ρ = some ρ1/\c ρ1=some (p a)/\(p a=true->e ρ1=some (g a)))->qw b c e ρ (as.map f)=some ((as.filter p).map g)
 | [],_=>rfl
 | a :: as,h=>by
  obtain⟨ρ1,e1,e2,e3⟩:=h a gw;have ih:=q0j f p g as fun x hx=>h x (gq _ hx);simp only [gd,qw,e1,e2,gm,tq];cases hp:p a with
  | true=>simp only [ny,e3 hp,gm,ih,pf,gd]
  | false=>simp only [m7,nt,ih]
def atA(as:List (Int×D))(k:Int): List D:=(as.filter fun a=>a.1==k).map (·.2)
structure GrpA(kvs:List (Int×List D))(as:List (Int×D)): Prop where
 nd:(kvs.map (·.1)).Nodup
 mem:∀k,k∈kvs.map (·.1)↔k∈as.map (·.1)
 val:∀(j:Nat) p,kvs[j]? = some p->p.2=atA as p.1
 len:kvs.length<=as.length
theorem qkz(as:List (Int×D))(k':Int)(v:D)(k:Int): atA (as++[(k',v)]) k=atA as k++if k'=k then [v] else []:=by
 unfold atA;rw [g37,pj]
 congr 1
 by_cases h:k'=k
 ·rw [m4 h,g0z (by simp [h])];rfl
 ·rw [m9 h,um (by simp [h])];rfl
theorem qaw{as:List (Int×D)}{k:Int}(h:k∉as.map (·.1)): atA as k=[]:=by
 unfold atA;rw [g24.mpr fun a ha z=>h (nu.mpr ⟨a,ha,by simpa using z⟩)];rfl
theorem ql0(as:List (Int×D))(k:Int): (atA as k).length<=as.length:=by
 unfold atA;rw [gr];exact tx _ _
theorem GrpA.nil:GrpA [] []:=⟨by simp,by simp,by simp,by simp⟩
theorem GrpA.key{kvs:List (Int×List D)}{as:List (Int×D)}(g:GrpA kvs as)(k:Int): ((vj kvs k).map (·.1)).Nodup/\k∈(vj kvs k).map (·.1)/\(∀x,x∈(vj kvs k).map (·.1)↔x=k\/x∈kvs.map (·.1)) /\
  (∀(j:Nat) p,(vj kvs k)[j]? = some p->p.2=atA as p.1)/\(vj kvs k).length<=as.length+1:=by
 unfold vj
 by_cases h:k∈kvs.map (·.1)
 ·rw [m4 h]
  exact⟨g.nd,h,fun x=>⟨.inr,fun z=>z.elim (fun e=>e ▸ h) id⟩,g.val,Nat.le_succ_of_le g.len⟩
 ·rw [m9 h]
  refine⟨?_,by simp,fun x=>by simp [or_comm],fun j p e=>?_,by have:=g.len;simp;omega⟩
  ·rw [pj,List.nodup_append]
   exact⟨g.nd,by simp,fun a ha b hb z=>by simp at hb;subst hb;subst z;exact h ha⟩
  ·by_cases hj:j<kvs.length
   ·rw [nh hj] at e;exact g.val j p e
   ·rw [nq (by omega)] at e
    have:p=(k,[]):=by
     have hm:=p6 e
     simpa using hm
    subst this;exact(qaw fun z=>h ((g.mem k).mpr z)).symm
theorem GrpA.add{kvs:List (Int×List D)}{as:List (Int×D)}(g:GrpA kvs as)(k:Int)(v:D): GrpA (q4s (vj kvs k) k v) (as++[(k,v)]):=by
 obtain⟨a1,a2,a3,a4,a5⟩:=g.key k;generalize vj kvs k=kv1 at a1 a2 a3 a4 a5;obtain⟨ds,hds⟩:=q7i a2;have hj:=(mq.mp hds).1;unfold q4s;rw [hds];dsimp only;have ks:(kv1.set ((kv1.map (·.1)).idxOf k) (k,ds++[v])).map (·.1)=kv1.map (·.1):=by
  rw [List.map_set];exact set_same (by rw [mh,hds];rfl)
 refine⟨by rw [ks];exact a1,fun x=>?_,fun j p e=>?_,by rw [t5];simpa using a5⟩
 ·rw [ks,a3,g.mem,pj,pb]
  simp [or_comm]
 ·rw [qkz]
  by_cases q:j=(kv1.map (·.1)).idxOf k
  ·subst q
   rw [g00] at e;simp only [ny,hj] at e;cases m6 e;rw [m4 rfl, <- show ds=atA as k from a4 _ _ hds]
  ·rw [gc (mi q)] at e
   have nk:p.1≠k:=fun z=>by
    have h1:(kv1.map (·.1))[j]? = some k:=by rw [mh,e, <- z];rfl
    have h2:(kv1.map (·.1))[(kv1.map (·.1)).idxOf k]? = some k:=by rw [mh,hds];rfl
    exact q ((List.getElem?_inj (mq.mp h1).1 a1).mp (h1.trans h2.symm))
   rw [m9 (mi nk),g12];exact a4 j p e
theorem qcv{i:Nat}{f1 f2:FE}{ρ : Rho}{kvs:List (Int×List D)}{as:List (Int×D)}{k:Int}{v:D}(g:GrpA kvs as)(hl:as.length<lim)(h0:q5d i ρ = some kvs)(h1:f1 ρ = some (.int k))(h2:f2 (ρ.set i (some (.od (vj kvs k))))=some v):
  q6l i f1 f2 ρ = some (.nx, ρ.set i (some (.od (q4s (vj kvs k) k v)))):=by
 obtain⟨a1,a2,a3,a4,a5⟩:=g.key k;unfold q6l;rw [h0,gm,h1,gm,show isK (.int k)=some k from rfl,gm,m4 (Nat.lt_of_le_of_lt g.len hl),h2,gm,m4];rw [mv];intro p hp;obtain⟨j,hj⟩:=g4a.mp hp;rw [a4 j p hj];exact n8 (Nat.lt_of_le_of_lt (ql0 as _) hl)
theorem q7s:∀(kvs:List (Int×List D)),q3t (kvs.map fun p=>Sum.inl p.1)=some (kvs.map (·.1))
 | []=>rfl
 | p :: kvs=>by
  show(q3t (kvs.map fun p=>Sum.inl p.1)).map (p.1 :: ·)=_;rw [q7s kvs];rfl
theorem GrpA.at{kvs:List (Int×List D)}{as:List (Int×D)}(g:GrpA kvs as){k:Int}(hm:k∈as.map (·.1)): ((kvs.map fun p=>D.lst p.2)[(kvs.map (·.1)).idxOf k]?)=some (.lst (atA as k)):=by
 obtain⟨ds,hds⟩:=q7i ((g.mem k).mpr hm);rw [mh,hds];have:=g.val _ _ hds;dsimp only at this;rw [this];rfl
theorem GrpA.get{kvs:List (Int×List D)}{as:List (Int×D)}(g:GrpA kvs as)(k:Int): q4u (odD kvs) [.int k,.lst []]=some (.lst (atA as k)):=by
 show(q3t (kvs.map fun p=>Sum.inl p.1)).bind _=_;rw [q7s,gm]
 by_cases h:k∈as.map (·.1)
 ·rw [m4 ((g.mem k).mpr h),g.at h]
 ·rw [m9 (fun z=>h ((g.mem k).mp z)),qaw h]
def key(dep:Nat)(r:Run): Option Int:=r.2[dep]?
def q36(rs:List Run): Int:=(rs.map (·.1)).sum
def zy(rs:List Run)(dep:Nat): List Nat:=(List.range 12).filter fun n=>rs.any fun r=>My.key dep r==some (n:Int)
def sub(rs:List Run)(dep:Nat)(k:Int): List Run:=rs.filter fun r=>My.key dep r==some k
def j4:Nat->List Run->Nat->D
 | 0,rs,dep=>.tup [.int (q36 rs),.tup ((zy rs dep).map fun k:Nat=>.tup [.int (k:Int),.non])]
 | n+1,rs,dep=>.tup [.int (q36 rs),.tup ((zy rs dep).map fun k:Nat=>.tup [.int (k:Int),j4 n (sub rs dep k) (dep+1)])]
def asR(dep:Nat)(rs:List Run): List (Int×D):=rs.filterMap fun r=>(My.key dep r).map fun k=>(k,j5 r)
theorem ql1(dep:Nat)(rs:List Run)(r:Run): asR dep (rs++[r])=asR dep rs++(match My.key dep r with|some k=>[(k,j5 r)]|none=>[]):=by
 unfold asR;rw [List.filterMap_append]
 congr 1
 cases h:My.key dep r <;> simp [h]
theorem qg4(dep:Nat)(k:Int): ∀rs:List Run,atA (asR dep rs) k=(sub rs dep k).map j5
 | []=>rfl
 | r :: rs=>by
  have ih:=qg4 dep k rs;unfold atA asR sub at ih ⊢;cases h:My.key dep r with
  | none=>rw [List.filterMap_cons_none (by rw [h];rfl),um (p:=fun r=>My.key dep r==some k) (by rw [h];simp),ih]
  | some x=>
   rw [List.filterMap_cons_some (by rw [h];rfl)]
   by_cases e:x=k
   ·rw [g0z (by simp [e]),g0z (p:=fun r=>My.key dep r==some k) (by rw [h];simp [e]),gd,gd,ih]
   ·rw [um (by simp [e]),um (p:=fun r=>My.key dep r==some k) (by rw [h];simp [e]),ih]
theorem asR_mem{dep:Nat}{rs:List Run}{k:Int}: k∈(asR dep rs).map (·.1)↔∃r∈rs,My.key dep r=some k:=by
 unfold asR;rw [nu]
 constructor
 ·rintro⟨a,ha,rfl⟩
  obtain⟨r,hr,e⟩:=g1k.mp ha;obtain⟨x,hx,rfl⟩:=md.mp e;exact⟨r,hr,hx⟩
 ·rintro⟨r,hr,e⟩
  exact⟨(k,j5 r),g1k.mpr ⟨r,hr,by rw [e];rfl⟩,rfl⟩
theorem ql2(dep:Nat)(rs:List Run): (asR dep rs).length<=rs.length:=List.length_filterMap_le _ _
theorem q8d(rc:List D->Option D)(c:D)(dep:Nat): ∀(rs2 rs1:List Run) (kvs:List (Int×List D)) (b3 b4:Option B),GrpA kvs (asR dep rs1)->rs1.length+rs2.length<=1000 ->
  ∃kvs' b3' b4',GrpA kvs' (asR dep (rs1++rs2))/\runFor (bN 3) (q06 rc) (rs2.map j5) [some (.fz c),some (.fz (.int (dep:Int))),some (.od kvs),b3,b4,none]=some (.nx,[some (.fz c),some (.fz (.int (dep:Int))),some (.od kvs'),b3',b4',none])
 | [],rs1,kvs,b3,b4,g,_=>⟨kvs,b3,b4,by simpa using g,rfl⟩
 | r :: rs2,rs1,kvs,b3,b4,g,hl=>by
  have hl':(rs1++[r]).length+rs2.length<=1000:=by simp at hl ⊢;omega
  have body:∃kv2,GrpA kv2 (asR dep (rs1++[r]))/\q06 rc [some (.fz c),some (.fz (.int (dep:Int))),some (.od kvs),some (.fz (j5 r)),b4,none]=some (.nx,[some (.fz c),some (.fz (.int (dep:Int))),some (.od kv2),some (.fz (j5 r)),some (.fz (TI r.2)),none]):=by
   have e1:j7 4 (eOp oIx (eV 3) (eC (.int 1))) [some (.fz c),some (.fz (.int (dep:Int))),some (.od kvs),some (.fz (j5 r)),b4,none]=some (.nx,[some (.fz c),some (.fz (.int (dep:Int))),some (.od kvs),some (.fz (j5 r)),some (.fz (TI r.2)),none]):=rfl;have ln:qk x9 (qa (eV 4) qf) [some (.fz c),some (.fz (.int (dep:Int))),some (.od kvs),some (.fz (j5 r)),some (.fz (TI r.2)),none]=some (.int (r.2.length:Int)):=by
    show x9 [TI r.2]=_;rw [qiw,gr]
   rw [ql1]
   by_cases hd:dep<r.2.length
   ·have hk:My.key dep r=some r.2[dep]:=tj hd
    rw [hk];have hla:=ql2 dep rs1;refine⟨_,g.add _ _,q07 e1 (qnf (qe7 ln (x_v rfl) rfl) (n8 (by omega)) (qcv g (by show _<1000000;omega) rfl ?_ (x_v rfl)))⟩;exact yg (x_v rfl) (x_v rfl) (by rw [qi3,q0f,mh,tj hd];rfl)
   ·have hk:My.key dep r=none:=g4f (by omega)
    rw [hk,g12];exact⟨kvs,g,q07 e1 (qng (qe7 ln (x_v rfl) rfl) (p9 (by omega)) rfl)⟩
  obtain⟨kv2,g2,eb⟩:=body;obtain⟨kvs',b3',b4',g3,er⟩:=q8d rc c dep rs2 (rs1++[r]) kv2 (some (.fz (j5 r))) (some (.fz (TI r.2))) g2 hl';refine⟨kvs',b3',b4',by simpa using g3,?_⟩;rw [gd,xm (b:=bN 3) rfl eb,er]
theorem qcw:∀(kvs:List (Int×List D)),(∀p∈kvs,0<=p.1/\p.1<12)->q3u (kvs.map fun p=>Sum.inl p.1)=some (kvs.map fun p=>p.1.toNat)
 | [],_=>rfl
 | p :: kvs,h=>by
  have ih:=qcw kvs fun q hq=>h q (gq _ hq);show(if 0<=p.1/\p.1<12 then(q3u (kvs.map fun p=>Sum.inl p.1)).map (p.1.toNat :: ·) else none)=_;rw [m4 (h p gw),ih];rfl
structure Far(rs:List Run): Prop where
 len:rs.length<=1000
 mem:∀r∈rs,∀x∈r.2,0<=x/\x<12
 dep:∀r∈rs,r.2.length<=12
theorem qg5{rs:List Run}{dep:Nat}(f:Far rs){r:Run}(hr:r∈rs){k:Int}(h:My.key dep r=some k): 0<=k/\k<12:=f.mem r hr k (p6 h)
theorem Far.sub{rs:List Run}(f:Far rs)(dep:Nat)(k:Int): Far (My.sub rs dep k):=
 ⟨ml (tx _ _) f.len,fun r hr=>f.mem r (mx.mp hr).1,fun r hr=>f.dep r (mx.mp hr).1⟩
theorem q73{kvs:List (Int×List D)}{rs:List Run}{dep:Nat}(g:GrpA kvs (asR dep rs))(f:Far rs): ∀p∈kvs,0<=p.1/\p.1<12:=fun p hp=>by
 obtain⟨r,hr,e⟩:=asR_mem.mp ((g.mem p.1).mp (nu.mpr ⟨p,hp,rfl⟩));exact qg5 f hr e
theorem qnl{kvs:List (Int×List D)}{rs:List Run}{dep:Nat}(g:GrpA kvs (asR dep rs))(f:Far rs): q6m (odD kvs)=some ((zy rs dep).map fun n:Nat=>D.int (n:Int)):=by
 show(q3u (kvs.map fun p=>Sum.inl p.1)).bind _=_;rw [qcw kvs (q73 g f),gm,m4]
 ·unfold DL.upTo zy
  congr 2
  apply List.filter_congr;intro n hn;rw [g0k,g17,g29]
  constructor
  ·intro h
   obtain⟨p,hp,e⟩:=nu.mp h;have:=q73 g f p hp;obtain⟨r,hr,er⟩:=asR_mem.mp ((g.mem p.1).mp (nu.mpr ⟨p,hp,rfl⟩));exact⟨r,hr,by rw [er];simp;omega⟩
  ·rintro⟨r,hr,e⟩
   have e:My.key dep r=some (n:Int):=by simpa using e
   obtain⟨p,hp,ep⟩:=nu.mp ((g.mem n).mpr (asR_mem.mpr ⟨r,hr,e⟩));exact nu.mpr ⟨p,hp,by rw [ep];simp⟩
 ·have:=g.nd
  rw [List.Nodup,uf] at this ⊢;exact this.imp_of_mem fun {a b} ha hb z y=>z (by have:=q73 g f a ha;have:=q73 g f b hb;omega)
theorem keysN_mem{rs:List Run}{dep n:Nat}: n∈zy rs dep↔n<12/\∃r∈rs,My.key dep r=some (n:Int):=by
 unfold zy;rw [mx,ur,g29];simp
theorem qnm{kvs:List (Int×List D)}{rs:List Run}{dep:Nat}(g:GrpA kvs (asR dep rs)){n:Nat}(hn:n∈zy rs dep): q5e (odD kvs) (.int (n:Int))=some (.lst ((My.sub rs dep n).map j5)):=by
 have hm:=asR_mem.mpr (keysN_mem.mp hn).2;show(q3t (kvs.map fun p=>Sum.inl p.1)).bind _=_;rw [q7s,gm,m4 ((g.mem n).mpr hm),g.at hm,qg4]
theorem qg6(rs:List Run)(dep:Nat): (zy rs dep).length<=12:=ml (tx _ _) (by simp)
theorem qi7(rs:List Run)(ρ : Rho): qw (bN 0) zl (eOp oIx (eV 0) (eC (.int 0))) (none :: ρ) (rs.map j5)=some ((rs.map (·.1)).map D.int):=by
 have:=q0j (b:=bN 0) (c:=zl) (e:=eOp oIx (eV 0) (eC (.int 0))) (ρ :=none :: ρ) j5 (fun _=>true) (fun r=>D.int r.1) rs fun r _=>⟨_,rfl,rfl,fun _=>rfl⟩
 rw [this,g02.mpr (fun _ _=>rfl),nv];rfl
theorem q8e(rc:List D->Option D)(c:D)(rs:List Run)(dep:Nat)(g:Nat->D)(hc:q1x c=some (rs.map j5))(f:Far rs)
  (hr:∀n∈zy rs dep,rc [.lst ((My.sub rs dep n).map j5),.int ((dep:Int)+1)]=some (g n)) :
  ze 6 (q0p rc) [c,.int (dep:Int)]=some (.tup [.int (q36 rs),.tup ((zy rs dep).map fun k:Nat=>.tup [.int (k:Int),g k])]):=by
 obtain⟨kvs,b3,b4,G,er⟩:=q8d rc c dep rs [] [] none none GrpA.nil (by simpa using f.len);rw [g0p] at G;refine q4b (ρ':=[some (.fz c),some (.fz (.int (dep:Int))),some (.fz (odD kvs)),b3,b4,some (.fz (.lst ((zy rs dep).map fun k:Nat=>.tup [.int (k:Int),g k])))]) (q07 (ρ1:=[some (.fz c),some (.fz (.int (dep:Int))),some (.od []),none,none,none]) rfl (q07 (q8v (q4a (x_v rfl) hc) er) ?_));show z6 _ _ [some (.fz c),some (.fz (.int (dep:Int))),some (.fz (odD kvs)),b3,b4,none]=_;have srt:qdw (eV 2) [some (.fz c),some (.fz (.int (dep:Int))),some (.fz (odD kvs)),b3,b4,none]=some ((zy rs dep).map fun n:Nat=>D.int (n:Int)):=by
  show q6m (odD kvs)=_;exact qnl G f
 have cmp:qw (bN 0) zl (za (qa (eV 0) (qa (qk (qt 2 [] rc) (qa (eOp q5e (eV 1) (eV 0)) (qa (eOp zo (eV 2) (eC (.int 1))) qf))) qf))) [none,some (.fz (odD kvs)),some (.fz (.int (dep:Int)))] ((zy rs dep).map fun n:Nat=>D.int (n:Int))=some ((zy rs dep).map fun k:Nat=>.tup [.int (k:Int),g k]):=by
  have:=q0j (b:=bN 0) (c:=zl) (e:=za (qa (eV 0) (qa (qk (qt 2 [] rc) (qa (eOp q5e (eV 1) (eV 0)) (qa (eOp zo (eV 2) (eC (.int 1))) qf))) qf))) (ρ :=[none,some (.fz (odD kvs)),some (.fz (.int (dep:Int)))]) (fun n:Nat=>D.int (n:Int)) (fun _=>true) (fun k:Nat=>D.tup [.int (k:Int),g k]) (zy rs dep) fun n hn=>⟨_,rfl,rfl,fun _=>by
   refine qe6 (ds:=[D.int (n:Int),g n]) (zj (x_v rfl) (zj (q49 (ds:=[.lst ((My.sub rs dep n).map j5),.int ((dep:Int)+1)]) (zj (yg (x_v rfl) (x_v rfl) (qnm G hn)) (zj (yg (x_v rfl) x_c rfl) xr)) rfl (hr n hn)) xr)) ?_;show 2<=1000000
   decide⟩
  rw [this,g02.mpr (fun _ _=>rfl)]
 have hl:((zy rs dep).map fun n:Nat=>D.int (n:Int)).length<=lim:=by rw [gr];exact ml (qg6 rs dep) (by decide)
 have hl2:(rs.map j5).length<=lim:=by rw [gr];exact ml f.len (by decide)
 refine q07 (qiu (qfz (q4a (x_l srt) rfl) hl cmp)) (qiv rfl (qe8 (qe6 (zj (x_call (zj (x_l (qfz (q4a (x_v rfl) hc) hl2 (qi7 rs []))) xr) (q1s _)) (zj (x_call (zj (x_v rfl) xr) rfl) xr)) (show 2<=1000000 by decide))))
theorem qax{rs:List Run}(f:Far rs){dep:Nat}(hd:12<=dep): zy rs dep=[]:=by
 rw [List.eq_nil_iff_forall_not_mem];intro n h;obtain⟨_,r,hr,e⟩:=keysN_mem.mp h;have:=(mq.mp e).1;have:=f.dep r hr;omega
theorem qcx:∀(n:Nat) (rs:List Run) (dep:Nat) (c:D),q1x c=some (rs.map j5)->Far rs->12<=dep+n->F_node_of (n+1) [c,.int (dep:Int)]=some (j4 n rs dep)
 | 0,rs,dep,c,hc,f,hw=>q8e _ c rs dep (fun _=>.non) hc f fun n hn=>by rw [qax f (show 12<=dep from hw)] at hn;cases hn
 | n+1,rs,dep,c,hc,f,hw=>q8e (F_node_of (n+1)) c rs dep (fun k=>j4 n (My.sub rs dep k) (dep+1)) hc f fun k _=>qcx n (My.sub rs dep k) (dep+1) _ rfl (f.sub dep k) (by omega)
theorem ql3(W:Nat)(rs:List Run)(f:Far rs): q45 [q08 W rs]=some (j4 15 rs 0):=by
 have h:=qcx 15 rs 0 (.tup (rs.map j5)) rfl f (by decide);exact q4b (ρ':=_) (qe8 (q49 (zj (yg (x_v rfl) x_c rfl) (zj x_c xr)) rfl h))
def W(f:Run->Int)(rs:List Run): Int:=(rs.map f).sum
theorem km(f:Run->Int)(r:Run)(rs:List Run): W f (r :: rs)=f r+W f rs:=by unfold W;rw [gd,g08]
theorem qeg(f g:Run->Int): ∀rs,W f rs+W g rs=W (fun r=>f r+g r) rs
 | []=>rfl
 | r :: rs=>by rw [km,km,km, <- qeg f g rs];omega
theorem ka{f g:Run->Int}: ∀ {rs:List Run},(∀r∈rs,f r=g r)->W f rs=W g rs
 | [],_=>rfl
 | r :: rs,h=>by rw [km,km,h r gw,ka fun x hx=>h x (gq _ hx)]
theorem q37(f:Run->Int)(p:Run->Bool): ∀rs,W f (rs.filter p)=W (fun r=>if p r then f r else 0) rs
 | []=>rfl
 | r :: rs=>by
  rw [km, <- q37 f p rs,tq]
  split
  ·rw [km]
  ·rw [g4l]
theorem qay:∀rs,W (fun _=>0) rs=0
 | []=>rfl
 | r :: rs=>by rw [km,qay rs];rfl
theorem qcy(g:Run->Int)(dep:Nat)(rs:List Run): ∀K:List Nat,K.Nodup->(K.map fun k:Nat=>W g (sub rs dep (k:Int))).sum=W (fun r=>if K.any (fun k=>My.key dep r==some (k:Int)) then g r else 0) rs
 | [],_=>by
  rw [g04,List.sum_nil];exact(qay rs).symm
 | k :: K,h=>by
  have hn:=g14.mp h;rw [gd,g08,qcy g dep rs K hn.2,sub,q37,qeg];refine ka fun r _=>?_;rw [List.any_cons]
  by_cases e:My.key dep r==some (k:Int)
  ·have hk:K.any (fun k'=>My.key dep r==some (k':Int))=false:=by
    rw [List.any_eq_false];intro k' hk' z;have e1:My.key dep r=some (k:Int):=by simpa using e
    have e2:My.key dep r=some (k':Int):=by simpa using z
    have:(k:Int)=(k':Int):=m6 (e1.symm.trans e2);have:k=k':=by omega
    exact hn.1 (this ▸ hk')
   rw [hk,e];simp
  ·have e':(My.key dep r==some (k:Int))=false:=by simpa using e
   rw [e'];simp
theorem qi8(rs:List Run)(dep:Nat): (zy rs dep).Nodup:=g2a.filter _
theorem qcz(g:Run->Int)(dep:Nat){rs:List Run}(f:Far rs)(hz:∀r∈rs,My.key dep r=none->g r=0): ((zy rs dep).map fun k:Nat=>W g (sub rs dep (k:Int))).sum=W g rs:=by
 rw [qcy g dep rs _ (qi8 rs dep)];refine ka fun r hr=>?_;cases e:My.key dep r with
 | none=>rw [hz r hr e];split <;> rfl
 | some x=>
  have hx:=qg5 f hr e;have:x.toNat∈zy rs dep:=keysN_mem.mpr ⟨by omega,r,hr,by rw [e];congr 1;omega⟩;rw [m4];rw [g29];exact⟨x.toNat,this,by simp;omega⟩
structure Nd where
 n:Nat
 rs:List Run
 dep:Nat
def ndD(x:Nd): D:=j4 x.n x.rs x.dep
def desc:Nat->List Run->Nat->List (Nat×Nd)
 | 0,_,_=>[]
 | n+1,rs,dep=>(zy rs dep).flatMap fun k:Nat=>(k,⟨n,sub rs dep (k:Int),dep+1⟩) :: desc n (sub rs dep (k:Int)) (dep+1)
def asD(l:List (Nat×Nd)): List (Int×D):=l.map fun p=>((p.1:Int),ndD p.2)
def atK(l:List (Nat×Nd))(k:Nat): List Nd:=(l.filter fun p=>p.1==k).map (·.2)
theorem qg7(k:Nat): ∀l:List (Nat×Nd),atA (asD l) (k:Int)=(atK l k).map ndD
 | []=>rfl
 | p :: l=>by
  have ih:=qg7 k l;unfold atA asD atK at ih ⊢;rw [gd,tq,tq]
  by_cases h:p.1=k
  ·rw [m4 (by simp [h]),m4 (by simp [h]),gd,gd,gd,ih]
  ·rw [m9 (by simp;omega),m9 (by simp [h]),ih]
def WN(f:Run->Int)(l:List Nd): Int:=(l.map fun x=>W f x.rs).sum
theorem q8f(f:Run->Int)(a b:List Nd): WN f (a++b)=WN f a+WN f b:=by unfold WN;rw [pj,List.sum_append]
theorem q74(a b:List (Nat×Nd))(k:Nat): atK (a++b) k=atK a k++atK b k:=by unfold atK;rw [g37,pj]
theorem q5r{α : Type}(f : α -> List (Nat×Nd))(k:Nat)(g:Run->Int): ∀l:List α,WN g (atK (l.flatMap f) k)=(l.map fun x=>WN g (atK (f x) k)).sum
 | []=>rfl
 | x :: l=>by rw [g0s,q74,q8f,q5r f k g l,gd,g08]
def Rise(rs:List Run): Prop:=∀r∈rs,r.2.Pairwise (· < ·)
theorem Rise.sub{rs:List Run}(h:Rise rs)(dep:Nat)(k:Int): Rise (My.sub rs dep k):=fun r hr=>h r (mx.mp hr).1
theorem qi9{dep:Nat}{r:Run}{k:Int}(h:My.key dep r=some k): r.2.drop dep=k :: r.2.drop (dep+1):=by
 obtain⟨hl,e⟩:=mq.mp h;rw [pd hl,e]
theorem qg8(f:Run->Int)(k:Nat): ∀(n:Nat) (rs:List Run) (dep:Nat),Far rs->Rise rs->12<=dep+n->WN f (atK (desc n rs dep) k)=W (fun r=>if(k:Int)∈r.2.drop dep then f r else 0) rs
 | 0,rs,dep,fr,_,h=>by
  refine Eq.trans (qay rs).symm (ka fun r hr=>?_);rw [g48 (by have:=fr.dep r hr;omega)]
  rfl
 | n+1,rs,dep,fr,ri,h=>by
  rw [desc,q5r, <- qcz _ dep fr (fun r _ e=>by
   have:r.2.length<=dep:=List.getElem?_eq_none_iff.mp e;rw [g48 this];rfl)]
  refine uy List.sum (g0f fun k' _=>?_);have ih:=qg8 f k n (sub rs dep (k':Int)) (dep+1) (fr.sub dep k') (ri.sub dep k') (by omega);have sp:∀r∈sub rs dep (k':Int),r.2.drop dep=(k':Int) :: r.2.drop (dep+1)/\(k':Int)∉r.2.drop (dep+1):=fun r hr=>by
   have hk:My.key dep r=some (k':Int):=by simpa using(mx.mp hr).2
   have hd:=qi9 hk;refine⟨hd,fun z=>?_⟩;have hp:=(ri r (mx.mp hr).1).sublist (List.drop_sublist dep r.2);rw [hd,g16] at hp;exact absurd (hp.1 _ z) (Int.lt_irrefl _)
  rw [show ∀(x:Nat×Nd) (l:List (Nat×Nd)),x :: l=[x]++l from fun _ _=>rfl,q74,q8f,ih]
  by_cases e:k'=k
  ·subst e
   have:WN f (atK [(k',(⟨n,sub rs dep (k':Int),dep+1⟩:Nd))] k')=W f (sub rs dep (k':Int)):=by
    unfold atK WN;rw [g0z (by simp)];simp
   rw [this,qeg];refine ka fun r hr=>?_;obtain⟨h1,h2⟩:=sp r hr;rw [m9 h2,h1,m4 gw,Int.add_zero]
  ·have:WN f (atK [(k',(⟨n,sub rs dep (k':Int),dep+1⟩:Nd))] k)=0:=by
    unfold atK WN;rw [um (by simp [e])]
    rfl
   rw [this,g4l];refine ka fun r hr=>?_;obtain⟨h1,h2⟩:=sp r hr;rw [h1];have:((k:Int)∈(k':Int) :: r.2.drop (dep+1))↔((k:Int)∈r.2.drop (dep+1)):=by
    rw [mw];exact⟨fun z=>z.elim (fun y=>absurd (by omega) e) id,.inr⟩
   by_cases z:(k:Int)∈r.2.drop (dep+1)
   ·rw [m4 z,m4 (this.mpr z)]
   ·rw [m9 z,m9 (fun y=>z (this.mp y))]
theorem q8g:∀(l:List Int) (j:Nat) (k:Int),l.Pairwise (· < ·)->l[j]? = some k->l.drop (j+1)=l.filter fun x=>decide (k+1<=x)
 | [],j,k,_,h=>by simp at h
 | x :: l,0,k,hp,h=>by
  cases m6 h;rw [List.drop_succ_cons,g2v,um (by simp;omega)];refine(g02.mpr fun y hy=>?_).symm;have:=(g16.mp hp).1 y hy;exact n8 (by omega)
 | x :: l,j+1,k,hp,h=>by
  rw [uk] at h;have hm:=(g16.mp hp).1 k (p6 h);rw [List.drop_succ_cons,q8g l j k (g16.mp hp).2 h,um (by simp;omega)]
theorem q38:∀(n:Nat) (rs:List Run) (dep:Nat) (p:Nat×Nd),Rise rs->p∈desc n rs dep->p.2.dep+p.2.n=dep+n/\(∀r∈p.2.rs,r∈rs/\r.2.drop p.2.dep=r.2.filter fun x=>decide ((p.1:Int)+1<=x))/\p.2.rs≠[]
 | 0,_,_,_,_,h=>by cases h
 | n+1,rs,dep,p,ri,h=>by
  rw [desc,g3t] at h;obtain⟨k,hk,h⟩:=h;rcases mw.mp h with rfl|h
  ·refine⟨by show dep+1+n=_;omega,fun r hr=>?_,?_⟩
   ·have hk':My.key dep r=some (k:Int):=by simpa using(mx.mp hr).2
    exact⟨(mx.mp hr).1,q8g r.2 dep k (ri r (mx.mp hr).1) hk'⟩
   ·obtain⟨_,r,hr,e⟩:=keysN_mem.mp hk
    exact List.ne_nil_of_mem (show r∈sub rs dep (k:Int) from mx.mpr ⟨hr,by simpa using e⟩)
  ·obtain⟨h1,h2,h3⟩:=q38 n _ _ p (ri.sub dep k) h
   exact⟨by omega,fun r hr=>⟨(mx.mp (h2 r hr).1).1,(h2 r hr).2⟩,h3⟩
theorem q8w(rs:List Run): W (fun _=>1) rs=(rs.length:Int):=by
 induction rs with
 | nil=>rfl
 | cons r rs ih=>rw [km,ih,ph];omega
theorem qg9{rs:List Run}(f:Far rs)(dep:Nat): ((zy rs dep).map fun k:Nat=>((sub rs dep (k:Int)).length:Int)).sum<=(rs.length:Int):=by
 have h:=qcz (fun r=>if(My.key dep r).isSome then 1 else 0) dep f (fun r _ e=>by rw [e];rfl);have h1:W (fun r=>if(My.key dep r).isSome then 1 else 0) rs<=(rs.length:Int):=by
  clear h
  induction rs with
  | nil=>exact Int.le_refl _
  | cons r rs ih=>
   rw [km,ph];have:=ih ⟨by have:=f.len;simp at this;omega,fun x hx=>f.mem x (gq _ hx),fun x hx=>f.dep x (gq _ hx)⟩
   split <;> omega
 have h2:((zy rs dep).map fun k:Nat=>((sub rs dep (k:Int)).length:Int))=((zy rs dep).map fun k:Nat=>W (fun r=>if(My.key dep r).isSome then 1 else 0) (sub rs dep (k:Int))):=by
  refine g0f fun k _=>?_;rw [<- q8w];refine ka fun r hr=>?_;have hk':My.key dep r=some (k:Int):=by simpa using(mx.mp hr).2
  rw [hk'];rfl
 rw [h2,h];exact h1
theorem q75{α : Type}(f g : α -> Int): ∀l:List α,(∀x∈l,f x<=g x)->(l.map f).sum<=(l.map g).sum
 | [],_=>Int.le_refl _
 | x :: l,h=>by
  have:=q75 f g l fun y hy=>h y (gq _ hy);have:=h x gw;simp only [gd,g08];omega
theorem q5s{α : Type}(f : α -> Int)(c:Int): ∀l:List α,(l.map fun x=>f x*c).sum=(l.map f).sum*c
 | []=>by simp
 | x :: l=>by simp only [gd,g08];rw [q5s f c l,Int.add_mul]
theorem q5t{α β : Type}(f : α -> List β): ∀l:List α,((l.flatMap f).length:Int)=(l.map fun x=>((f x).length:Int)).sum
 | []=>rfl
 | x :: l=>by rw [g0s,n9,gd,g08, <- q5t f l];omega
theorem qaz:∀(n:Nat) (rs:List Run) (dep:Nat),Far rs->((desc n rs dep).length:Int)<=(rs.length:Int)*(n:Int)
 | 0,rs,dep,_=>by simp [desc]
 | n+1,rs,dep,f=>by
  rw [desc,q5t];have h1:=q75 (fun k:Nat=>(((((k,(⟨n,sub rs dep (k:Int),dep+1⟩:Nd)) :: desc n (sub rs dep (k:Int)) (dep+1)).length:Nat)):Int)) (fun k:Nat=>((sub rs dep (k:Int)).length:Int)*((n+1:Nat):Int)) (zy rs dep) fun k hk=>by
   have ih:=qaz n (sub rs dep (k:Int)) (dep+1) (f.sub dep k);have h0:1<=(sub rs dep (k:Int)).length:=by
    obtain⟨_,r,hr,e⟩:=keysN_mem.mp hk;exact List.length_pos_of_mem (show r∈sub rs dep (k:Int) from mx.mpr ⟨hr,by simpa using e⟩)
   rw [ph];have e1:((sub rs dep (k:Int)).length:Int)*((n+1:Nat):Int)=((sub rs dep (k:Int)).length:Int)*(n:Int)+((sub rs dep (k:Int)).length:Int):=by
    rw [Int.natCast_add,Int.mul_add];simp
   rw [e1];omega
  refine g3s h1 ?_;rw [q5s];exact Int.mul_le_mul_of_nonneg_right (qg9 f dep) (by omega)
theorem q58(rc:D->List (Int×List D)->Option (List (Int×List D)))(c:D)(n:Nat)(rs:List Run)(dep:Nat)
  (hr:∀k:Nat,∀(kvs:List (Int×List D)) (as:List (Int×D)),GrpA kvs as->as.length+(desc n (sub rs dep (k:Int)) (dep+1)).length<=500000->∃kvs',rc (j4 n (sub rs dep (k:Int)) (dep+1)) kvs=some kvs'/\GrpA kvs' (as++asD (desc n (sub rs dep (k:Int)) (dep+1)))) :
  ∀(K:List Nat) (kvs:List (Int×List D)) (as:List (Int×D)) (b2 b3:Option B),GrpA kvs as->as.length+(K.flatMap fun k:Nat=>(k,(⟨n,sub rs dep (k:Int),dep+1⟩:Nd)) :: desc n (sub rs dep (k:Int)) (dep+1)).length<=500000->∃kvs' b2' b3',
   GrpA kvs' (as++asD (K.flatMap fun k:Nat=>(k,(⟨n,sub rs dep (k:Int),dep+1⟩:Nd)) :: desc n (sub rs dep (k:Int)) (dep+1))) /\
   runFor (xx 2 (zg (bN 2) (zg (bN 3) xw))) (xq rc) (K.map fun k:Nat=>.tup [.int (k:Int),j4 n (sub rs dep (k:Int)) (dep+1)]) [some (.fz c),some (.od kvs),b2,b3]=some (.nx,[some (.fz c),some (.od kvs'),b2',b3'])
 | [],kvs,as,b2,b3,g,_=>⟨kvs,b2,b3,by simpa [asD] using g,rfl⟩
 | k :: K,kvs,as,b2,b3,g,hl=>by
  rw [g0s,n9,ph] at hl;have g1:=g.add (k:Int) (j4 n (sub rs dep (k:Int)) (dep+1));obtain⟨kv2,e2,g2⟩:=hr k _ _ g1 (by rw [n9,ph,g1j];omega);obtain⟨kvs',b2',b3',g3,er⟩:=q58 rc c n rs dep hr K kv2 _ (some (.fz (.int (k:Int)))) (some (.fz (j4 n (sub rs dep (k:Int)) (dep+1)))) g2 (by
   unfold asD;simp only [n9,ph,g1j,gr];omega)
  have e0:xx 2 (zg (bN 2) (zg (bN 3) xw)) (.tup [.int (k:Int),j4 n (sub rs dep (k:Int)) (dep+1)]) [some (.fz c),some (.od kvs),b2,b3]=some [some (.fz c),some (.od kvs),some (.fz (.int (k:Int))),some (.fz (j4 n (sub rs dep (k:Int)) (dep+1)))]:=rfl;have body:xq rc [some (.fz c),some (.od kvs),some (.fz (.int (k:Int))),some (.fz (j4 n (sub rs dep (k:Int)) (dep+1)))]=some (.nx,[some (.fz c),some (.od kv2),some (.fz (.int (k:Int))),some (.fz (j4 n (sub rs dep (k:Int)) (dep+1)))]):=by
   refine q07 (qcv g (by show _<1000000;omega) rfl (x_v rfl) (x_v rfl)) ?_;show(rc (j4 n (sub rs dep (k:Int)) (dep+1)) _).map _=_;rw [e2];rfl
  refine⟨kvs',b2',b3',?_,?_⟩
  ·rw [g0s]
   have:as++asD (((k,(⟨n,sub rs dep (k:Int),dep+1⟩:Nd)) :: desc n (sub rs dep (k:Int)) (dep+1))++K.flatMap fun k:Nat=>(k,(⟨n,sub rs dep (k:Int),dep+1⟩:Nd)) :: desc n (sub rs dep (k:Int)) (dep+1))
     = as++[((k:Int),j4 n (sub rs dep (k:Int)) (dep+1))]++asD (desc n (sub rs dep (k:Int)) (dep+1))++asD (K.flatMap fun k:Nat=>(k,(⟨n,sub rs dep (k:Int),dep+1⟩:Nd)) :: desc n (sub rs dep (k:Int)) (dep+1)):=by
    unfold asD;simp only [pj,gd,mj,g0w,g0p]
    rfl
   rw [this];exact g3
  ·rw [gd,xm e0 body,er]
theorem q8h:∀(n:Nat) (rs:List Run) (dep:Nat) (kvs:List (Int×List D)) (as:List (Int×D)) (m:Nat),n<m->Far rs->12<=dep+n->GrpA kvs as->as.length+(desc n rs dep).length<=500000 ->
  ∃kvs',F_gather_below m (j4 n rs dep) kvs=some kvs'/\GrpA kvs' (as++asD (desc n rs dep))
 | _,_,_,_,_,0,hm,_,_,_,_=>absurd hm (ni _)
 | 0,rs,dep,kvs,as,m+1,_,f,h,g,_=>by
  refine⟨kvs,?_,by simpa [desc,asD] using g⟩;have hk:=qax f (show 12<=dep from h);have e:j4 0 rs dep=.tup [.int (q36 rs),.tup []]:=by rw [j4,hk];rfl
  rw [e]
  rfl
 | n+1,rs,dep,kvs,as,m+1,hm,f,h,g,hl=>by
  obtain⟨kvs',b2,b3,g',er⟩:=q58 (F_gather_below m) (j4 (n+1) rs dep) n rs dep (fun k kv a ga hla=>q8h n (sub rs dep (k:Int)) (dep+1) kv a m (by omega) (f.sub dep k) (by omega) ga hla) (zy rs dep) kvs as none none g hl;refine⟨kvs',?_,g'⟩;have hs:x6 (F_gather_below m) [some (.fz (j4 (n+1) rs dep)),some (.od kvs),none,none]=some (.nx,[some (.fz (j4 (n+1) rs dep)),some (.od kvs'),b2,b3]):=
   q8v (q4a (yg (x_v rfl) x_c rfl) rfl) er
  show q6n 4 (x6 (F_gather_below m)) (j4 (n+1) rs dep) kvs=_;unfold q6n;rw [show q4t (4-2) (j4 (n+1) rs dep) kvs=[some (.fz (j4 (n+1) rs dep)),some (.od kvs),none,none] from rfl,hs]
  rfl
abbrev vb(Ls:List Nd): List (Nat×Nd):=Ls.flatMap fun x=>desc x.n x.rs x.dep
theorem q76(c:D): ∀(Ls:List Nd) (kvs:List (Int×List D)) (as:List (Int×D)) (b2:Option B),(∀x∈Ls,Far x.rs/\12<=x.dep+x.n/\x.n<=15)->GrpA kvs as->as.length+(vb Ls).length<=500000->∃kvs' b2',GrpA kvs' (as++asD (vb Ls)) /\
  runFor (bN 2) xi (Ls.map ndD) [some (.fz c),some (.od kvs),b2]=some (.nx,[some (.fz c),some (.od kvs'),b2'])
 | [],kvs,as,b2,_,g,_=>⟨kvs,b2,by simpa [asD,vb] using g,rfl⟩
 | x :: Ls,kvs,as,b2,h,g,hl=>by
  rw [vb,g0s,n9] at hl;obtain⟨hx1,hx2,hx3⟩:=h x gw;obtain⟨kv2,e2,g2⟩:=q8h x.n x.rs x.dep kvs as 16 (by omega) hx1 hx2 g (by omega);obtain⟨kvs',b2',g3,er⟩:=q76 c Ls kv2 _ (some (.fz (ndD x))) (fun y hy=>h y (gq _ hy)) g2 (by
   unfold asD;rw [n9,gr];show _+(Ls.flatMap fun x=>desc x.n x.rs x.dep).length<=_;omega)
  have body:xi [some (.fz c),some (.od kvs),some (.fz (ndD x))]=some (.nx,[some (.fz c),some (.od kv2),some (.fz (ndD x))]):=by
   show(v9 (ndD x) kvs).map _=_;rw [show v9 (ndD x) kvs=some kv2 from e2];rfl
  refine⟨kvs',b2',?_,?_⟩
  ·rw [vb,g0s]
   unfold asD at g3 ⊢;rw [pj, <- mj];exact g3
  ·rw [gd,xm (b:=bN 2) rfl body,er]
theorem qia(Ls:List Nd)(h:∀x∈Ls,Far x.rs/\12<=x.dep+x.n/\x.n<=15)(hl:(vb Ls).length<=500000): ∃kvs,GrpA kvs (asD (vb Ls))/\xj [.lst (Ls.map ndD)]=some (odD kvs):=by
 obtain⟨kvs,b2,g,er⟩:=q76 (.lst (Ls.map ndD)) Ls [] [] none h GrpA.nil (by simpa using hl);refine⟨kvs,by simpa using g,?_⟩;refine q4b (ρ':=[some (.fz (.lst (Ls.map ndD))),some (.fz (odD kvs)),b2]) (q07 (ρ1:=[some (.fz (.lst (Ls.map ndD))),some (.od []),none]) rfl (q07 (q8v (q4a (x_v rfl) rfl) er) ?_))
 rfl
def has(r:Run)(m:Nat): Bool:=decide (Builtin.bitAnd (mk r.2) (m:Int)=(m:Int))
theorem q8x{r:Run}{t:Nat}(ht:t<64)(e:r.2=qv 12 t)(m:Nat): has r m=decide (t &&& m=m):=by
 unfold has;rw [e,(q34 t ht).2,qct,g0k,g17,g17];omega
theorem qb0:∀t:Nat,t<64->∀i:Nat,i<6->∀m:Nat,m<2 ^ i->decide (t &&& (m+2 ^ i)=m+2 ^ i)=(decide (t &&& m=m)&&decide (t &&& 2 ^ i=2 ^ i)):=by decide +kernel
theorem ql4:∀t:Nat,t<64->∀i:Nat,i<6->decide (t &&& 2 ^ i=2 ^ i)=decide ((i:Int)∈qv 12 t):=by decide +kernel
theorem qga(n m:Nat): (qv n m).Pairwise (· < ·):=by
 unfold qv;rw [uf];refine List.Pairwise.imp ?_ (g0t _ (g47 (n:=n)));intro a b h;omega
structure Lev(rs0:List Run)(m s:Nat)(Ls:List Nd): Prop where
 w:∀f,WN f Ls=W f (rs0.filter fun r=>has r m)
 x:∀x∈Ls,Far x.rs/\12<=x.dep+x.n/\x.n<=15
 d:∀x∈Ls,∀r∈x.rs,r∈rs0/\r.2.drop x.dep=r.2.filter fun y=>decide ((s:Int)<=y)
 l:Ls.length<=1000
abbrev qb1(rs:List Run): Prop:=∀r∈rs,∃t,t<64/\r.2=qv 12 t
theorem qgb(Ls:List Nd): WN (fun _=>1) Ls=(Ls.map fun x=>(x.rs.length:Int)).sum:=by
 unfold WN;exact uy List.sum (g0f fun x _=>q8w x.rs)
theorem Lev.sz{rs0:List Run}{m s:Nat}{Ls:List Nd}(L:Lev rs0 m s Ls)(h0:rs0.length<=1000): (Ls.map fun x=>(x.rs.length:Int)).sum<=1000:=by
 rw [<- qgb,L.w,q8w];have:=tx (fun r=>has r m) rs0;omega
theorem Lev.all{rs0:List Run}{m s:Nat}{Ls:List Nd}(L:Lev rs0 m s Ls)(h0:rs0.length<=1000): (vb Ls).length<=500000:=by
 have h1:((vb Ls).length:Int)=_:=q5t (fun x:Nd=>desc x.n x.rs x.dep) Ls;have h2:=q75 (fun x:Nd=>((desc x.n x.rs x.dep).length:Int)) (fun x=>(x.rs.length:Int)*15) Ls fun x hx=>by
  obtain⟨a,b,c⟩:=L.x x hx;refine g3s (qaz x.n x.rs x.dep a) (Int.mul_le_mul_of_nonneg_left (by omega) (by omega))
 rw [q5s] at h2;have:=L.sz h0;omega
theorem qb2:∀(n:Nat) (rs:List Run) (dep:Nat) (p:Nat×Nd),Far rs->p∈desc n rs dep->Far p.2.rs/\p.2.n<=n
 | 0,_,_,_,_,h=>by cases h
 | n+1,rs,dep,p,f,h=>by
  rw [desc,g3t] at h;obtain⟨k,hk,h⟩:=h;rcases mw.mp h with rfl|h
  ·exact⟨f.sub dep k,g1e n⟩
  ·obtain⟨h1,h2⟩:=qb2 n _ _ p (f.sub dep k) h
   exact⟨h1,by omega⟩
theorem ql5{l:List (Nat×Nd)}{k:Nat}{x:Nd}(h:x∈atK l k): (k,x)∈l:=by
 obtain⟨p,hp,rfl⟩:=nu.mp h;obtain⟨h1,h2⟩:=mx.mp hp;have:p.1=k:=by simpa using h2
 rw [<- this];exact h1
theorem Lev.step{rs0:List Run}{m s:Nat}{Ls:List Nd}(L:Lev rs0 m s Ls)(h0:rs0.length<=1000)(ok:qb1 rs0)(hm:m<2 ^ s){k:Nat}(hk:s<=k)(hk6:k<6): Lev rs0 (m+2 ^ k) (k+1) (atK (vb Ls) k):=by
 have ri:∀x∈Ls,Rise x.rs:=fun x hx r hr=>by
  obtain⟨t,_,e⟩:=ok r (L.d x hx r hr).1;rw [e];exact qga 12 t
 have mem:∀y∈atK (vb Ls) k,∃x∈Ls,(k,y)∈desc x.n x.rs x.dep:=fun y hy=>g3t.mp (ql5 hy);have hw:∀f,WN f (atK (vb Ls) k)=W f (rs0.filter fun r=>has r (m+2 ^ k)):=fun f=>by
  rw [q5r];have e1:(Ls.map fun x=>WN f (atK (desc x.n x.rs x.dep) k))=Ls.map fun x=>W (fun r=>if(k:Int)∈r.2 then f r else 0) x.rs:=by
   refine g0f fun x hx=>?_;obtain⟨a,b,_⟩:=L.x x hx;rw [qg8 f k x.n x.rs x.dep a (ri x hx) b];refine ka fun r hr=>?_;rw [(L.d x hx r hr).2];have:((k:Int)∈r.2.filter fun y=>decide ((s:Int)<=y))↔(k:Int)∈r.2:=by
    rw [mx];exact⟨fun z=>z.1,fun z=>⟨z,n8 (by omega)⟩⟩
   by_cases z:(k:Int)∈r.2
   ·rw [m4 z,m4 (this.mpr z)]
   ·rw [m9 z,m9 fun y=>z (this.mp y)]
  rw [e1];refine(L.w _).trans ?_;rw [q37,q37];refine ka fun r hr=>?_;obtain⟨t,ht,e⟩:=ok r hr;have h2:=qb0 t ht k hk6 m (mf hm (uw (by decide) hk));rw [ql4 t ht k hk6, <- e, <- q8x ht e, <- q8x ht e] at h2;rw [h2]
  by_cases z:(k:Int)∈r.2
  ·rw [m4 z,n8 z,g0r]
  ·rw [m9 z,p9 z,Bool.and_false]
   split <;> rfl
 refine⟨hw,fun y hy=>?_,fun y hy=>?_,?_⟩
 ·obtain⟨x,hx,hd⟩:=mem y hy
  obtain⟨a,b,c⟩:=L.x x hx;obtain⟨f1,f2⟩:=qb2 _ _ _ _ a hd;have:=(q38 _ _ _ _ (ri x hx) hd).1;dsimp only at this f1 f2;exact⟨f1,by omega,by omega⟩
 ·obtain⟨x,hx,hd⟩:=mem y hy
  have:=(q38 _ _ _ _ (ri x hx) hd).2.1;exact fun r hr=>⟨(L.d x hx r (this r hr).1).1,by rw [(this r hr).2];rfl⟩
 ·have h1:=q75 (fun _:Nd=>(1:Int)) (fun x=>(x.rs.length:Int)) (atK (vb Ls) k) fun y hy=>by
   obtain⟨x,hx,hd⟩:=mem y hy;have hne:y.rs≠[]:=(q38 _ _ _ _ (ri x hx) hd).2.2;have:=List.length_pos_iff.mpr hne;show(1:Int)<=(y.rs.length:Int);omega
  rw [<- qgb,hw,q8w] at h1;have h2:((atK (vb Ls) k).map fun _:Nd=>(1:Int)).sum=((atK (vb Ls) k).length:Int):=by
   generalize atK (vb Ls) k=l
   induction l with
   | nil=>rfl
   | cons x l ih=>rw [gd,g08,ih,ph];omega
  have:=tx (fun r=>has r (m+2 ^ k)) rs0;omega
end My
open PySem PyProof.Rows L2 DL
namespace My
open PySem PyProof.Rows L2 DL
def firstOf(b:List Int): Int:=match b.getLast? with
 | some x=>x+1
 | none=>0
theorem q8i:∀i:Nat,i<6->∀m:Nat,m<2 ^ i->qv 12 (m+2 ^ i)=qv 12 m++[(i:Int)]:=by decide +kernel
theorem qeh(b:List Int)(i:Nat): firstOf (b++[(i:Int)])=((i+1:Nat):Int):=by
 unfold firstOf;rw [g2q];simp
theorem qd0(b:List Int)(x:Int): oIx (TI (b++[x])) (.int (-1))=some (.int x):=by
 rw [qi3,qi1,pj,gd,g04,g2q];simp
theorem ql6{fa:FA}{ρ : Rho}{i j:Int}(ha:fa ρ = some [.int i,.int j])(h1 : -(2 ^ 62)<=i)(h2:i<2 ^ 62)(h3 : -(2 ^ 62)<=j)(h4:j<2 ^ 62): iR2 fa ρ = some (z0 i (j-i).toNat):=by
 unfold iR2;rw [ha,gm];dsimp only;rw [n8 h1,n8 h2,n8 h3,n8 h4]
 rfl
theorem qbp(b:List Int)(w s:Nat)(hs:firstOf b=(s:Int))(hb:b.length<=100)(hw:w<=100)(hs2:s<=100): xk [TI b,.int (w:Int)]=some (.lst ((List.range (w-s)).map fun i:Nat=>TI (b++[((s+i:Nat):Int)]))):=by
 have e:eIf (bT (eV 0)) (eOp zo (eOp oIx (eV 0) (eUn q1b (eC (.int 1)))) (eC (.int 1))) (eC (.int 0)) [some (.fz (TI b)),some (.fz (.int (w:Int))),none]=some (.int (s:Int)):=by
  rw [<- hs];cases b with
  | nil=>rfl
  | cons x r=>
   have hx:∃b' y,x :: r=b'++[y]:=⟨(x :: r).dropLast,(x :: r).getLast (by simp),(List.dropLast_concat_getLast (by simp)).symm⟩
   obtain⟨b',y,e⟩:=hx;have ht:bT (eV 0) [some (.fz (TI (x :: r))),some (.fz (.int (w:Int))),none]=some true:=rfl;unfold eIf;rw [ht,gm,m4 rfl,e];have hf:firstOf (b'++[y])=y+1:=by unfold firstOf;rw [g2q];simp
   rw [hf];exact yg (yg (x_v rfl) (qne x_c rfl) (qd0 b' y)) x_c rfl
 have r:iR2 (qa (eV 2) (qa (eV 1) qf)) [some (.fz (TI b)),some (.fz (.int (w:Int))),some (.fz (.int (s:Int)))]=some (z0 (s:Int) (w-s)):=by
  rw [ql6 (zj (x_v rfl) (zj (x_v rfl) xr)) (by omega) (by omega) (by omega) (by omega),show((w:Int)-(s:Int)).toNat=w-s by omega]
 have hl:(z0 (s:Int) (w-s)).length<=lim:=by rw [q6y];show _<=1000000;omega
 have c:qw (bN 0) zl (eOp zo (eV 1) (za (qa (eV 0) qf))) [none,some (.fz (TI b))] (z0 (s:Int) (w-s))=some ((List.range (w-s)).map fun i:Nat=>TI (b++[((s+i:Nat):Int)])):=by
  have:=q55 (b:=bN 0) (f:=eOp zo (eV 1) (za (qa (eV 0) qf))) (ρ :=[none,some (.fz (TI b))]) (fun d=>match d with | .int x=>TI (b++[x])|_=>.non) (ds:=z0 (s:Int) (w-s)) fun d hd=>by
   simp only [z0,nu] at hd;obtain⟨i,_,rfl⟩:=hd;refine⟨_,rfl,yg (x_v rfl) (qe6 (zj (x_v rfl) xr) (by show 1<=1000000;decide)) ?_⟩;rw [qfy _ _ (by rw [gr];simp;omega)];simp only [TI,pj,gd,g04]
  rw [this,z0,nv]
  congr 1
 have lc:zm (iR2 (qa (eV 2) (qa (eV 1) qf))) [none,some 0] (bN 0) zl (eOp zo (eV 1) (za (qa (eV 0) qf))) [some (.fz (TI b)),some (.fz (.int (w:Int))),some (.fz (.int (s:Int)))]=some ((List.range (w-s)).map fun i:Nat=>TI (b++[((s+i:Nat):Int)])):=by
  unfold zm;rw [r,gm,m4 hl];exact c
 have k1:j7 2 (eIf (bT (eV 0)) (eOp zo (eOp oIx (eV 0) (eUn q1b (eC (.int 1)))) (eC (.int 1))) (eC (.int 0))) [some (.fz (TI b)),some (.fz (.int (w:Int))),none]=some (.nx,[some (.fz (TI b)),some (.fz (.int (w:Int))),some (.fz (.int (s:Int)))]):=by
  unfold j7;rw [e]
  rfl
 have k2:zi (eL (zm (iR2 (qa (eV 2) (qa (eV 1) qf))) [none,some 0] (bN 0) zl (eOp zo (eV 1) (za (qa (eV 0) qf))))) [some (.fz (TI b)),some (.fz (.int (w:Int))),some (.fz (.int (s:Int)))]=some (.rt (.lst ((List.range (w-s)).map fun i:Nat=>TI (b++[((s+i:Nat):Int)]))),[some (.fz (TI b)),some (.fz (.int (w:Int))),some (.fz (.int (s:Int)))]):=by
  unfold zi;rw [x_l lc]
  rfl
 have k3:jn [some (.fz (TI b)),some (.fz (.int (w:Int))),none]=some (.rt (.lst ((List.range (w-s)).map fun i:Nat=>TI (b++[((s+i:Nat):Int)]))),[some (.fz (TI b)),some (.fz (.int (w:Int))),some (.fz (.int (s:Int)))]):=by
  unfold jn z6;simp (config:={implicitDefEqProofs:=false}) only [k1,gm,k2]
 refine je ?_;have k4:([TI b,.int (w:Int)].map (fun d=>some (B.fz d))++List.replicate (3 - [TI b,D.int (w:Int)].length) none:Rho)=[some (.fz (TI b)),some (.fz (.int (w:Int))),none]:=rfl;rw [k4,k3,pf]
def jd(rs:List Run)(L:Int)(k:Nat): Bool:=decide (L<=cM rs k)
theorem qoq(x:Nd): oIx (ndD x) (.int 0)=some (.int (q36 x.rs)):=by
 unfold ndD;cases x.n <;> rfl
theorem qib(Ls:List Nd)(ρ : Rho): qw (bN 0) zl (eOp oIx (eV 0) (eC (.int 0))) (none :: ρ) (Ls.map ndD)=some ((Ls.map fun x=>q36 x.rs).map D.int):=by
 have:=q0j (b:=bN 0) (c:=zl) (e:=eOp oIx (eV 0) (eC (.int 0))) (ρ :=none :: ρ) ndD (fun _=>true) (fun x=>D.int (q36 x.rs)) Ls fun x _=>⟨_,rfl,rfl,fun _=>yg (x_v rfl) x_c (qoq x)⟩
 rw [this,g02.mpr (fun _ _=>rfl),nv];rfl
theorem Lev.num{rs:List Run}{m s:Nat}{Ls:List Nd}(V:Lev rs m s Ls): (Ls.map fun x=>q36 x.rs).sum=cM rs m:=V.w (·.1)
theorem qd1(w:Nat)(rs:List Run)(L:Int)(hw:w<=6)(rc:List D->Option D)(m s0:Nat)(hm:m<2 ^ s0)(kvs:List (Int×List D))(Ls:List Nd)(g:GrpA kvs (asD (vb Ls)))
  (ih:∀i,s0<=i->i<w->rc [q0g (m+2 ^ i),.lst ((atK (vb Ls) i).map ndD),.int (w:Int),.int L]=some (.lst ((yh (jd rs L) (w-(i+1)) (i+1) (m+2 ^ i)).map (pairD rs)))) (x0 x1 x4:Option B) :
  ∀ (d s:Nat) (acc:List D) (b7:Option B),s0<=s->s+d=w->acc.length+2 ^ d<=1000->∃b7',
   runFor (bN 7) (xl rc) ((List.range d).map fun i:Nat=>TI (qv 12 m++[((s+i:Nat):Int)])) [x0,x1,some (.fz (.int (w:Int))),some (.fz (.int L)),x4,some (.ow acc),some (.fz (odD kvs)),b7] =
    some (.nx,[x0,x1,some (.fz (.int (w:Int))),some (.fz (.int L)),x4,some (.ow (acc++(q0b (jd rs L) d s m).map (pairD rs))),some (.fz (odD kvs)),b7'])
 | 0,s,acc,b7,_,_,_=>⟨b7,by simp [runFor,q0b]⟩
 | d+1,s,acc,b7,h1,h2,h3=>by
  have hms:m<2 ^ s:=mf hm (uw (by decide) h1);have e0:qv 12 m++[((s+0:Nat):Int)]=qv 12 (m+2 ^ s):=(q8i s (by omega) m hms).symm;have em:=ih s h1 (by omega);rw [show w-(s+1)=d by omega] at em;have hlast:oIx (q0g (m+2 ^ s)) (.int (-1))=some (.int (s:Int)):=by
   rw [q0g, <- e0];exact qd0 _ _
  have hget:q4u (odD kvs) [.int (s:Int),.lst []]=some (.lst ((atK (vb Ls) s).map ndD)):=by
   rw [g.get,qg7]
  have hlen:=q5q (jd rs L) d (s+1) (m+2 ^ s);have hl2:(yh (jd rs L) d (s+1) (m+2 ^ s)).length<=2 ^ d:=by
   unfold yh
   split
   ·rw [ph];exact hlen
   ·exact g0b _
  have hp2:2 ^ (d+1)=2 ^ d*2:=g2p ..;have hll:acc.length+((yh (jd rs L) d (s+1) (m+2 ^ s)).map (pairD rs)).length<=lim:=by rw [gr];show _<=1000000;omega
  have body:xl rc [x0,x1,some (.fz (.int (w:Int))),some (.fz (.int L)),x4,some (.ow acc),some (.fz (odD kvs)),some (.fz (q0g (m+2 ^ s)))] =
    some (.nx,[x0,x1,some (.fz (.int (w:Int))),some (.fz (.int L)),x4,some (.ow (acc++(yh (jd rs L) d (s+1) (m+2 ^ s)).map (pairD rs))),some (.fz (odD kvs)),some (.fz (q0g (m+2 ^ s)))]):=by
   have a1:q6o (eV 6) (qa (eOp oIx (eV 7) (eUn q1b (eC (.int 1)))) (qa (eL (yo qf)) qf)) [x0,x1,some (.fz (.int (w:Int))),some (.fz (.int L)),x4,some (.ow acc),some (.fz (odD kvs)),some (.fz (q0g (m+2 ^ s)))]=some (.lst ((atK (vb Ls) s).map ndD)):=by
    have a0:qa (eOp oIx (eV 7) (eUn q1b (eC (.int 1)))) (qa (eL (yo qf)) qf) [x0,x1,some (.fz (.int (w:Int))),some (.fz (.int L)),x4,some (.ow acc),some (.fz (odD kvs)),some (.fz (q0g (m+2 ^ s)))]=some [.int (s:Int),.lst []]:=zj (yg (x_v rfl) (qne x_c rfl) hlast) (zj (x_l rfl) xr);unfold q6o;rw [x_v (d:=odD kvs) rfl,gm,a0,gm];exact hget
   have a2:qk (qt 4 [] rc) (qa (eV 7) (qa (q6o (eV 6) (qa (eOp oIx (eV 7) (eUn q1b (eC (.int 1)))) (qa (eL (yo qf)) qf))) (qa (eV 2) (qa (eV 3) qf)))) [x0,x1,some (.fz (.int (w:Int))),some (.fz (.int L)),x4,some (.ow acc),some (.fz (odD kvs)),some (.fz (q0g (m+2 ^ s)))]=some (.lst ((yh (jd rs L) d (s+1) (m+2 ^ s)).map (pairD rs))):=
    q49 (zj (x_v rfl) (zj a1 (zj (x_v rfl) (zj (x_v rfl) xr)))) rfl em
   unfold xl qhu;rw [a2];show(if acc.length+((yh (jd rs L) d (s+1) (m+2 ^ s)).map (pairD rs)).length<=lim then _ else none)=_;rw [m4 hll]
   rfl
  obtain⟨b7',e⟩:=qd1 w rs L hw rc m s0 hm kvs Ls g ih x0 x1 x4 d (s+1) (acc++(yh (jd rs L) d (s+1) (m+2 ^ s)).map (pairD rs)) (some (.fz (q0g (m+2 ^ s)))) (by omega) (by omega)
   (by rw [n9,gr];omega)
  refine⟨b7',?_⟩;rw [g22,gd,e0,xm (b:=bN 7) rfl body,nv];have er:((fun i:Nat=>TI (qv 12 m++[((s+i:Nat):Int)])) ∘ Nat.succ)=fun i:Nat=>TI (qv 12 m++[((s+1+i:Nat):Int)]):=by
   funext i
   show TI (qv 12 m++[((s+(i+1):Nat):Int)])=_;rw [show s+(i+1)=s+1+i by omega]
  rw [er,e,q0b]
  congr 3
  simp only [yh,pj,mj]
theorem qiy(w:Nat)(rs:List Run)(L:Int)(hw:w<=6)(hl:rs.length<=1000)(ok:qb1 rs): ∀(n d s m:Nat) (Ls:List Nd),s+d=w->m<2 ^ s->firstOf (qv 12 m)=(s:Int)->d<n->Lev rs m s Ls ->
  F_pairs_from n [q0g m,.lst (Ls.map ndD),.int (w:Int),.int L]=some (.lst ((yh (jd rs L) d s m).map (pairD rs)))
 | 0,d,s,m,_,_,_,_,h,_=>absurd h (ni _)
 | n+1,d,s,m,Ls,h1,h2,h3,h4,V=>by
  have hl':Ls.length<=lim:=by have:=V.l;show _<=1000000;omega
  have nc:=qib Ls [];have sn:=q1s (Ls.map fun x=>q36 x.rs);rw [V.num] at sn;show ze 8 (xa (F_pairs_from n)) _=_
  by_cases hb:L<=cM rs m
  ·have om:=qbp (qv 12 m) w s h3 (ml (q5m 12 m) (by decide)) (by omega) (by omega)
   rw [show w-s=d by omega] at om;have hlt:¬cM rs m<L:=by omega
   have hp:2 ^ d<=64:=ml (uw (by decide) (by omega:d<=6)) (by decide);obtain⟨kvs,g,nw⟩:=qia Ls V.x (V.all hl);obtain⟨b7,e⟩:=qd1 w rs L hw (F_pairs_from n) m s h2 kvs Ls g (fun i hi hiw=>by
    have hmi:m<2 ^ i:=mf h2 (uw (by decide) hi);refine qiy w rs L hw hl ok n (w-(i+1)) (i+1) (m+2 ^ i) _ (by omega) (by rw [g2p];omega) ?_ (by omega) (V.step hl ok h2 hi (by omega));rw [q8i i (by omega) m hmi,qeh]) (some (.fz (q0g m))) (some (.fz (.lst (Ls.map ndD)))) (some (.fz (.int (cM rs m)))) d s [pairD rs m] none (gu _) h1 (by simp only [ph,g1j];omega)
   have ho:yh (jd rs L) d s m=m :: q0b (jd rs L) d s m:=by unfold yh jd;rw [n8 hb,m4 rfl]
   rw [ho]
   (refine je ?_;simp! [xa,zm,hl',nc,sn,hlt,nw,om,e])
  ·have hlt:cM rs m<L:=by omega
   have ho:yh (jd rs L) d s m=[]:=by unfold yh jd;rw [p9 hb,m9 gz]
   rw [ho]
   (refine je ?_;simp! [xa,zm,hl',nc,sn,hlt])
theorem q4f(t:Nat)(ht:t<64): ∀d s m,s+d<=6->m<2 ^ s->∀k∈xn d s m,t &&& k=k->t &&& m=m
 | 0,s,m,_,_,k,hk,e=>by
  rw [xn,my] at hk;rw [<- hk];exact e
 | d+1,s,m,hd,hm,k,hk,e=>by
  have e2:2 ^ (s+1)=2 ^ s*2:=g2p ..;rw [xn,pb] at hk;rcases hk with hk|hk
  ·exact q4f t ht d (s+1) m (by omega) (by omega) k hk e
  ·have h1:=q4f t ht d (s+1) (m+2 ^ s) (by omega) (by omega) k hk e
   have g:=qb0 t ht s (by omega) m hm;rw [n8 h1] at g;exact ue (Bool.and_eq_true_iff.mp g.symm).1
theorem qb3(p q:Run->Bool): ∀rs:List Run,(∀r∈rs,0<=r.1)->(∀r∈rs,p r=true->q r=true)->((rs.filter p).map (·.1)).sum<=((rs.filter q).map (·.1)).sum
 | [],_,_=>Int.le_refl _
 | r :: rs,h,hpq=>by
  have ih:=qb3 p q rs (fun x hx=>h x (gq _ hx)) fun x hx=>hpq x (gq _ hx);have h0:=h r gw;have h1:=hpq r gw;rw [tq,tq];cases hp:p r with
  | true=>
   rw [hp] at h1;rw [m4 rfl,m4 (h1 rfl),gd,gd,g08,g08];omega
  | false=>
   rw [m9 gz]
   split
   ·rw [gd,g08];omega
   ·exact ih
theorem anti(rs:List Run)(L:Int)(h:q09 rs)(d s m:Nat)(hd:s+d<=6)(hm:m<2 ^ s)(hf:jd rs L m=false)(k:Nat)(hk:k∈xn d s m): jd rs L k=false:=by
 have hc:cM rs k<=cM rs m:=qb3 (fun r=>has r k) (fun r=>has r m) rs (fun r hr=>(h.2 r hr).2.2.1) fun r hr hb=>by
  obtain⟨t,ht,e⟩:=(h.2 r hr).2.2.2;have hb':has r k=true:=hb;show has r m=true;rw [q8x ht e] at hb' ⊢;exact n8 (q4f t ht d s m hd hm k hk (ue hb'))
 unfold jd at hf ⊢;have:=of_decide_eq_false hf;exact p9 (by omega)
theorem q0s(self:D)(w:Nat)(rs:List Run)(L:Int)(hw:w<=6)(h:q09 rs): qu [self,q08 w rs,.int L]=some (.tup ((oft w rs L).map (pairD rs))):=by
 have ok:qb1 rs:=fun r hr=>(h.2 r hr).2.2.2;have far:Far rs:=⟨h.1,fun r hr x hx=>by
   obtain⟨t,_,e⟩:=ok r hr;rw [e] at hx;obtain⟨i,rfl,hi⟩:=qan hx;omega,fun r hr=>by
   obtain⟨t,_,e⟩:=ok r hr;rw [e];exact q5m 12 t⟩
 have te:=ql3 w rs far;have V:Lev rs 0 0 [⟨15,rs,0⟩]:=by
  refine⟨fun f=>?_,fun x hx=>?_,fun x hx r hr=>?_,by show 1<=1000;decide⟩
  ·have e1:rs.filter (fun r=>has r 0)=rs:=g02.mpr fun r hr=>by
    obtain⟨t,ht,e⟩:=ok r hr;rw [q8x ht e];simp
   rw [e1];unfold WN;simp
  ·cases my.mp hx
   exact⟨far,by show 12<=0+15;decide,by show 15<=15;decide⟩
  ·cases my.mp hx
   refine⟨hr,(g02.mpr fun y hy=>?_).symm⟩;exact n8 (by have:=(far.mem r hr y hy).1;omega)
 have pe:=qiy w rs L hw h.1 ok 16 w 0 0 _ (by omega) (by decide) (by decide) (by omega) V;have h2:=qec hw;have hp:=(qg3 (jd rs L) (anti rs L h) w 0 0 (by omega) (by decide)).trans ((qbo w (by omega)).filter (jd rs L));have lt64:∀k∈(List.range (2 ^ w)).filter (jd rs L),k<64:=fun k hk=>by
  have:=ur.mp (mx.mp hk).1;omega
 have io:=qef rs (yh (jd rs L) w 0 0) (hp.nodup_iff.mpr (g2a.filter _)) fun k hk=>lt64 k (hp.mem_iff.mp hk);rw [qee hp lt64,q4d _ _ (fun k hk=>by have:=ur.mp hk;omega)] at io;have pe':q04 [.tup [],.lst [j4 15 rs 0],.int (w:Int),.int L]=some (.lst ((yh (jd rs L) w 0 0).map (pairD rs))):=pe
 (refine je ?_;simp! [jq,te,pe',io])
 rfl
end My
open PySem PyProof.Rows L2 DL
namespace My
open PySem PyProof.Rows L2 DL
def othR:List Run:=[(3,[0]),(1,[0,1]),(2,[])]
theorem qgc:q09 othR:=by
 refine⟨by decide,fun r hr=>?_⟩;simp only [othR,mw,g0a,g27] at hr;rcases hr with rfl|rfl|rfl
 ·exact⟨by decide,by decide,by decide,1,by decide,by decide⟩
 ·exact⟨by decide,by decide,by decide,3,by decide,by decide⟩
 ·exact⟨by decide,by decide,by decide,0,by decide,by decide⟩
def nilR:List Run:=[(5,[]),(2,[])]
theorem ql7:q09 nilR:=by
 refine⟨by decide,fun r hr=>?_⟩;simp only [nilR,mw,g0a,g27] at hr;rcases hr with rfl|rfl <;> exact⟨by decide,by decide,by decide,0,by decide,by decide⟩
theorem ql8:q09 []:=⟨by decide,fun r hr=>by cases hr⟩
abbrev qnn:D:=.tup [.int 2,.tup [.tup [.int 3,.tup [.int 0]],.tup [.int 1,.tup [.int 0,.int 1]],.tup [.int 2,.tup []]]]
abbrev qpk:D:=.tup [.int 0,.tup [.tup [.int 5,.tup []],.tup [.int 2,.tup []]]]
theorem qic:qu [.obj "Branching",qnn,.int 2]=some (.tup [.tup [.tup [],.int 6],.tup [.tup [.int 0],.int 4]]):=by
 have:=q0s (.obj "Branching") 2 othR 2 (by decide) qgc;have e:oft 2 othR 2=[0,1]:=by decide
 rw [e] at this;have c0:cM othR 0=6:=by decide
 have c1:cM othR 1=4:=by decide
 simp only [gd,g04,pairD,c0,c1] at this;exact this
theorem qid:qu [.obj "Branching",qnn,.int 7]=some (.tup []):=by
 have:=q0s (.obj "Branching") 2 othR 7 (by decide) qgc;have e:oft 2 othR 7=[]:=by decide
 rw [e] at this;exact this
theorem qie:qu [.obj "Branching",.tup [.int 0,.tup []],.int 1]=some (.tup []):=by
 have:=q0s (.obj "Branching") 0 [] 1 (by decide) ql8;have e:oft 0 [] 1=[]:=by decide
 rw [e] at this;exact this
theorem ql9:qu [.obj "Branching",qpk,.int 7]=some (.tup [.tup [.tup [],.int 7]]):=by
 have:=q0s (.obj "Branching") 0 nilR 7 (by decide) ql7;have e:oft 0 nilR 7=[0]:=by decide
 rw [e] at this;have c0:cM nilR 0=7:=by decide
 simp only [gd,g04,pairD,c0] at this;exact this
theorem qif:jc [.tup [.tup [.tup [],.int 6],.tup [.tup [.int 0],.int 4]],.lst [.tup [.tup [],.int 6],.tup [.tup [.int 0],.int 4]]]=some (.bl true):=q5p [([],6),([0],4)]
theorem qig:jc [.tup [.tup [.tup [],.int 7]],.lst [.tup [.tup [],.int 7]]]=some (.bl true):=q5p [([],7)]
theorem ne_nil:qdn (.tup []) (.tup [])=some (.bl false):=rfl
theorem qla:isO "Branching" (.obj "Branching")=true:=by decide
theorem qih(w:Nat)(rs:List Run)(L:Int): qw (bN 0) (jr oGe (eOp oIx (eV 2) (eV 0)) (eV 1)) (eV 0) [none,some (.fz (.int L)),some (.fz (.lst ((List.range (2 ^ w)).map fun i:Nat=>.int (cM rs i))))] (z0 0 (2 ^ w)) =
  some (((List.range (2 ^ w)).filter fun k=>decide (L<=cM rs k)).map fun k:Nat=>.int (k:Int)):=by
 have key:∀l:List Nat,(∀k∈l,k<2 ^ w)->qw (bN 0) (jr oGe (eOp oIx (eV 2) (eV 0)) (eV 1)) (eV 0) [none,some (.fz (.int L)),some (.fz (.lst ((List.range (2 ^ w)).map fun i:Nat=>.int (cM rs i))))] (l.map fun k:Nat=>.int (k:Int)) =
   some ((l.filter fun k=>decide (L<=cM rs k)).map fun k:Nat=>.int (k:Int)):=by
  intro l hl
  induction l with
  | nil=>rfl
  | cons k l ih=>
   have ih':=ih fun x hx=>hl x (gq _ hx);have hi:atI ((List.range (2 ^ w)).map fun i:Nat=>D.int (cM rs i)) (k:Int)=some (.int (cM rs k)):=by
    rw [q0f,mh,List.getElem?_range (hl k gw)];rfl
   rw [gd]
   by_cases hb:L<=cM rs k
   ·simp! [qw,ih',hi,hb,tq,decide_true,ny]
   ·simp! [qw,ih',hi,hb,tq,g4k,nt,m7]
 rw [q7r];exact key _ fun k hk=>ur.mp hk
theorem qii:∀ns:List Int,ns.length<=63->qe5 [.lst (ns.map .int)]=some (.bl true):=by
 intro ns hl;obtain⟨c0,ec⟩:=q23 ns 0;rw [show((0:Nat):Int)=0 from rfl] at ec;obtain⟨w,hw,em⟩:=q4w (x:=c0 / 2) (n:=7) (by decide);have hw6:w<=6:=by omega
 rw [show((7:Nat):Int)=7 from rfl] at em;obtain⟨rs,ep,hrs⟩:=qbm ns hl w (by omega) 61 (by decide);rw [show((61:Nat):Int)=61 from rfl] at ep;have h2:=qec hw6;have hc:=q8s w rs hrs hw6;obtain⟨L,hL0⟩:=qaq ns ((List.range (2 ^ w)).map fun i:Nat=>cM rs i) (by rw [gr,g1x];exact Nat.pow_pos (by decide)) (by rw [gr,g1x];omega);rw [nv] at hL0;have hL1:j3 [.lst (ns.map .int),.lst ((List.range (2 ^ w)).map fun i:Nat=>.int (cM rs i))]=some (.int L):=hL0;have dc:=qih w rs L;have hlr:(z0 0 (2 ^ w)).length<=lim:=by rw [q6y];show _<=1000000;omega
 have pe:=qi6 w rs hw6 ((List.range (2 ^ w)).filter fun k=>decide (L<=cM rs k)) (fun k hk=>ur.mp (mx.mp hk).1) (ml (tx _ _) (by rw [g1x];omega));rw [q4d _ _ (fun k hk=>by have:=ur.mp hk;omega)] at pe;have pe':yc [.lst (((List.range (2 ^ w)).filter fun k=>decide (L<=cM rs k)).map fun k:Nat=>.int (k:Int)),.lst ((List.range (2 ^ w)).map fun i:Nat=>.int (cM rs i))]=some (.lst ((oft w rs L).map (pairD rs))):=pe;have we:=q0s (.obj "Branching") w rs L hw6 hrs;have sp:=qed rs (oft w rs L);have hr:iR1 (qa (qk x9 (qa (eV 3) qf)) qf) [some (.fz (.lst (ns.map .int))),some (.fz (.int (w:Int))),some (.fz (q08 w rs)),some (.fz (.lst ((List.range (2 ^ w)).map fun i:Nat=>.int (cM rs i)))),some (.fz (.int L)),none,none,none]=some (z0 0 (2 ^ w)):=by
  have ha:qa (qk x9 (qa (eV 3) qf)) qf [some (.fz (.lst (ns.map .int))),some (.fz (.int (w:Int))),some (.fz (q08 w rs)),some (.fz (.lst ((List.range (2 ^ w)).map fun i:Nat=>.int (cM rs i)))),some (.fz (.int L)),none,none,none]=some [.int ((2 ^ w:Nat):Int)]:=by
   refine zj (x_call (zj (x_v rfl) xr) ?_) xr;rw [qix,gr,g1x]
  have h3:(0:Int)<=((2 ^ w:Nat):Int):=g31 _;have h4:((2 ^ w:Nat):Int)<=64:=by exact_mod_cast h2
  rw [q7q _ _ _ ha (g3s (by decide) h3) (Int.lt_of_le_of_lt h4 (by decide)),ud]
 have e7:=qic;have e8:=qid;have e9:=qie;have e10:=ql9
 (refine je ?_;simp! [q6x,ec,em,ep,hc,hL1,zm,hr,hlr,dc,pe',q3m,qla,we,sp,e7,e8,e9,e10,qif,qig,ne_nil,ny,g10,m7,nt])
end My
namespace My
open PySem PySem.Spec PyProof.Rows L2 DL
open PySem.W (nsIn fnOf keepIn codeIn mg_of subIn mg_none_of findIn plainGet)
theorem ln1{s:Shared}{fd:FuncData}{ps:List Str}(h:∀a0,BindsTo s fd ⟨[a0],[]⟩ (ps.zip ([a0]++[]))): ∀us:List Value,(us++[]).length=1->BindsTo s fd ⟨us,[]⟩ (ps.zip (us++[]))
 | [a0],_=>h a0
theorem ln2{s:Shared}{fd:FuncData}{ps:List Str}(h:∀a0 a1,BindsTo s fd ⟨[a0,a1],[]⟩ (ps.zip ([a0,a1]++[]))): ∀us:List Value,(us++[]).length=2->BindsTo s fd ⟨us,[]⟩ (ps.zip (us++[]))
 | [a0,a1],_=>h a0 a1
theorem ln3{s:Shared}{fd:FuncData}{ps:List Str}(h:∀a0 a1 a2,BindsTo s fd ⟨[a0,a1,a2],[]⟩ (ps.zip ([a0,a1,a2]++[]))): ∀us:List Value,(us++[]).length=3->BindsTo s fd ⟨us,[]⟩ (ps.zip (us++[]))
 | [a0,a1,a2],_=>h a0 a1 a2
theorem ln4{s:Shared}{fd:FuncData}{ps:List Str}(h:∀a0 a1 a2 a3,BindsTo s fd ⟨[a0,a1,a2,a3],[]⟩ (ps.zip ([a0,a1,a2,a3]++[]))): ∀us:List Value,(us++[]).length=4->BindsTo s fd ⟨us,[]⟩ (ps.zip (us++[]))
 | [a0,a1,a2,a3],_=>h a0 a1 a2 a3
theorem all_mk{q:Program}{l:PySem.W.OpenLaw}{w:World}{K:Frag}{h:Heap}{mg:Str->Option Value}{fa:Addr}(X:K.In h)(G:h.Ns mainGlobals mg)(hfa:mg "law" = some (.ref fa))(hm:∀ns:List Int,ns.length<=63->qe5 [.lst (ns.map .int)]=some (.bl true))
  {C_Branching:Addr}
  (x_Branching:nsIn K mainGlobals "Branching" = some (some (.ref C_Branching)))
  (mk_Branching:PySem.W.makesIn K C_Branching=true)
  (in_Branching:findIn K (.ref C_Branching) "__init__" = some (some (.builtin "object.__init__")))
  (kp_Branching:keepIn K (.ref C_Branching)=true)
  (pg_Branching:plainGet K C_Branching Str.empty=true)
  (hd_Branching:PySem.W.hasDictIn K C_Branching=true)
  (po_Branching:PySem.W.plainOver K C_Branching=true)
  (sa_Branching:findIn K (.ref C_Branching) "__setattr__" = some (some (.builtin "object.__setattr__")))
  (cg_Branching:plainGet K C_Branching "__class__" = true)
  (cc_Branching:findIn K (.ref C_Branching) "__class__" = some (some (.builtin "object.__class__")))
  (cs_Branching:PySem.W.specialIn K (.builtin "object.__class__") "__get__" = some (some (.builtin "getset_descriptor.__get__")))
  (ct_Branching:PySem.W.takesIn K (.builtin "object.__class__")=some true)
  (cm_Branching:PySem.W.mroIn K C_Branching (.type "object")=some true)
  (ciint_Branching:subIn K (.ref C_Branching) (.type "int")=some false)
  (cibool_Branching:subIn K (.ref C_Branching) (.type "bool")=some false)
  (cituple_Branching:subIn K (.ref C_Branching) (.type "tuple")=some false)
  (cilist_Branching:subIn K (.ref C_Branching) (.type "list")=some false)
  (cistr_Branching:subIn K (.ref C_Branching) (.type "str")=some false)
  (cidict_Branching:subIn K (.ref C_Branching) (.type "dict")=some false)
  {fa_8:Addr} {fd_law_mixed:FuncData} (x_8:nsIn K mainGlobals "_law_mixed" = some (some (.ref fa_8))) (F_law_mixed:Fun2 K "_law_mixed" "_law_mixed" y6 .none fa_8 fd_law_mixed)
  {fa_3:Addr} {fd_law_cell:FuncData} (x_3:nsIn K mainGlobals "_law_cell" = some (some (.ref fa_3))) (F_law_cell:Fun2 K "_law_cell" "_law_cell" yy .none fa_3 fd_law_cell)
  {fa_9:Addr} {fd_law_of_mark:FuncData} (x_9:nsIn K mainGlobals "_law_of_mark" = some (some (.ref fa_9))) (F_law_of_mark:Fun2 K "_law_of_mark" "_law_of_mark" xb .none fa_9 fd_law_of_mark)
  {fa_12:Addr} {fd_law_run:FuncData} (x_12:nsIn K mainGlobals "_law_run" = some (some (.ref fa_12))) (F_law_run:Fun2 K "_law_run" "_law_run" wa .none fa_12 fd_law_run)
  {fa_11:Addr} {fd_law_pile:FuncData} (x_11:nsIn K mainGlobals "_law_pile" = some (some (.ref fa_11))) (F_law_pile:Fun2 K "_law_pile" "_law_pile" k5 .none fa_11 fd_law_pile)
  {fa_7:Addr} {fd_law_marks:FuncData} (x_7:nsIn K mainGlobals "_law_marks" = some (some (.ref fa_7))) (F_law_marks:Fun2 K "_law_marks" "_law_marks" y9 .none fa_7 fd_law_marks)
  {fa_4:Addr} {fd_law_counts:FuncData} (x_4:nsIn K mainGlobals "_law_counts" = some (some (.ref fa_4))) (F_law_counts:Fun2 K "_law_counts" "_law_counts" v5 .none fa_4 fd_law_counts)
  {fa_6:Addr} {fd_law_least:FuncData} (x_6:nsIn K mainGlobals "_law_least" = some (some (.ref fa_6))) (F_law_least:Fun2 K "_law_least" "_law_least" ya .none fa_6 fd_law_least)
  {fa_5:Addr} {fd_law_in_order:FuncData} (x_5:nsIn K mainGlobals "_law_in_order" = some (some (.ref fa_5))) (F_law_in_order:Fun2 K "_law_in_order" "_law_in_order" jz .none fa_5 fd_law_in_order)
  {fa_10:Addr} {fd_law_pairs:FuncData} (x_10:nsIn K mainGlobals "_law_pairs" = some (some (.ref fa_10))) (F_law_pairs:Fun2 K "_law_pairs" "_law_pairs" yb .none fa_10 fd_law_pairs)
  {fa_14:Addr} {fd_law_whole:FuncData} (x_14:nsIn K mainGlobals "_law_whole" = some (some (.ref fa_14))) (F_law_whole:Fun2 K "_law_whole" "_law_whole" ye .none fa_14 fd_law_whole)
  {fa_13:Addr} {fd_law_same:FuncData} (x_13:nsIn K mainGlobals "_law_same" = some (some (.ref fa_13))) (F_law_same:Fun2 K "_law_same" "_law_same" k7 .none fa_13 fd_law_same)
  {fa_18:Addr} {fd_order_of:FuncData} (x_18:nsIn K mainGlobals "order_of" = some (some (.ref fa_18))) (F_order_of:Fun2 K "order_of" "order_of" k8 .none fa_18 fd_order_of)
  {fa_2:Addr} {od_2 an_2:Option Addr} {sl_2:Array (Option Value)} {oc_2 kV_2 dc_2 pm_2 ct_2:Value}
  {cL_in_order TL_in_order:Addr}
  (x_2:nsIn K mainGlobals "in_order" = some (some (.ref fa_2)))
  (l_2:K.lookup fa_2=some ⟨oc_2,od_2,.func (fnOf "in_order" "in_order" (xu jk) (qr jk) (qd jk) .none kV_2 dc_2 pm_2 an_2 (.ref cL_in_order) ct_2),sl_2⟩)
  (q_2:codeIn K (.ref cL_in_order) "in_order" = true) (k_2:keepIn K (.ref fa_2)=true)
  {oL_in_order:Obj} (o_2:K.lookup cL_in_order=some oL_in_order) (p_2:tabOf oL_in_order=some TL_in_order) (hh_2:PySem.W.codeHdIn [(cL_in_order,oL_in_order)] cL_in_order TL_in_order=true) (nl_2:K.lookup TL_in_order=none) (r_2:((recsOf q).find? (fun e=>e.name==("in_order" : Str))).isSome=true)
  {fa_1:Addr} {fd_gather_below:FuncData} (x_1:nsIn K mainGlobals "gather_below" = some (some (.ref fa_1))) (F_gather_below:Fun2 K "gather_below" "gather_below" x5 .none fa_1 fd_gather_below)
  {fa_16:Addr} {fd_nodes_by_ware:FuncData} (x_16:nsIn K mainGlobals "nodes_by_ware" = some (some (.ref fa_16))) (F_nodes_by_ware:Fun2 K "nodes_by_ware" "nodes_by_ware" jl .none fa_16 fd_nodes_by_ware)
  {fa_17:Addr} {fd_one_ware_more:FuncData} (x_17:nsIn K mainGlobals "one_ware_more" = some (some (.ref fa_17))) (F_one_ware_more:Fun2 K "one_ware_more" "one_ware_more" jm .none fa_17 fd_one_ware_more)
  {fa_19:Addr} {fd_pairs_from:FuncData} (x_19:nsIn K mainGlobals "pairs_from" = some (some (.ref fa_19))) (F_pairs_from:Fun2 K "pairs_from" "pairs_from" va .none fa_19 fd_pairs_from)
  {fa_15:Addr} {fd_node_of:FuncData} (x_15:nsIn K mainGlobals "node_of" = some (some (.ref fa_15))) (F_node_of:Fun2 K "node_of" "node_of" wc .none fa_15 fd_node_of)
  {fa_20:Addr} {fd_tree:FuncData} (x_20:nsIn K mainGlobals "tree" = some (some (.ref fa_20))) (F_tree:Fun2 K "tree" "tree" q2e .none fa_20 fd_tree)
  {fa_0:Addr} {od_0 an_0:Option Addr} {sl_0:Array (Option Value)} {oc_0 kV_0 dc_0 pm_0 cd_0 ct_0:Value}
  (x_0:findIn K (.ref C_Branching) "often" = some (some (.ref fa_0))) (i_0:PySem.W.isFn K (.ref fa_0)=true)
  (l_0:K.lookup fa_0=some ⟨oc_0,od_0,.func (fnOf "often" "Branching.often" (xu zh) (qr zh) (qd zh) .none kV_0 dc_0 pm_0 an_0 cd_0 ct_0),sl_0⟩)
  (q_0:codeIn K cd_0 "Branching.often" = true) (k_0:keepIn K (.ref fa_0)=true)
  {fa_law:Addr} {fd_law:FuncData} (x_law:nsIn K mainGlobals "law" = some (some (.ref fa_law))) (F_law:Fun2 K "law" "law" q4v .none fa_law fd_law)
  (z_len:nsIn K mainGlobals "len" = some none)
  (z_tuple:nsIn K mainGlobals "tuple" = some none)
  (z_range:nsIn K mainGlobals "range" = some none)
  (z_sum:nsIn K mainGlobals "sum" = some none)
  (z_max:nsIn K mainGlobals "max" = some none)
  (z_sorted:nsIn K mainGlobals "sorted" = some none)
  (z_isinstance:nsIn K mainGlobals "isinstance" = some none)
  (z_int:nsIn K mainGlobals "int" = some none)
  (z_bool:nsIn K mainGlobals "bool" = some none)
  (z_zip:nsIn K mainGlobals "zip" = some none)
  : ∃(L:Lam) (tabs:List (Addr×Addr)) (fd:FuncData),(∀p∈L.tab,p.1∈tabs.map (·.2))/\(∀p∈tabs,K.lookup p.2=none/\∃y:Str,((recsOf q).find? (fun e=>e.name==y)).isSome=true/\PySem.W.tabIn K y=some p)/\(∀(s:Shared) (v:Value),BindsTo s fd ⟨[v],[]⟩ [("_law_script",v)])/\∀base:Heap,K.In base->base.Ns mainGlobals mg->q11 mg base->FnOk l.prog w K mg base CX0 37 fa fd ["_law_script"] (q8u K):=by
 letI L:Lam:=⟨[(TL_in_order,"in_order.<locals>.<lambda>")]⟩
 have O_Branching:ClsOk K "Branching" C_Branching:=⟨x_Branching,mk_Branching,in_Branching,kp_Branching,⟨pg_Branching,hd_Branching,po_Branching,sa_Branching⟩,cg_Branching,hd_Branching,cc_Branching,cs_Branching,ct_Branching,cm_Branching,qjo ciint_Branching cibool_Branching cituple_Branching cilist_Branching cistr_Branching cidict_Branching⟩
 have m_Branching:=mg_of X G x_Branching;have k_8:=F_law_mixed.kp;have k_3:=F_law_cell.kp;have k_9:=F_law_of_mark.kp;have k_12:=F_law_run.kp;have k_11:=F_law_pile.kp;have k_7:=F_law_marks.kp;have k_4:=F_law_counts.kp;have k_6:=F_law_least.kp;have k_5:=F_law_in_order.kp;have k_10:=F_law_pairs.kp;have k_14:=F_law_whole.kp;have k_13:=F_law_same.kp;have k_18:=F_order_of.kp;have h_in_order:=qb6 o_2 hh_2;have t_in_order:=qhq x_2 l_2 rfl o_2 p_2;have F_in_order:=qk8 (st:=jk) l_2 q_2 h_in_order k_2;have k_1:=F_gather_below.kp;have k_16:=F_nodes_by_ware.kp;have k_17:=F_one_ware_more.kp;have k_19:=F_pairs_from.kp;have k_15:=F_node_of.kp;have k_20:=F_tree.kp;have F_Branching_often:=qc8 (st:=zh) l_0 q_0 k_0;have k_law:=F_law.kp;have n_len:=mg_none_of X G z_len;have n_tuple:=mg_none_of X G z_tuple;have n_range:=mg_none_of X G z_range;have n_sum:=mg_none_of X G z_sum;have n_max:=mg_none_of X G z_max;have n_sorted:=mg_none_of X G z_sorted;have n_isinstance:=mg_none_of X G z_isinstance;have n_int:=mg_none_of X G z_int;have n_bool:=mg_none_of X G z_bool;have n_zip:=mg_none_of X G z_zip;have hP_L:(TL_in_order,("in_order.<locals>.<lambda>" : Str))∈Lam.tab:=my.mpr rfl;have hU_L:∀p∈Lam.tab,p.1=TL_in_order->p.2="in_order.<locals>.<lambda>" :=fun p hp _=>by rw [my.mp hp]
 have e:=hfa.symm.trans (mg_of X G x_law);cases e;have b_8:Binds K _ ["_law_script","_law_k"] []:=F_law_mixed.bindsTo (P:=fun fd=>Binds K fd ["_law_script","_law_k"] []) fun _ _ _ _ _ _ s us hk hl=>ln2 (fun _ _=>.of_eq rfl) us hl;have b_3:Binds K _ ["_law_script","_law_k"] []:=F_law_cell.bindsTo (P:=fun fd=>Binds K fd ["_law_script","_law_k"] []) fun _ _ _ _ _ _ s us hk hl=>ln2 (fun _ _=>.of_eq rfl) us hl;have b_9:Binds K _ ["_law_mark"] []:=F_law_of_mark.bindsTo (P:=fun fd=>Binds K fd ["_law_mark"] []) fun _ _ _ _ _ _ s us hk hl=>ln1 (fun _=>.of_eq rfl) us hl;have b_12:Binds K _ ["_law_number","_law_wares","_law_great"] []:=F_law_run.bindsTo (P:=fun fd=>Binds K fd ["_law_number","_law_wares","_law_great"] []) fun _ _ _ _ _ _ s us hk hl=>ln3 (fun _ _ _=>.of_eq rfl) us hl;have b_11:Binds K _ ["_law_script","_law_wares","_law_most_runs"] []:=F_law_pile.bindsTo (P:=fun fd=>Binds K fd ["_law_script","_law_wares","_law_most_runs"] []) fun _ _ _ _ _ _ s us hk hl=>ln3 (fun _ _ _=>.of_eq rfl) us hl;have b_7:Binds K _ ["_law_pile_here"] []:=F_law_marks.bindsTo (P:=fun fd=>Binds K fd ["_law_pile_here"] []) fun _ _ _ _ _ _ s us hk hl=>ln1 (fun _=>.of_eq rfl) us hl;have b_4:Binds K _ ["_law_pile_here"] []:=F_law_counts.bindsTo (P:=fun fd=>Binds K fd ["_law_pile_here"] []) fun _ _ _ _ _ _ s us hk hl=>ln1 (fun _=>.of_eq rfl) us hl;have b_6:Binds K _ ["_law_script","_law_counts_here"] []:=F_law_least.bindsTo (P:=fun fd=>Binds K fd ["_law_script","_law_counts_here"] []) fun _ _ _ _ _ _ s us hk hl=>ln2 (fun _ _=>.of_eq rfl) us hl;have b_5:Binds K _ ["_law_marks_here"] []:=F_law_in_order.bindsTo (P:=fun fd=>Binds K fd ["_law_marks_here"] []) fun _ _ _ _ _ _ s us hk hl=>ln1 (fun _=>.of_eq rfl) us hl;have b_10:Binds K _ ["_law_marks_here","_law_counts_here"] []:=F_law_pairs.bindsTo (P:=fun fd=>Binds K fd ["_law_marks_here","_law_counts_here"] []) fun _ _ _ _ _ _ s us hk hl=>ln2 (fun _ _=>.of_eq rfl) us hl;have b_14:Binds K _ ["_law_found","_law_due"] []:=F_law_whole.bindsTo (P:=fun fd=>Binds K fd ["_law_found","_law_due"] []) fun _ _ _ _ _ _ s us hk hl=>ln2 (fun _ _=>.of_eq rfl) us hl;have b_13:Binds K _ ["_law_found","_law_due"] []:=F_law_same.bindsTo (P:=fun fd=>Binds K fd ["_law_found","_law_due"] []) fun _ _ _ _ _ _ s us hk hl=>ln2 (fun _ _=>.of_eq rfl) us hl;have b_18:Binds K _ ["some"] []:=F_order_of.bindsTo (P:=fun fd=>Binds K fd ["some"] []) fun _ _ _ _ _ _ s us hk hl=>ln1 (fun _=>.of_eq rfl) us hl;have b_2:Binds K _ ["pairs"] []:=F_in_order.bindsTo (P:=fun fd=>Binds K fd ["pairs"] []) fun _ _ _ _ _ _ s us hk hl=>ln1 (fun _=>.of_eq rfl) us hl;have b_1:Binds K _ ["node","by_ware"] []:=F_gather_below.bindsTo (P:=fun fd=>Binds K fd ["node","by_ware"] []) fun _ _ _ _ _ _ s us hk hl=>ln2 (fun _ _=>.of_eq rfl) us hl;have b_16:Binds K _ ["nodes"] []:=F_nodes_by_ware.bindsTo (P:=fun fd=>Binds K fd ["nodes"] []) fun _ _ _ _ _ _ s us hk hl=>ln1 (fun _=>.of_eq rfl) us hl;have b_17:Binds K _ ["some","wares"] []:=F_one_ware_more.bindsTo (P:=fun fd=>Binds K fd ["some","wares"] []) fun _ _ _ _ _ _ s us hk hl=>ln2 (fun _ _=>.of_eq rfl) us hl;have b_19:Binds K _ ["some","nodes","wares","least"] []:=F_pairs_from.bindsTo (P:=fun fd=>Binds K fd ["some","nodes","wares","least"] []) fun _ _ _ _ _ _ s us hk hl=>ln4 (fun _ _ _ _=>.of_eq rfl) us hl;have b_15:Binds K _ ["runs","depth"] []:=F_node_of.bindsTo (P:=fun fd=>Binds K fd ["runs","depth"] []) fun _ _ _ _ _ _ s us hk hl=>ln2 (fun _ _=>.of_eq rfl) us hl;have b_20:Binds K _ ["pile"] []:=F_tree.bindsTo (P:=fun fd=>Binds K fd ["pile"] []) fun _ _ _ _ _ _ s us hk hl=>ln1 (fun _=>.of_eq rfl) us hl;have b_0:Binds K _ ["self","pile","least"] []:=F_Branching_often.bindsTo (P:=fun fd=>Binds K fd ["self","pile","least"] []) fun _ _ _ _ _ _ s us hk hl=>ln3 (fun _ _ _=>.of_eq rfl) us hl;refine⟨L,[(cL_in_order,TL_in_order)],_,fun p hp=>(by rw [my.mp hp];exact my.mpr rfl),fun p hp=>(by rw [my.mp hp];exact⟨nl_2,_,r_2,t_in_order⟩),F_law.bindsTo (P:=fun fd=>∀(s:Shared) (v:Value),BindsTo s fd ⟨[v],[]⟩ [("_law_script",v)]) (fun _ _ _ _ _ _ s v=>.of_eq rfl),fun base _ _ B_L=>?_⟩;have o_8:=qa5 (P:=l.prog) (w:=w) (mg:=mg) (base:=base) F_law_mixed n_len;have c_8:=Cal.mk o_8 (mg_of X G x_8) k_8;have o_3:=qbb (P:=l.prog) (w:=w) (mg:=mg) (base:=base) F_law_cell n_len;have c_3:=Cal.mk o_3 (mg_of X G x_3) k_3;have o_9:=q7n (P:=l.prog) (w:=w) (mg:=mg) (base:=base) F_law_of_mark n_tuple n_range;have c_9:=Cal.mk o_9 (mg_of X G x_9) k_9;have o_12:=qe0 (P:=l.prog) (w:=w) (mg:=mg) (base:=base) F_law_run c_9 b_9;have c_12:=Cal.mk o_12 (mg_of X G x_12) k_12;have o_11:=qbd (P:=l.prog) (w:=w) (mg:=mg) (base:=base) F_law_pile c_8 b_8 c_3 b_3 c_12 b_12 n_range n_tuple;have c_11:=Cal.mk o_11 (mg_of X G x_11) k_11;have o_7:=qa8 (P:=l.prog) (w:=w) (mg:=mg) (base:=base) F_law_marks n_sum;have c_7:=Cal.mk o_7 (mg_of X G x_7) k_7;have o_4:=q8o (P:=l.prog) (w:=w) (mg:=mg) (base:=base) F_law_counts c_7 b_7 n_range n_sum;have c_4:=Cal.mk o_4 (mg_of X G x_4) k_4;have o_6:=qaa (P:=l.prog) (w:=w) (mg:=mg) (base:=base) F_law_least c_3 b_3 n_max n_len;have c_6:=Cal.mk o_6 (mg_of X G x_6) k_6;have o_5:=q6r (P:=l.prog) (w:=w) (mg:=mg) (base:=base) F_law_in_order c_9 b_9 n_len n_sorted;have c_5:=Cal.mk o_5 (mg_of X G x_5) k_5;have o_10:=qad (P:=l.prog) (w:=w) (mg:=mg) (base:=base) F_law_pairs c_9 b_9 c_5 b_5;have c_10:=Cal.mk o_10 (mg_of X G x_10) k_10;have o_14:=qag (P:=l.prog) (w:=w) (mg:=mg) (base:=base) F_law_whole n_isinstance n_int n_bool;have c_14:=Cal.mk o_14 (mg_of X G x_14) k_14;have o_13:=qbf (P:=l.prog) (w:=w) (mg:=mg) (base:=base) F_law_same c_14 b_14 n_zip n_isinstance n_tuple n_len;have c_13:=Cal.mk o_13 (mg_of X G x_13) k_13;have o_18:=qbi (P:=l.prog) (w:=w) (mg:=mg) (base:=base) F_order_of n_len;have c_18:=Cal.mk o_18 (mg_of X G x_18) k_18;have o_2:=qbl (P:=l.prog) (w:=w) (mg:=mg) (base:=base) c_18 b_18 n_tuple n_sorted F_in_order hP_L hU_L B_L;have c_2:=Cal.mk o_2 (mg_of X G x_2) k_2;have o_1:=q6u (P:=l.prog) (w:=w) (mg:=mg) (base:=base) F_gather_below (mg_of X G x_1) k_1 b_1  16;have c_1:=CalOD.mk o_1 (mg_of X G x_1) k_1;have o_16:=q5h (P:=l.prog) (w:=w) (mg:=mg) (base:=base) F_nodes_by_ware c_1 b_1;have c_16:=Cal.mk o_16 (mg_of X G x_16) k_16;have o_17:=q5j (P:=l.prog) (w:=w) (mg:=mg) (base:=base) F_one_ware_more n_range;have c_17:=Cal.mk o_17 (mg_of X G x_17) k_17;have o_19:=q8r (P:=l.prog) (w:=w) (mg:=mg) (base:=base) F_pairs_from (mg_of X G x_19) k_19 b_19 c_16 b_16 c_17 b_17 n_sum 16;have c_19:=Cal.mk o_19 (mg_of X G x_19) k_19;have o_15:=qe3 (P:=l.prog) (w:=w) (mg:=mg) (base:=base) F_node_of (mg_of X G x_15) k_15 b_15 n_sum n_tuple n_len n_sorted 16;have c_15:=Cal.mk o_15 (mg_of X G x_15) k_15;have o_20:=qki (P:=l.prog) (w:=w) (mg:=mg) (base:=base) F_tree c_15 b_15;have c_20:=Cal.mk o_20 (mg_of X G x_20) k_20;have o_0:=q48 (P:=l.prog) (w:=w) (mg:=mg) (base:=base) F_Branching_often c_2 b_2 c_19 b_19 c_20 b_20;have c_0:CalM l.prog w K mg base "Branching" "often" C_Branching _ _ _ _ _ _:=⟨o_0,⟨x_0,i_0,k_0⟩⟩
 exact qmu (qnc (P:=l.prog) (w:=w) (mg:=mg) (base:=base) F_law O_Branching m_Branching c_11 b_11 c_4 b_4 c_6 b_6 c_10 b_10 c_13 b_13 c_0 b_0 c_3 b_3 n_range n_len) hm
end My
namespace PySem.W.Fast
theorem tw16964129677609356287 : True := trivial
theorem tw3121178609522585591 : True := trivial
theorem tw9738353447031149234 : True := trivial
theorem tw3629130901764730062 : True := trivial
theorem tw16059979482232548790 : True := trivial
theorem tw9907056486349682415 : True := trivial
theorem tw11629498507719049586 : True := trivial
theorem tw9994119626635629941 : True := trivial
theorem tw3740718269597330800 : True := trivial
theorem tw10430690002028932481 : True := trivial
theorem tw16381430133035166688 : True := trivial
theorem tw6524487318405952393 : True := trivial
theorem tw8968149799145503423 : True := trivial
theorem tw12338721159692253357 : True := trivial
theorem tw6370484966103615513 : True := trivial
end PySem.W.Fast
open PySem PySem.W PyProof.Rows
local macro_rules | `(tactic| walk_at "F")=> `(tactic| (letI:DL.Lam:=⟨[]⟩;exact DL.qc8 (by k_is) (by k_is) (by k_is)))
set_option maxHeartbeats 0 in
theorem PySem.Challenge.cw_oftentogether_k14_by_branches_holds : PySem.Challenge.rw_oftentogether_k14_by_branches.Holds := by
 w_on;o_law;k_head;(case hw=>w_witness2)
 k_fill
 refine DL.qk9 (l:=PySem.Challenge.rw_oftentogether_k14_by_branches) (k:=37) (x:="_law_script") rfl rfl ⟨rfl,by decide,by decide⟩ (fun w h Y=>by first|exact PySem.W.kIn_of Y|exact PySem.W.km_in_of Y) ?F
 case F=>
  intro w mg fa h KX G hmg;refine' My.all_mk KX G hmg My.qii ?x_Branching ?mk_Branching ?in_Branching ?kp_Branching ?pg_Branching ?hd_Branching ?po_Branching ?sa_Branching ?cg_Branching ?cc_Branching ?cs_Branching ?ct_Branching ?cm_Branching ?ciint_Branching ?cibool_Branching ?cituple_Branching ?cilist_Branching ?cistr_Branching ?cidict_Branching ?x_8 ?F_law_mixed ?x_3 ?F_law_cell ?x_9 ?F_law_of_mark ?x_12 ?F_law_run ?x_11 ?F_law_pile ?x_7 ?F_law_marks ?x_4 ?F_law_counts ?x_6 ?F_law_least ?x_5 ?F_law_in_order ?x_10 ?F_law_pairs ?x_14 ?F_law_whole ?x_13 ?F_law_same ?x_18 ?F_order_of ?x_2 ?l_2 ?q_2 ?k_2 ?o_2 ?p_2 ?hh_2 ?nl_2 ?r_2 ?x_1 ?F_gather_below ?x_16 ?F_nodes_by_ware ?x_17 ?F_one_ware_more ?x_19 ?F_pairs_from ?x_15 ?F_node_of ?x_20 ?F_tree ?x_0 ?i_0 ?l_0 ?q_0 ?k_0 ?x_law ?F_law ?z_len ?z_tuple ?z_range ?z_sum ?z_max ?z_sorted ?z_isinstance ?z_int ?z_bool ?z_zip
  (case x_Branching=>k_is)
  (case mk_Branching=>k_is)
  (case in_Branching=>k_is)
  (case kp_Branching=>k_is)
  (case pg_Branching=>k_is)
  (case hd_Branching=>k_is)
  (case po_Branching=>k_is)
  (case sa_Branching=>k_is)
  (case cg_Branching=>k_is)
  (case cc_Branching=>k_is)
  (case cs_Branching=>k_is)
  (case ct_Branching=>k_is)
  (case cm_Branching=>k_is)
  (case ciint_Branching=>k_is)
  (case cibool_Branching=>k_is)
  (case cituple_Branching=>k_is)
  (case cilist_Branching=>k_is)
  (case cistr_Branching=>k_is)
  (case cidict_Branching=>k_is)
  (case x_8=>k_is)
  (case F_law_mixed=>walk_at "F")
  (case x_3=>k_is)
  (case F_law_cell=>walk_at "F")
  (case x_9=>k_is)
  (case F_law_of_mark=>walk_at "F")
  (case x_12=>k_is)
  (case F_law_run=>walk_at "F")
  (case x_11=>k_is)
  (case F_law_pile=>walk_at "F")
  (case x_7=>k_is)
  (case F_law_marks=>walk_at "F")
  (case x_4=>k_is)
  (case F_law_counts=>walk_at "F")
  (case x_6=>k_is)
  (case F_law_least=>walk_at "F")
  (case x_5=>k_is)
  (case F_law_in_order=>walk_at "F")
  (case x_10=>k_is)
  (case F_law_pairs=>walk_at "F")
  (case x_14=>k_is)
  (case F_law_whole=>walk_at "F")
  (case x_13=>k_is)
  (case F_law_same=>walk_at "F")
  (case x_18=>k_is)
  (case F_order_of=>walk_at "F")
  (case x_2=>k_is)
  (case l_2=>k_is)
  (case q_2=>k_is)
  (case k_2=>k_is)
  (case o_2=>k_is)
  (case p_2=>first|rfl|decide +kernel)
  (case hh_2=>first|rfl|decide +kernel)
  (case nl_2=>first|kernel_rfl|rfl)
  (case r_2=>first|rfl|decide +kernel)
  (case x_1=>k_is)
  (case F_gather_below=>walk_at "F")
  (case x_16=>k_is)
  (case F_nodes_by_ware=>walk_at "F")
  (case x_17=>k_is)
  (case F_one_ware_more=>walk_at "F")
  (case x_19=>k_is)
  (case F_pairs_from=>walk_at "F")
  (case x_15=>k_is)
  (case F_node_of=>walk_at "F")
  (case x_20=>k_is)
  (case F_tree=>walk_at "F")
  (case x_0=>k_is)
  (case i_0=>k_is)
  (case l_0=>k_is)
  (case q_0=>k_is)
  (case k_0=>k_is)
  (case x_law=>k_is)
  (case F_law=>walk_at "F")
  (case z_len=>k_is)
  (case z_tuple=>k_is)
  (case z_range=>k_is)
  (case z_sum=>k_is)
  (case z_max=>k_is)
  (case z_sorted=>k_is)
  (case z_isinstance=>k_is)
  (case z_int=>k_is)
  (case z_bool=>k_is)
  (case z_zip=>k_is)
