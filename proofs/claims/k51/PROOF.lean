import PyProof.Rows.All
import Wide.All
import OpenK.AllK
import Wide.FinOn
import Lean
import PyProof.EqAt
import PyProof.EqKinds
import PyProof.TupleCall
import PyProof.NeKinds
import PySem.SetOps
import PyProof.SetKind
import PyProof.DictKinds
import PyProof.DictStraight
import PyProof.FactsAll.set_0
import PyProof.FactsAll.set_1
import PyProof.FactsAll.set_2
import PyProof.FactsAll.set_3
import PyProof.Slots
import PyProof.Rows.SetFrom
import PyProof.TupleIter
import PyProof.Walks
import PyProof.CollectWalk
import PyProof.Rows.SortShell
import PyProof.IsiH_list
import PyProof.AttrMiss
import KE.KDictOf
import PyProof.DictRoadsH
import PyProof.AutoSeq1
import PySem.Challenge.RW_oftentogether_k51_standing_above
set_option maxRecDepth 100000
set_option maxHeartbeats 4000000
set_option Elab.async false
set_option linter.all false
abbrev g0:=@PySem.wpAny_bind
abbrev g9:=@Option.bind_eq_some_iff
abbrev gb:=@PySem.wpAny_pure
abbrev gc:=@PySem.Heap.get?_push_of_some
abbrev gd:=@List.getElem?_set_ne
abbrev gf:=@List.size_toArray
abbrev gh:=@PySem.Heap.lt_size
abbrev gi:=@PySem.Heap.get?_push_size
abbrev gj:=@Bool.false_ne_true
abbrev gm:=@List.mem_cons
abbrev gp:=@Nat.le_refl
abbrev gq:=@Option.map_eq_some_iff
abbrev gr:=@Nat.ne_of_lt
abbrev gs:=@Nat.lt_of_lt_of_le
abbrev gu:=@Bool.false_eq_true
abbrev gv:=@List.mem_cons_self
abbrev gw:=@Ne.symm
abbrev gx:=@List.map_cons
abbrev gy:=@List.getElem?_map
abbrev gz:=@if_pos
abbrev m3:=@decide_eq_false
abbrev m4:=@if_neg
abbrev m5:=@List.mem_cons_of_mem
abbrev m6:=@Bool.and_eq_true
abbrev m8:=@List.length_append
abbrev m9:=@List.getElem?_eq_getElem
abbrev ma:=@List.getElem?_eq_some_iff
abbrev md:=@decide_eq_true
abbrev mf:=@Option.bind_some
abbrev mh:=@Option.some.inj
abbrev mi:=@List.mem_append_right
abbrev mj:=@List.length_map
abbrev ml:=@List.length_cons
abbrev mm:=@PySem.wpAny_call_entry
abbrev mn:=@List.lookup_cons
abbrev mq:=@List.not_mem_nil
abbrev mr:=@PySem.wpAny_ite_split
abbrev mv:=@List.getElem?_append_right
abbrev mw:=@PySem.wpAny_field
abbrev mx:=@PySem.wpAny_callSpecial?_slot
abbrev my:=@Nat.le_trans
abbrev n8:=@List.getElem?_append_left
abbrev n9:=@PySem.wpAny_mono
abbrev nc:=@PySem.Heap.size_push
abbrev ng:=@PySem.PassesOwn.never
abbrev nh:=@PySem.wpAny_askSetting
abbrev ni:=@List.mem_map
abbrev nj:=@PySem.wpAny_setField_rec
abbrev nk:=@Nat.ne_of_gt
abbrev nr:=@PySem.Heap.SameBut.update
abbrev nt:=@PySem.wpAny_newObj_type
abbrev nu:=@PyProof.Rows.slot_tuple_getitem
abbrev nv:=@PySem.wpAny_holding
abbrev ny:=@List.length_nil
abbrev p0:=@PySem.AutoSeq1.wpAny_loadPart'
abbrev p5:=@List.mem_append
abbrev p6:=@Option.map_some
abbrev p7:=@List.getElem?_replicate
abbrev p8:=@List.length_take
abbrev p9:=@or_false
abbrev pb:=@if_true
abbrev pd:=@Bool.eq_iff_iff
abbrev pf:=@Option.join_some
abbrev ph:=@Nat.lt_irrefl
abbrev pj:=@List.mem_range
abbrev pk:=@Bool.false_and
abbrev pq:=@PySem.Around.under_plainId
abbrev pw:=@congrArg
abbrev pz:=@PyProof.Rows.callWith_type1
abbrev t5:=@PySem.codeAny_builtin
abbrev t6:=@List.length_set
abbrev t7:=@Nat.zero_le
abbrev t9:=@Nat.lt_succ_self
abbrev td:=@PySem.wpAny_seqItems
abbrev tf:=@Option.isSome_iff_exists
abbrev tm:=@List.mem_of_getElem?
abbrev tq:=@Nat.not_lt_zero
abbrev tu:=@Int.emod_nonneg
abbrev tw:=@PySem.wpAny_truthy_bool
abbrev u0:=@List.filterMap_cons
abbrev u9:=@List.replicate_succ
abbrev ua:=@Bool.and_false
abbrev uc:=@PySem.Heap.get?_update_other
abbrev ud:=@PySem.wpAny_rule
abbrev uf:=@PyProof.Rows.F.plain_set_update_loop
abbrev ug:=@List.mem_singleton
abbrev uh:=@List.map_map
abbrev ui:=@Int.emod_lt_of_pos
abbrev uj:=@List.mem_filter
abbrev uk:=@PySem.wpAny_passesOwn
abbrev um:=@List.nodup_cons
abbrev uo:=@List.append_nil
abbrev uq:=@PySem.Heap.get?_update_self
abbrev ur:=@PySem.wpAny_attempt
abbrev uw:=@PySem.F.slot_tuple_iterator_next
abbrev ux:=@PyProof.Rows.kinds_of
abbrev uy:=@Int.toNat_natCast
abbrev uz:=@of_decide_eq_true
abbrev g00:=@List.append_assoc
abbrev g01:=@Classical.byContradiction
abbrev g02:=@if_false
abbrev g03:=@List.map_nil
abbrev g04:=@PySem.wpAny_isInstance
abbrev g05:=@PySem.F.called_set
abbrev g06:=@PySem.mem_of_lookup
abbrev g07:=@Bool.not_true
abbrev g08:=@PySem.wpAny_Call_Name_kw
abbrev g09:=@List.forIn_cons
abbrev g0a:=@List.pairwise_cons
abbrev g0b:=@List.map_append
abbrev g0c:=@List.nil_append
abbrev g0d:=@decide_eq_true_iff
abbrev g0e:=@List.take_of_length_le
abbrev g0f:=@List.range_succ_eq_map
abbrev g0g:=@PySem.Heap.SameBut.refl
abbrev g0h:=@List.flatten_cons
abbrev g0i:=@decide_eq_true_eq
abbrev g0j:=@PySem.wpAny_storeSet_of
abbrev g0k:=@PySem.wpAny_typeOf
abbrev g0l:=@List.cons.sizeOf_spec
abbrev g0m:=@PySem.F.slot_enumerate_next
abbrev g0n:=@PySem.isSubtype_type
abbrev g0o:=@PySem.builtinLookup_eq_fast
abbrev g0p:=@Option.some_or
abbrev g0q:=@List.mem_append_left
abbrev g0r:=@PySem.wpAny_execs_cons
abbrev g0s:=@List.length_drop
abbrev g0t:=@PySem.codeAny_call_builtin
abbrev g0u:=@PySem.F.slot_tuple_mul
abbrev g0v:=@List.pairwise_append
abbrev g0w:=@List.mem_nil_iff
abbrev g0x:=@PySem.plainId_quiet
abbrev g0y:=@PySem.sizeLine_eq
abbrev g0z:=@List.length_zipWith
abbrev g10:=@PySem.wpAny_execs_nil
abbrev g11:=@Bool.or_eq_true
abbrev g12:=@List.drop_eq_getElem_cons
abbrev g13:=@List.mem_filterMap
abbrev g14:=@PySem.codeAny_mono
abbrev g15:=@PySem.F.args_tuple_add_2
abbrev g16:=@List.filterMap_map
abbrev g17:=@PySem.Obj.data_mapFields
abbrev g18:=@PySem.AutoSeq1.sub_tuple_tuple
abbrev g19:=@PyProof.Rows.F.entry_set_update_loop
abbrev g1a:=@PySem.F.slot_list_getattribute
abbrev g1b:=@beq_iff_eq
abbrev g1c:=@PySem.wpAny_setField
abbrev g1d:=@Option.none_or
abbrev g1e:=@PySem.F.entry_tuple_add
abbrev g1f:=@List.getElem?_cons_zero
abbrev g1g:=@Option.some.injEq
abbrev g1h:=@List.getElem?_set
abbrev g1i:=@PySem.wpAny_pyIter_list
abbrev g1j:=@PySem.wpAny_setState_of
abbrev g1k:=@Nat.lt_succ_of_lt
abbrev g1l:=@List.filter_congr
abbrev g1m:=@PySem.F.slot_tuple_add
abbrev g1n:=@List.all_cons
abbrev g1o:=@List.filter_cons
abbrev g1p:=@List.length_replicate
abbrev g1q:=@List.take_append_drop
abbrev g1r:=@Array.getElem?_toList
abbrev g1s:=@List.length_filter_le
abbrev g1t:=@Nat.le_of_lt
abbrev g1u:=@PySem.wpAny_call
abbrev g1v:=@PySem.call_meets
abbrev g1w:=@PySem.W.kia_one
abbrev g1x:=@PySem.wpAny_updateSeq_pair
abbrev g1y:=@PySem.F.slot_zip_next
abbrev g1z:=@PySem.wpAny_ite_false
abbrev g20:=@List.Pairwise.filter
abbrev g21:=@PySem.intKind_is
abbrev g22:=@PySem.typeLookup_type
abbrev g23:=@List.eq_nil_of_length_eq_zero
abbrev g24:=@beq_eq_false_iff_ne
abbrev g25:=@Array.length_toList
abbrev g26:=@Int.toNat_of_nonneg
abbrev g27:=@List.drop_zero
abbrev g28:=@PySem.F.args_tuple_iterator_next_1
abbrev g29:=@List.forIn_nil
abbrev g2a:=@Array.append_assoc
abbrev g2b:=@PySem.W.callWith_K
abbrev g2c:=@PySem.F.attrBase_ValueError
abbrev g2d:=@PySem.wpAny_pyIter_tuple
abbrev g2e:=@PySem.F.entry_tuple_iterator_next
abbrev g2f:=@not_or
abbrev g2g:=@PySem.F.args_tuple_mul_2
abbrev g2h:=@Int.fdiv_eq_ediv_of_nonneg
abbrev g2i:=@PySem.wpAny_onRaise
abbrev g2j:=@List.perm_ext_iff_of_nodup
abbrev g2k:=@PySem.F.excBase_ValueError
abbrev g2l:=@PySem.F.entry_tuple_mul
abbrev g2m:=@List.pairwise_map
abbrev g2n:=@Array.getElem?_eq_getElem
abbrev g2o:=@List.findIdx?_eq_none_iff
abbrev g2p:=@List.getElem_inj
abbrev g2q:=@List.getElem?_take_of_lt
abbrev g2r:=@PySem.concat_meets
abbrev g2s:=@PySem.noFill_tuple_add
abbrev g2t:=@List.drop_length
abbrev g2u:=@List.all_eq_true
abbrev g2v:=@PySem.AutoSeq1.idx_int
abbrev g2w:=@List.getElem_mem
abbrev g2x:=@List.nodup_range
abbrev g2y:=@decide_eq_decide
abbrev g2z:=@PySem.F.plainAttrs_list
abbrev g30:=@List.getElem?_cons_succ
abbrev g31:=@List.of_mem_zip
abbrev g32:=@PySem.wpAny_loadPart'
abbrev g33:=@PySem.SeqAt.EqAt.same
abbrev g34:=@PySem.wpAny_updateSeq
abbrev g35:=@List.getElem?_set_self
abbrev g36:=@PySem.W.cellsFrom_some
abbrev g37:=@Nat.le_succ
abbrev g38:=@PySem.wpAny_letGo
abbrev g39:=@List.sum_replicate_nat
abbrev g3a:=@List.pairwise_lt_range
abbrev g3b:=@List.length_singleton
abbrev g3c:=@List.mem_iff_getElem?
abbrev g3d:=@List.singleton_append
abbrev g3e:=@List.getElem?_zipWith
abbrev g3f:=@Bool.not_false
abbrev g3g:=@List.Perm.refl
abbrev g3h:=@List.take_succ
abbrev g3i:=@List.getElem?_eq_none
abbrev g3j:=@Bool.or_false
abbrev g3k:=@List.any_cons
abbrev g3l:=@Bool.and_true
abbrev g3m:=@List.all_map
abbrev g3n:=@Nat.add_zero
namespace L2
open PySem PySem.Spec PyProof.Rows
abbrev Key:=Sum Int Str
def qj0:Key->Value->Bool
 | .inl k,v=>Value.isInt k v
 | .inr x,v=>Value.isStrOf x v
def qou(w:World): Key->Int
 | .inl k=>hashInt k
 | .inr x=>hashStr w x
theorem jh:∀ {k:Key} {v:Value},qj0 k v=true->(∃i t,k=Sum.inl i/\v=Value.int i t)\/(∃x t,k=Sum.inr x/\v=Value.str x t)
 | .inl i,v,h=>by
  obtain⟨t,e⟩:=Value.isInt_shape (k:=i) (v:=v) h;exact .inl ⟨i,t,rfl,e⟩
 | .inr x,v,h=>by
  obtain⟨t,e⟩:=Value.isStrOf_shape (x:=x) (v:=v) h;exact .inr ⟨x,t,rfl,e⟩
theorem ql2(a b:Int): decide ((Sum.inl a:Key)=Sum.inl b)=(a==b):=by
 by_cases e:a=b
 ·subst e;simp
 ·have h:¬(Sum.inl a:Key)=Sum.inl b:=fun q=>e (Sum.inl.inj q)
  rw [m3 h];exact(g24.mpr e).symm
theorem ql3(a b:Str): decide ((Sum.inr a:Key)=Sum.inr b)=decide (a=b):=by
 by_cases e:a=b
 ·subst e;simp
 ·have h:¬(Sum.inr a:Key)=Sum.inr b:=fun q=>e (Sum.inr.inj q)
  rw [m3 h,m3 e]
theorem ql4(a:Int)(b:Str): decide ((Sum.inl a:Key)=Sum.inr b)=false:=m3 (fun q=>nomatch q)
theorem ql5(a:Str)(b:Int): decide ((Sum.inr a:Key)=Sum.inl b)=false:=m3 (fun q=>nomatch q)
def mixKind(prog:Program)(w:World): PySem.KeyKind prog w Key where
 is:=qj0
 hash:=qou w
 inj:=fun v a b ha hb=>by
  rcases jh ha with⟨i,t,rfl,rfl⟩|⟨x,t,rfl,rfl⟩
  ·rcases jh hb with⟨j,u,rfl,e⟩|⟨y,u,rfl,e⟩
   ·injection e with e1 _;rw [e1]
   ·exact nomatch e
  ·rcases jh hb with⟨j,u,rfl,e⟩|⟨y,u,rfl,e⟩
   ·exact nomatch e
   ·injection e with e1 _;rw [e1]
 byValue:=fun k v h=>by
  rcases jh h with⟨i,t,rfl,rfl⟩|⟨x,t,rfl,rfl⟩ <;> rfl
 pyHash:=fun hv h=>by
  rcases jh hv with⟨i,t,rfl,rfl⟩|⟨x,t,rfl,rfl⟩
  ·exact wpAny_pyHash_int h
  ·exact wpAny_pyHash_str h
 eqBool:=fun hu hv h=>by
  rcases jh hu with⟨i,t,rfl,rfl⟩|⟨x,t,rfl,rfl⟩
  ·rcases jh hv with⟨j,u,rfl,rfl⟩|⟨y,u,rfl,rfl⟩
   ·rw [ql2] at h;exact wpAny_eqBool_int h
   ·rw [ql4] at h;exact SeqAt.EqAt.int_str i t y u _ _ _ _ h
  ·rcases jh hv with⟨j,u,rfl,rfl⟩|⟨y,u,rfl,rfl⟩
   ·rw [ql5] at h;exact SeqAt.EqAt.str_int x t j u _ _ _ _ h
   ·rw [ql3] at h;exact wpAny_eqBool_str h
 «strs» :=fun k x t v h=>by
  rcases jh h with⟨i,u,rfl,e⟩|⟨y,u,rfl,e⟩
  ·exact nomatch e
  ·injection e with e1 _
   subst e1;cases v <;> rfl
inductive V where
 | non|bl (b:Bool)|int (i:Int)|str (x:Str)|byt (b:Array UInt8)|flt (b:UInt64)|ref (a:Addr)|ty (n:String)
 deriving DecidableEq
def RelV:V->Value->Prop
 | .non,u=>u=Value.none
 | .bl b,u=>u=Value.bool b
 | .int i,u=>∃t,u=Value.int i t
 | .str x,u=>∃t,u=Value.str x t
 | .byt b,u=>∃t,u=Value.bytes b t
 | .flt b,u=>∃t,u=Value.float b t
 | .ref a,u=>u=Value.ref a
 | .ty n,u=>u=Value.type n
abbrev Vals:List V->List Value->Prop:=Paired RelV
theorem Vals.length{xs:List V}{us:List Value}(r:Vals xs us): xs.length=us.length:=Paired.length r
theorem Vals.get:∀ {xs:List V} {us:List Value} {i:Nat} {x:V},Vals xs us->xs[i]? = some x->∃u,us[i]? = some u/\RelV x u
 | _,_,_,_,.nil,e=>by simp at e
 | _,_,0,_,.cons r _,e=>by simp at e;subst e;exact⟨_,rfl,r⟩
 | _,_,i+1,x,.cons _ t,e=>by
  obtain⟨u,h1,h2⟩:=Vals.get (i:=i) (x:=x) t (by simpa using e);exact⟨u,by simpa using h1,h2⟩
theorem Vals.append:∀ {xs ys:List V} {us ws:List Value},Vals xs us->Vals ys ws->Vals (xs++ys) (us++ws)
 | _,_,_,_,.nil,s=>s
 | _,_,_,_,.cons r t,s=>.cons r (Vals.append t s)
theorem Vals.take:∀ {xs:List V} {us:List Value} (n:Nat),Vals xs us->Vals (xs.take n) (us.take n)
 | _,_,0,_=>.nil
 | _,_,_+1,.nil=>.nil
 | _,_,n+1,.cons r t=>.cons r (Vals.take n t)
theorem Vals.drop:∀ {xs:List V} {us:List Value} (n:Nat),Vals xs us->Vals (xs.drop n) (us.drop n)
 | _,_,0,r=>r
 | _,_,_+1,.nil=>.nil
 | _,_,n+1,.cons _ t=>Vals.drop n t
def RelO:Option V->Option Value->Prop
 | some v,some u=>RelV v u
 | none,none=>True
 | _,_=>False
def KV{κ : Type}: List (κ × V)->List (κ × Value)->Prop:=Paired fun(p : κ × V) (q : κ × Value)=>p.1=q.1/\RelV p.2 q.2
def kV:Key->V
 | .inl i=>.int i
 | .inr x=>.str x
inductive HO where
 /-- a list -/
 | lst (xs:List V)
 /-- a tuple (never changes) -/
 | tup (xs:List V)
 /-- a dict whose keys are ints and texts; one whose keys are tuples of ints and texts (the empty one is both) -/
 | dK (kvs:List (Key×V))|dT (kvs:List (List Key×V))
 /-- a set of ints: its members, its size -/
 | set (S:Int->Bool) (n:Nat)
 /-- an instance of the class at C, its dict at dx, its attributes -/
 | ins (C dx:Addr) (fs:List (Str×V))
 /-- the dict of the instance at x -/
 | own (x:Addr)
 /-- the dict of an exception -/
 | xd (fs:List (Str×V))
 /-- a bound method, f of x -/
 | met (f x:Addr)
 /-- a range object lo, lo + 1, .. below hi -/
 | rng (lo hi:Int)
 /-- a thing that is known to the object (the script; a dict while a loop walks it): read, never written while it is so -/
 | frz (o:Obj) (u:HO)
 /-- a code object's table -/
 | tbl (ps:Array Value)
 /-- any other thing, by what is true of its one object (a def of one's own: SetO a S n := HO.ext fun h => ..) -/
 | ext (φ : Heap->Prop)
abbrev Hp:=Addr->Option HO
def upd(H:Hp)(a:Addr)(o:HO): Hp:=fun b=>if b=a then some o else H b
theorem qt{H:Hp}{a:Addr}{o:HO}: upd H a o a=some o:=by unfold upd;rw [gz rfl]
theorem qk{H:Hp}{a b:Addr}{o:HO}(h:b≠a): upd H a o b=H b:=by unfold upd;rw [m4 h]
theorem zq{H:Hp}{a b:Addr}{o:HO}(h:H a=some o)(h':H b=none): a≠b:=by
 intro e;subst e;rw [h] at h';cases h'
section
variable(P:Program)(w:World)
def ObjOk(H:Hp)(h:Heap)(a:Addr): HO->Prop
 | .lst xs=>xs.length<=sizeLine/\∃(its:List Value) (n:Nat),Vals xs its/\h.get? a=some {cls:=.type "list",data:=.seq its.toArray n}
 | .tup xs=>xs.length<=sizeLine/\∃its:List Value,Vals xs its/\IsTup h a its.toArray
 | .dK kvs=>kvs.length<=sizeLine/\(a==sysModules)=false/\∃vs,KV kvs vs/\h.DictOf (mixKind P w) a vs
 | .dT kvs=>kvs.length<=sizeLine/\(a==sysModules)=false/\∃xs:List (List Key×Addr×Value),
   Paired (fun(p:List Key×V) (q:List Key×Addr×Value)=>p.1=q.1/\H q.2.1=some (.tup (p.1.map kV))/\RelV p.2 q.2.2) kvs xs /\
   ∃o es ep,h.get? a=some o/\o.ExactDict/\o.data=.dict es ep/\es.toList=xs.map (entryOfKey (tupleKind (mixKind P w)))/\(xs.map (·.1)).Nodup
 | .set S n=>h.SetOf (intKind P w) a S n
 | .ins C dx fs=>H dx=some (.own a)/\fs.length<=1000/\dx≠a/\h.get? a=some (PySem.W.instObj C dx) /\
   ∃mA,h.Ns1 dx mA/\(∀f,RelO (fs.lookup f) (mA f))/\PySem.Within mA (fs.map (·.1))
 | .own _=>∃o,h.get? a=some o
 | .xd fs=>∃mA,h.Ns1 a mA/\∀f,RelO (fs.lookup f) (mA f)
 | .rng lo hi=>∃t u v,h.get? a=some {cls:=.type "range",data:=.fields #[.int lo t,.int hi u,.int 1 v]}
 | .frz o u=>h.get? a=some o/\ObjOk H h a u
 | .tbl ps=>h.get? a=some {cls:=.none,data:=.fields ps}
 | .met f x=>h.get? a=some (PySem.W.methodObj (.ref f) (.ref x))
 | .ext φ => φ h/\(∃o,h.get? a=some o)/\∀h1 h2:Heap, φ h1->(∀o,h1.get? a=some o->h2.get? a=some o) -> φ h2
def HOk(H:Hp)(h:Heap): Prop:=∀a o,H a=some o->ObjOk P w H h a o
end
section
variable{P:Program}{w:World}{H H':Hp}{h h':Heap}{a:Addr}{o:HO}
theorem ObjOk.lt(x:ObjOk P w H h a o): a<h.objs.size:=by
 cases o with
 | lst xs=>obtain⟨_,_,_,_,e⟩:=x;exact gh e
 | tup xs=>obtain⟨_,_,_,p⟩:=x;exact p.lt
 | dK kvs=>obtain⟨_,_,_,_,o,_,_,e,_⟩:=x;exact gh e
 | dT kvs=>obtain⟨_,_,_,_,o,_,_,e,_⟩:=x;exact gh e
 | set S n=>obtain⟨o,_,_,_,e,_⟩:=x;exact gh e
 | ins C dx fs=>obtain⟨_,_,_,e,_⟩:=x;exact gh e
 | own y=>obtain⟨_,e⟩:=x;exact gh e
 | xd fs=>obtain⟨_,⟨_,_,_,e,_⟩,_⟩:=x;exact gh e
 | rng lo hi=>obtain⟨_,_,_,e⟩:=x;exact gh e
 | frz ob u=>obtain⟨e,_⟩:=x;exact gh e
 | tbl ps=>exact gh (show h.get? a=some _ from x)
 | met f y=>exact gh (show h.get? a=some _ from x)
 | ext φ =>obtain⟨_,⟨_,e⟩,_⟩:=x;exact gh e
theorem Paired.mapP{α β : Type}{F G : α -> β -> Prop}: ∀ {l₁:List α} {l₂:List β},Paired F l₁ l₂->(∀a b,F a b->G a b)->Paired G l₁ l₂
 | _,_,.nil,_=>.nil
 | _,_,.cons r t,f=>.cons (f _ _ r) (Paired.mapP t f)
theorem ObjOk.stay(x:ObjOk P w H h a o)(k:∀b u,(b=a\/H b=some (.own a))->h.get? b=some u->h'.get? b=some u)
  (ho:∀b,H b=some (.own a)->H' b=some (.own a)) (ht:∀b xs,H b=some (.tup xs)->H' b=some (.tup xs)):ObjOk P w H' h' a o:=by
 induction o with
 | lst xs=>obtain⟨z,its,n,r,e⟩:=x;exact⟨z,its,n,r,k _ _ (.inl rfl) e⟩
 | tup xs=>obtain⟨z,its,r,ob,e,c⟩:=x;exact⟨z,its,r,ob,k _ _ (.inl rfl) e,c⟩
 | dK kvs=>obtain⟨z,y,vs,r,ob,es,ep,e,c⟩:=x;exact⟨z,y,vs,r,ob,es,ep,k _ _ (.inl rfl) e,c⟩
 | dT kvs=>
  obtain⟨z,y,xs,r,ob,es,ep,e,c⟩:=x;exact⟨z,y,xs,Paired.mapP r fun p q z=>⟨z.1,ht _ _ z.2.1,z.2.2⟩,ob,es,ep,k _ _ (.inl rfl) e,c⟩
 | set S n=>obtain⟨ob,es,ep,t,e,c⟩:=x;exact⟨ob,es,ep,t,k _ _ (.inl rfl) e,c⟩
 | ins C dx fs=>
  obtain⟨d,z,ne,e,mA,⟨od,es,ep,e2,c⟩,r⟩:=x;exact⟨ho _ d,z,ne,k _ _ (.inl rfl) e,mA,⟨od,es,ep,k _ _ (.inr d) e2,c⟩,r⟩
 | own y=>obtain⟨ob,e⟩:=x;exact⟨ob,k _ _ (.inl rfl) e⟩
 | xd fs=>obtain⟨mA,⟨od,es,ep,e,c⟩,r⟩:=x;exact⟨mA,⟨od,es,ep,k _ _ (.inl rfl) e,c⟩,r⟩
 | rng lo hi=>obtain⟨t,u,v,e⟩:=x;exact⟨t,u,v,k _ _ (.inl rfl) e⟩
 | frz ob u ih=>obtain⟨e,q⟩:=x;exact⟨k _ _ (.inl rfl) e,ih q⟩
 | tbl ps=>
  have e:h.get? a=some {cls:=.none,data:=.fields ps}:=x;show h'.get? a=some {cls:=.none,data:=.fields ps};exact k a _ (.inl rfl) e
 | met f y=>
  have e:h.get? a=some (PySem.W.methodObj (.ref f) (.ref y)):=x;show h'.get? a=some (PySem.W.methodObj (.ref f) (.ref y));exact k a _ (.inl rfl) e
 | ext φ =>obtain⟨p,⟨o,e⟩,st⟩:=x;exact⟨st _ _ p fun o q=>k _ _ (.inl rfl) q,⟨o,k _ _ (.inl rfl) e⟩,st⟩
theorem HOk.lt(x:HOk P w H h)(e:H a=some o): a<h.objs.size:=(x a o e).lt
theorem HOk.fresh(x:HOk P w H h)(e:h.objs.size<=a): H a=none:=by
 cases q:H a with
 | none=>rfl
 | some u=>exact absurd (gs (x.lt q) e) (ph _)
theorem HOk.kept(x:HOk P w H h)(k:∀b u,h.get? b=some u->h'.get? b=some u): HOk P w H h':=fun a o e=>
 (x a o e).stay (fun b u _ q=>k b u q) (fun _ q=>q) fun _ _ q=>q
theorem HOk.laid(x:HOk P w H h)(k:∀b u,h.get? b=some u->h'.get? b=some u)(hp:h.objs.size<=a)(new:ObjOk P w (upd H a o) h' a o): HOk P w (upd H a o) h':=fun b u e=>by
 have hn:=x.fresh hp
 by_cases hb:b=a
 ·subst hb;rw [qt] at e;cases e;exact new
 ·rw [qk hb] at e
  exact(x b u e).stay (fun c v _ q=>k c v q) (fun c q=>by rw [qk (zq q hn)];exact q) fun c xs q=>by rw [qk (zq q hn)];exact q
end
def Rd(H:Hp)(a:Addr)(u:HO): Prop:=H a=some u\/∃o,H a=some (.frz o u)
theorem Rd.ok{P:Program}{w:World}{H:Hp}{h:Heap}{a:Addr}{u:HO}(r:Rd H a u)(x:HOk P w H h): ObjOk P w H h a u:=by
 rcases r with r|⟨o,r⟩
 ·exact x a u r
 ·obtain⟨_,q⟩:=x a _ r
  exact q
def Mut:Option HO->Prop
 | some (.lst _)=>True
 | some (.dK _)=>True
 | some (.dT _)=>True
 | some (.set _ _)=>True
 | some (.ins _ _ _)=>True
 | some (.ext _)=>True
 | _=>False
section
variable{P:Program}{w:World}{H:Hp}{h h':Heap}{x e:Addr}{o':HO}
theorem HOk.write(ok:HOk P w H h)(mu:Mut (H x))(he:e=x\/H e=some (.own x))(k:∀b u,b≠e->h.get? b=some u->h'.get? b=some u)(heo:∃u,h'.get? e=some u)
  (new:ObjOk P w (upd H x o') h' x o'):HOk P w (upd H x o') h':=fun b u q=>by
 have nown:∀c y,H c=some (.own y)->c≠x:=fun c y r z=>by subst z;rw [r] at mu;exact mu
 have ntup:∀c xs,H c=some (.tup xs)->c≠x:=fun c xs r z=>by subst z;rw [r] at mu;exact mu
 by_cases hb:b=x
 ·subst hb;rw [qt] at q;cases q;exact new
 ·rw [qk hb] at q
  by_cases hbe:b=e
  ·have q':H b=some (.own x):=by
    rcases he with z|z
    ·exact absurd (hbe.trans z) hb
    ·rw [hbe];exact z
   rw [q] at q';cases q';obtain⟨v,hv⟩:=heo;exact⟨v,by rw [hbe];exact hv⟩
  ·refine(ok b u q).stay (fun c v hc r=>k c v ?_ r) (fun c r=>by rw [qk (nown c b r)];exact r) fun c xs r=>by rw [qk (ntup c xs r)];exact r
   rcases hc with rfl|hc
   ·exact hbe
   ·rintro rfl
    rcases he with z|z
    ·exact nown c b hc z
    ·rw [hc] at z;cases z;exact hb rfl
end
structure Un(fs ex:List Addr)(H H':Hp)(h h':Heap): Prop where
 keep:∀b o,h.get? b=some o->H b=none->b∉fs->b∉ex->h'.get? b=some o
 slot:∀b o,h.get? b=some o->H b=none->b∈fs->b∉ex->∃sl,h'.get? b=some {o with slots:=sl}
 free:∀b o,h.get? b=some o->H b=none->b∉ex->H' b=none
 there:∀b o,h.get? b=some o->b∉ex->∃o',h'.get? b=some o'
 tups:∀b xs,H b=some (.tup xs)->H' b=some (.tup xs)
 frzs:∀b o u,H b=some (.frz o u)->H' b=some (.frz o u)
 tbls:∀b ps,H b=some (.tbl ps)->∃more,H' b=some (.tbl (ps++more))
section
variable{fs fs' ex ex':List Addr}{H H1 H2:Hp}{h h1 h2 h':Heap}{a x e:Addr}{o:HO}
theorem Un.any(u:Un fs ex H H1 h h1){b:Addr}{ob:Obj}(q:h.get? b=some ob)(n:H b=none)(hx:b∉ex): ∃sl,h1.get? b=some {ob with slots:=sl}:=by
 by_cases hb:b∈fs
 ·exact u.slot b ob q n hb hx
 ·exact⟨ob.slots,u.keep b ob q n hb hx⟩
theorem Un.trans(a:Un fs ex H H1 h h1)(b:Un fs ex H1 H2 h1 h2): Un fs ex H H2 h h2 where
 keep:=fun c ob q n hc hx=>b.keep c ob (a.keep c ob q n hc hx) (a.free c ob q n hx) hc hx
 slot:=fun c ob q n hc hx=>by
  obtain⟨sl,e1⟩:=a.slot c ob q n hc hx;obtain⟨sl',e2⟩:=b.slot c _ e1 (a.free c ob q n hx) hc hx;exact⟨sl',e2⟩
 free:=fun c ob q n hx=>by
  obtain⟨o',e1⟩:=a.there c ob q hx;exact b.free c o' e1 (a.free c ob q n hx) hx
 there:=fun c ob q hx=>by
  obtain⟨o',e1⟩:=a.there c ob q hx;exact b.there c o' e1 hx
 tups:=fun c xs q=>b.tups c xs (a.tups c xs q)
 frzs:=fun c ob xs q=>b.frzs c ob xs (a.frzs c ob xs q)
 tbls:=fun c ps q=>by
  obtain⟨m1,e1⟩:=a.tbls c ps q;obtain⟨m2,e2⟩:=b.tbls c _ e1;exact⟨m1++m2,by rw [e2,g2a]⟩
theorem Un.kept(k:∀b u,h.get? b=some u->h'.get? b=some u): Un fs ex H H h h':=
 ⟨fun b ob q _ _ _=>k b ob q,fun b ob q _ _ _=>⟨ob.slots,k b ob q⟩,fun _ _ _ n _=>n,fun b ob q _=>⟨ob,k b ob q⟩,fun _ _ q=>q,fun _ _ _ q=>q,fun _ ps q=>⟨#[],by rw [q];simp⟩⟩
theorem Un.refl:Un fs ex H H h h:=Un.kept fun _ _ q=>q
theorem Un.laid(k:∀b u,h.get? b=some u->h'.get? b=some u)(hp:h.objs.size<=a)(hn:H a=none): Un fs ex H (upd H a o) h h' where
 keep:=fun b u q _ _ _=>k b u q
 slot:=fun b u q _ _ _=>⟨u.slots,k b u q⟩
 free:=fun b u q n _=>by rw [qk (gr (gs (gh q) hp))];exact n
 there:=fun b u q _=>⟨u,k b u q⟩
 tups:=fun b xs q=>by rw [qk (zq q hn)];exact q
 frzs:=fun b u xs q=>by rw [qk (zq q hn)];exact q
 tbls:=fun b ps q=>⟨#[],by rw [qk (zq q hn),q];simp⟩
theorem Un.write(mu:Mut (H x))(he:e=x\/H e=some (.own x))(k:∀b u,b≠e->h.get? b=some u->h'.get? b=some u)(heo:∃u,h'.get? e=some u): Un fs ex H (upd H x o) h h':=by
 have hx:∀b,H b=none->b≠x:=fun b n z=>by subst z;rw [n] at mu;exact mu
 have hb:∀b,H b=none->b≠e:=fun b n z=>by
  subst z;rcases he with r|r
  ·exact hx b n r
  ·rw [n] at r;cases r
 have hm:∀b u,H b=some u->¬Mut (some u)->b≠x:=fun b u q nm z=>by subst z;rw [q] at mu;exact nm mu
 refine⟨fun b u q n _ _=>k b u (hb b n) q,fun b u q n _ _=>⟨u.slots,k b u (hb b n) q⟩,fun b u q n _=>by rw [qk (hx b n)];exact n,fun b u q _=>?_,
  fun b xs q=>by rw [qk (hm b _ q fun z=>z)];exact q,fun b u xs q=>by rw [qk (hm b _ q fun z=>z)];exact q,fun b ps q=>⟨#[],by rw [qk (hm b _ q fun z=>z),q];simp⟩⟩
 by_cases hbe:b=e
 ·subst hbe;exact heo
 ·exact⟨u,k b u hbe q⟩
end
def trk(h:Heap)(H:Hp): List Addr:=(List.range h.objs.size).filter fun a=>(H a).isSome
def q2w(h:Heap)(H:Hp): Heap:=PySem.W.hideAll h (trk h H)
theorem qex(h:Heap)(H:Hp): (q2w h H).objs.size=h.objs.size:=PySem.W.hideAll_size _ _
theorem qgx{h:Heap}{H:Hp}{b:Addr}{o:Obj}(e:h.get? b=some o)(n:H b=none): (q2w h H).get? b=some o:=
 PySem.W.hideAll_get _ e fun hm=>by
  have q:(H b).isSome=true:=(uj.mp hm).2;rw [n] at q;simp at q
theorem qja{h:Heap}{H:Hp}{b:Addr}{o:Obj}(e:(q2w h H).get? b=some o): h.get? b=some o/\H b=none:=by
 have e':h.get? b=some o:=PySem.W.of_hideAll (trk h H) e;refine⟨e',?_⟩;cases q:H b with
 | none=>rfl
 | some x=>
  have hm:b∈trk h H:=uj.mpr ⟨pj.mpr (gh e'),by simp [q]⟩;have z:(q2w h H).get? b=none:=PySem.W.hideAll_none (trk h H) hm;rw [z] at e;cases e
def qjb(g h:Heap)(L:Addr): List (Addr×Obj):=(List.range h.objs.size).filterMap fun a=>if a=L\/(g.get? a).isSome=true then none else(h.get? a).map fun o=>(a,o)
def rest(g h:Heap)(L d:Addr): List (Addr×Obj):=(qjb g h L).filter fun p=>decide (p.1≠d)
structure Mod(K:PySem.W.Frag)(mg:Str->Option Value)(base:Heap): Prop where
 kin:K.In base
 glob:base.Ns mainGlobals mg
 blt:∃mb,base.Ns builtinsNs mb/\∀x:Str,x≠"__name__" -> mb x=bootBuiltins x
 nolimit:base.NoLimit
structure Cx where
 prog:Program
 w:World
 K:PySem.W.Frag
 mg:Str->Option Value
 base:Heap
 A:Around
 N:List Str
 s₀:Shared
 H₀:Hp
 env:Env
 outer:List Env
 stack:List Env
 ex:List Addr
 fn:Str->Bool
 calm:Bool
 pn:List (Addr×Obj)
 xe:Value->Shared->Prop
def frs(l:List Env): List Addr:=l.filterMap (·.frame)
abbrev Cx.fs(X:Cx): List Addr:=frs X.outer
def Vis(sc:Scope)(x:Str): Prop:=sc.names.lookup x=some .local\/sc.names.lookup x=some .cell\/sc.names.lookup x=some .free
def Loc(sc:Scope)(x:Str): Prop:=sc.names.lookup x=some .local\/sc.names.lookup x=some .cell
def Look(env:Env)(h:Heap)(m:Str->Option Value)(x:Str)(u:Value): Prop:=
 (env.kindOf x=some .local/\m x=some u)\/((env.kindOf x=some .cell\/env.kindOf x=some .free)/\∃c,env.cells.lookup x=some c/\h.IsCell c (some u))
structure Cx.Ok(X:Cx): Prop where
 mod:Mod X.K X.mg X.base
 kind:X.env.scope.kind=.function
 glob:X.env.globals=mainGlobals
 blt:X.env.builtins=builtinsNs
 above:X.s₀.heap.objs.size<=X.env.locals
 inj:∀x y c,X.env.cells.lookup x=some c->X.env.cells.lookup y=some c->x=y
 has:∀x,(X.env.kindOf x=some .cell\/X.env.kindOf x=some .free)->∃c,X.env.cells.lookup x=some c
 cab:∀x c,X.fn x=true->X.env.cells.lookup x=some c->X.s₀.heap.objs.size<=c
 hd:X.calm=true->X.A.handled=none
 frames:X.A.frames=some X.stack
 stk:X.stack=X.outer\/(X.stack=X.env :: X.outer/\X.env.frame=some X.env.locals)
 exf:∀b∈X.ex,b≠X.env.locals/\∀x c,X.env.cells.lookup x=some c->c≠b
 bs:∀b o,X.base.get? b=some o->X.s₀.heap.get? b=some o/\X.H₀ b=none
 bsz:X.base.objs.size<=X.s₀.heap.objs.size
 noex:∀b o,X.base.get? b=some o->b∉X.ex
 exfs:∀b∈X.ex,b∉X.fs
 funs:X.s₀.heap.FunFrames X.base X.outer
 frf:∀b∈X.fs,X.H₀ b=none
structure Inv(X:Cx)(pins:List (Addr×Obj))(σ : List (Option V))(H:Hp)(s:Shared): Prop where
 ok:X.Ok
 os:s.os=X.s₀.os
 bare:AllBare s.gens
 base:Un X.fs X.ex X.H₀ H X.s₀.heap s.heap
 loc:∃m,s.heap.Ns X.env.locals m/\∀(i:Nat) (x:Str) (v:V),X.N[i]? = some x -> σ[i]? = some (some v)->Vis X.env.scope x->∃u,RelV v u/\Look X.env s.heap m x u
 cell:∀x c,X.env.cells.lookup x=some c->∃v,s.heap.IsCell c v
 free:H X.env.locals=none
 freeC:∀x c,X.env.cells.lookup x=some c->H c=none
 pin:∀p∈X.pn++pins,s.heap.get? p.1=some p.2/\H p.1=none/\p.1≠X.env.locals/\p.1∉X.fs/\∀v,p.2.data ≠ .cell v
 hok:HOk X.prog X.w H s.heap
 len : σ.length=X.N.length
section
variable{X:Cx}{pins:List (Addr×Obj)}{σ : List (Option V)}{H H':Hp}{s:Shared}{h':Heap}
theorem Cx.Ok.nofr(ok:X.Ok){b:Addr}{o:Obj}(e:X.base.get? b=some o): b∉X.fs:=fun hb=>by
 have:=(ok.funs.mem hb).1;rw [e] at this;cases this
theorem Inv.bs(I:Inv X pins σ H s): ∀b o,X.base.get? b=some o->s.heap.get? b=some o/\H b=none:=fun b o e=>
 ⟨I.base.keep b o (I.ok.bs b o e).1 (I.ok.bs b o e).2 (I.ok.nofr e) (I.ok.noex b o e),I.base.free b o (I.ok.bs b o e).1 (I.ok.bs b o e).2 (I.ok.noex b o e)⟩
theorem Inv.bk(I:Inv X pins σ H s): ∀b o,X.base.get? b=some o->s.heap.get? b=some o:=fun b o e=>(I.bs b o e).1
theorem Inv.mod(I:Inv X pins σ H s): Mod X.K X.mg X.base:=I.ok.mod
theorem Inv.kIn(I:Inv X pins σ H s): X.K.In s.heap:=I.ok.mod.kin.keeps I.bk
theorem Inv.lt(I:Inv X pins σ H s): X.env.locals<s.heap.objs.size:=let⟨_,hn,_⟩:=I.loc;hn.lt
theorem Inv.sz(I:Inv X pins σ H s): X.s₀.heap.objs.size<=s.heap.objs.size:=my I.ok.above (g1t I.lt)
theorem Inv.nofs(I:Inv X pins σ H s){a:Addr}(h:s.heap.objs.size<=a): a∉X.fs:=fun hb=>by
 obtain⟨_,o,ho,_⟩:=I.ok.funs.mem hb;exact absurd (gs (gh ho) (my I.sz h)) (ph _)
theorem Inv.cne(I:Inv X pins σ H s): ∀x c,X.env.cells.lookup x=some c->c≠X.env.locals:=fun x c e z=>by
 obtain⟨v,o,ho,hd⟩:=I.cell x c e;obtain⟨m,⟨o',es,ep,ho',hd',_⟩,_⟩:=I.loc;rw [z,ho'] at ho;cases ho;rw [hd'] at hd;cases hd
theorem Inv.funs(I:Inv X pins σ H s): s.heap.FunFrames X.base X.outer:=by
 have all:∀(l:List Env),(∀b∈frs l,b∈X.fs)->X.s₀.heap.FunFrames X.base l->s.heap.FunFrames X.base l:=by
  intro l
  induction l with
  | nil=>intro _ _;trivial
  | cons env r ih=>
   intro hs hl;obtain⟨hk,⟨L,o,hf,hn,ho,hd⟩,hr⟩:=hl;have hL:L∈X.fs:=hs L (by unfold frs;rw [u0,hf];exact gv);obtain⟨sl,e⟩:=I.base.slot L o ho (I.ok.frf L hL) hL fun z=>I.ok.exfs L z hL;exact⟨hk,⟨L,_,hf,hn,e,hd⟩,ih (fun b hb=>hs b (by unfold frs;rw [u0,hf];exact m5 _ hb)) hr⟩
 exact all X.outer (fun _ hb=>hb) I.ok.funs
theorem Inv.stack(I:Inv X pins σ H s): s.heap.FunFrames X.base X.stack:=by
 rcases I.ok.stk with e|⟨e,hf⟩
 ·rw [e];exact I.funs
 ·rw [e]
  obtain⟨m,hn,_⟩:=I.loc;refine .cons (by rw [I.ok.kind];decide) hf hn ?_ I.funs;exact Heap.get?_none_of_le (my I.ok.bsz I.ok.above)
theorem Inv.stkSub(I:Inv X pins σ H s): ∀b∈frs X.stack,b∈X.env.locals :: X.fs:=fun b hb=>by
 rcases I.ok.stk with e|⟨e,hf⟩
 ·rw [e] at hb;exact m5 _ hb
 ·rw [e] at hb
  unfold frs at hb;rw [u0,hf] at hb;exact hb
theorem Inv.stkFree(I:Inv X pins σ H s): ∀b∈frs X.stack,H b=none:=fun b hb=>by
 rcases gm.mp (I.stkSub b hb) with e|hb
 ·rw [e];exact I.free
 ·obtain⟨_,o,ho,_⟩:=I.ok.funs.mem hb
  exact I.base.free b o ho (I.ok.frf b hb) fun z=>I.ok.exfs b z hb
theorem Inv.step{g':Array GenState}{t':Nat}{d':Drawn}{ch:List Addr}(I:Inv X pins σ H s)
  (hch:∀b∈ch,(b∈X.ex\/X.s₀.heap.objs.size<=b)/\b≠X.env.locals/\(∀x c,X.env.cells.lookup x=some c->c≠b)/\∀p∈X.pn++pins,p.1≠b)
  (keep:∀b o,b≠X.env.locals->b∉X.fs->b∉ch->s.heap.get? b=some o->H b=none->h'.get? b=some o)
  (slot:∀b o,b≠X.env.locals->b∈X.fs->b∉ch->s.heap.get? b=some o->H b=none->∃sl,h'.get? b=some {o with slots:=sl}) (free:∀b o,b∉ch->s.heap.get? b=some o->H b=none->H' b=none)
  (there:∀b o,b∉ch->s.heap.get? b=some o->∃o',h'.get? b=some o')
  (tups:∀b xs,H b=some (.tup xs)->H' b=some (.tup xs)) (frzs:∀b o u,H b=some (.frz o u)->H' b=some (.frz o u)) (tbls:∀b ps,H b=some (.tbl ps)->∃more,H' b=some (.tbl (ps++more)))
  (ns:∀m,s.heap.Ns X.env.locals m->h'.Ns X.env.locals m) (hok:HOk X.prog X.w H' h') (hg:AllBare g') :
  Inv X pins σ H' {s with heap:=h',gens:=g',drawn:=d',toks:=t'}:=by
 have neL:∀b o,X.s₀.heap.get? b=some o->b≠X.env.locals:=fun b o e=>gr (gs (gh e) I.ok.above);have neC:∀b o,X.s₀.heap.get? b=some o->b∉X.ex->b∉ch:=fun b o e hx hb=>by
  rcases(hch b hb).1 with z|z
  ·exact hx z
  ·exact absurd (gs (gh e) z) (ph _)
 have cellK:∀x c,X.env.cells.lookup x=some c->∀v,s.heap.IsCell c v->h'.IsCell c v:=fun x c e v ⟨o,ho,hd⟩=>by
  have nch:c∉ch:=fun z=>(hch c z).2.2.1 x c e rfl
  by_cases hc:c∈X.fs
  ·obtain⟨sl,q⟩:=slot c o (I.cne x c e) hc nch ho (I.freeC x c e)
   exact⟨_,q,hd⟩
  ·exact⟨o,keep c o (I.cne x c e) hc nch ho (I.freeC x c e),hd⟩
 refine⟨I.ok,I.os,hg,⟨fun b o e n hb hx=>?_,fun b o e n hb hx=>?_,fun b o e n hx=>?_,fun b o e hx=>?_,fun b xs e=>tups b xs (I.base.tups b xs e),fun b o xs e=>frzs b o xs (I.base.frzs b o xs e),fun b ps e=>?_⟩,?_,fun x c e=>?_,?_,fun x c e=>?_,fun p hp=>?_,hok,I.len⟩
 ·exact keep b o (neL b o e) hb (neC b o e hx) (I.base.keep b o e n hb hx) (I.base.free b o e n hx)
 ·obtain⟨sl,e1⟩:=I.base.slot b o e n hb hx
  obtain⟨sl',e2⟩:=slot b _ (neL b o e) hb (neC b o e hx) e1 (I.base.free b o e n hx);exact⟨sl',e2⟩
 ·obtain⟨o',e1⟩:=I.base.there b o e hx
  exact free b o' (neC b o e hx) e1 (I.base.free b o e n hx)
 ·obtain⟨o',e1⟩:=I.base.there b o e hx
  exact there b o' (neC b o e hx) e1
 ·obtain⟨m1,e1⟩:=I.base.tbls b ps e
  obtain⟨m2,e2⟩:=tbls b _ e1;exact⟨m1++m2,by rw [e2,g2a]⟩
 ·obtain⟨m,hn,hl⟩:=I.loc
  refine⟨m,ns m hn,fun i x v e1 e2 e3=>?_⟩;obtain⟨u,r,l⟩:=hl i x v e1 e2 e3;refine⟨u,r,?_⟩;rcases l with l|⟨k,c,e,z⟩
  ·exact .inl l
  ·exact .inr ⟨k,c,e,cellK x c e _ z⟩
 ·obtain⟨v,z⟩:=I.cell x c e
  exact⟨v,cellK x c e v z⟩
 ·obtain⟨m,⟨o,_,_,ho,_⟩,_⟩:=I.loc
  exact free _ o (fun z=>(hch _ z).2.1 rfl) ho I.free
 ·obtain⟨v,o,ho,hd⟩:=I.cell x c e
  exact free c o (fun z=>(hch c z).2.2.1 x c e rfl) ho (I.freeC x c e)
 ·obtain⟨e,n,ne,nf,d⟩:=I.pin p hp
  have nch:p.1∉ch:=fun z=>(hch p.1 z).2.2.2 p hp rfl;exact⟨keep p.1 p.2 ne nf nch e n,free p.1 p.2 nch e n,ne,nf,d⟩
theorem Inv.un{t':Nat}(I:Inv X pins σ H s)(u:Un X.fs [] H H' s.heap h')(hok:HOk X.prog X.w H' h'): Inv X pins σ H' {s with heap:=h',toks:=t'}:=by
 obtain⟨m,⟨o,es,ep,ho,r⟩,_⟩:=id I.loc;obtain⟨sl,hL⟩:=u.any ho I.free (by simp);exact I.step (g':=s.gens) (d':=s.drawn) (ch:=[]) (fun _ z=>nomatch z) (fun b o _ hb _ e n=>u.keep b o e n hb (by simp)) (fun b o _ hb _ e n=>u.slot b o e n hb (by simp)) (fun b o _ e n=>u.free b o e n (by simp)) (fun b o _ e=>u.there b o e (by simp)) u.tups u.frzs u.tbls (fun m' hm=>by
  obtain⟨o',es',ep',ho',r'⟩:=hm;rw [ho] at ho';cases ho';exact⟨_,es',ep',hL,r'⟩) hok I.bare
theorem Inv.call{g':Array GenState}{t':Nat}{d':Drawn}{ch:List Addr}(I:Inv X pins σ H s)(u:Un (frs X.stack) ch H H' s.heap h')(hok:HOk X.prog X.w H' h')(hg:AllBare g')
  (hch:∀b∈ch,(b∈X.ex\/X.s₀.heap.objs.size<=b)/\b≠X.env.locals/\(∀x c,X.env.cells.lookup x=some c->c≠b)/\∀p∈X.pn++pins,p.1≠b) :
  Inv X pins σ H' {s with heap:=h',gens:=g',drawn:=d',toks:=t'}:=by
 obtain⟨m,⟨o,es,ep,ho,r⟩,_⟩:=id I.loc;obtain⟨sl,hL⟩:=u.any ho I.free fun z=>(hch _ z).2.1 rfl;exact I.step (ch:=ch) hch (fun b o hL hb hc e n=>u.keep b o e n (fun z=>(gm.mp (I.stkSub b z)).elim hL hb) hc) (fun b o _ _ hc e n=>u.any e n hc) (fun b o hc e n=>u.free b o e n hc) (fun b o hc e=>u.there b o e hc) u.tups u.frzs u.tbls (fun m' hm=>by
  obtain⟨o',es',ep',ho',r'⟩:=hm;rw [ho] at ho';cases ho';exact⟨_,es',ep',hL,r'⟩) hok hg
theorem Inv.turned{t':Nat}{it:Addr}(I:Inv X pins σ H s)(k:∀b o,b≠it->s.heap.get? b=some o->h'.get? b=some o)(hn:H it=none)(hL:it≠X.env.locals)
  (h1:it∈X.ex\/X.s₀.heap.objs.size<=it) (h2:∀x c,X.env.cells.lookup x=some c->c≠it) (h3:∀p∈X.pn++pins,p.1≠it):Inv X pins σ H {s with heap:=h',toks:=t'}:=by
 have nit:∀b u,H b=some u->b≠it:=fun b u e z=>by rw [z,hn] at e;cases e
 refine I.step (g':=s.gens) (d':=s.drawn) (ch:=[it]) (fun b hb=>?_) (fun b o _ _ hc e _=>k b o (fun z=>hc (by simp [z])) e) (fun b o _ _ hc e _=>⟨o.slots,k b o (fun z=>hc (by simp [z])) e⟩) (fun _ _ _ _ n=>n)
  (fun b o hc e=>⟨o,k b o (fun z=>hc (by simp [z])) e⟩) (fun _ _ e=>e) (fun _ _ _ e=>e) (fun b ps e=>⟨#[],by rw [e];simp⟩) (fun m hm=>?_) (fun b u e=>?_) I.bare
 ·have e:b=it:=by simpa using hb
  subst e;exact⟨h1,hL,h2,h3⟩
 ·obtain⟨o,es,ep,ho,r⟩:=hm
  exact⟨o,es,ep,k _ o (gw hL) ho,r⟩
 ·refine(I.hok b u e).stay (fun c v hc q=>k c v ?_ q) (fun _ q=>q) fun _ _ q=>q
  rcases hc with z|z
  ·rw [z];exact nit b u e
  ·exact nit c _ z
theorem Inv.tok(I:Inv X pins σ H s)(t:Nat): Inv X pins σ H {s with toks:=t}:=I.un (h':=s.heap) (t':=t) Un.refl I.hok
theorem Inv.kept{t':Nat}(I:Inv X pins σ H s)(k:∀b u,s.heap.get? b=some u->h'.get? b=some u): Inv X pins σ H {s with heap:=h',toks:=t'}:=I.un (Un.kept k) (I.hok.kept k)
theorem Inv.laid{a:Addr}{o:HO}{t':Nat}(I:Inv X pins σ H s)(k:∀b u,s.heap.get? b=some u->h'.get? b=some u)(hp:s.heap.objs.size<=a)(new:ObjOk X.prog X.w (upd H a o) h' a o):
  Inv X pins σ (upd H a o) {s with heap:=h',toks:=t'}:=I.un (Un.laid k hp (I.hok.fresh hp)) (I.hok.laid k hp new)
theorem Inv.write{x e:Addr}{o:HO}{t':Nat}(I:Inv X pins σ H s)(mu:Mut (H x))(he:e=x\/H e=some (.own x))(k:∀b u,b≠e->s.heap.get? b=some u->h'.get? b=some u)(heo:∃u,h'.get? e=some u)
  (new:ObjOk X.prog X.w (upd H x o) h' x o):Inv X pins σ (upd H x o) {s with heap:=h',toks:=t'}:=I.un (Un.write mu he k heo) (I.hok.write mu he k heo new)
theorem Inv.pins_of{pins':List (Addr×Obj)}(I:Inv X pins σ H s)(h:∀p∈pins',s.heap.get? p.1=some p.2/\H p.1=none/\p.1≠X.env.locals/\p.1∉X.fs/\∀v,p.2.data ≠ .cell v): Inv X pins' σ H s:=
 ⟨I.ok,I.os,I.bare,I.base,I.loc,I.cell,I.free,I.freeC,fun p hp=>(p5.mp hp).elim (fun z=>I.pin p (g0q _ z)) (h p),I.hok,I.len⟩
theorem q9h{N:List Str}(hN:N.Nodup){i j:Nat}{x:Str}(a:N[i]? = some x)(b:N[j]? = some x): i=j:=by
 obtain⟨h1,e1⟩:=ma.mp a;obtain⟨h2,e2⟩:=ma.mp b;exact(g2p hN).mp (e1.trans e2.symm)
theorem qey{M:Model}{A:Around}{E:Value->Shared->Prop}{i:Nat}{x:Str}{v:V}{u:Value}{Q:Unit->Shared->Prop}(I:Inv X pins σ H s)(hN:X.N.Nodup)(hi:X.N[i]? = some x)(hx:Loc X.env.scope x)(r:RelV v u)
  (h:∀s',Inv X pins (σ.set i (some v)) H s'->(∃a,Heap.SameBut a s.heap s'.heap/\(a=X.env.locals\/X.env.cells.lookup x=some a))->Q () s') (hf:X.fn x=true\/X.env.scope.names.lookup x=some .local:=by first|exact .inl rfl|exact .inr rfl|assumption):wpAny M A (storeName X.env x u) Q E s:=by
 obtain⟨m,hn,hl⟩:=id I.loc;have hcls:(X.env.scope.kind == .class || (X.env.scope.kind == .module&&X.env.locals != X.env.globals))=false:=by rw [I.ok.kind];rfl
 have hiσ : i < σ.length:=by rw [I.len];exact(ma.mp hi).1
 have cne:=I.cne;have tracked:∀ {a:Addr} {h':Heap},(∃o,s.heap.get? a=some o/\H a=none)->Heap.SameBut a s.heap h'->HOk X.prog X.w H h':=fun {a h'} ha hs b ob e=>by
  obtain⟨_,_,hfree⟩:=ha;refine(I.hok b ob e).stay (fun c w' hc q=>(hs.2 c ?_).trans q) (fun _ q=>q) fun _ _ q=>q
  rintro rfl
  rcases hc with rfl|hc
  ·rw [hfree] at e;cases e
  ·rw [hfree] at hc;cases hc
 rcases hx with hk|hk
 ·refine wpAny_storeName_local hk hn (fun h' hn' hs=>?_) hcls
  obtain⟨oL,_,_,hoL,_⟩:=id hn;refine h _ ⟨I.ok,I.os,I.bare,⟨fun b o e n hb hx=>?_,fun b o e n hb hx=>?_,I.base.free,fun b o e hx=>?_,I.base.tups,I.base.frzs,I.base.tbls⟩,⟨_,hn',fun j y v' e1 e2 e3=>?_⟩,fun y c e=>?_,I.free,I.freeC,fun p hp=>?_,tracked ⟨oL,hoL,I.free⟩ hs,by simpa using I.len⟩ ⟨_,hs,.inl rfl⟩
  ·exact(hs.2 b (gr (gs (gh e) I.ok.above))).trans (I.base.keep b o e n hb hx)
  ·obtain⟨sl,e1⟩:=I.base.slot b o e n hb hx
   exact⟨sl,(hs.2 b (gr (gs (gh e) I.ok.above))).trans e1⟩
  ·obtain⟨o',e1⟩:=I.base.there b o e hx
   exact⟨o',(hs.2 b (gr (gs (gh e) I.ok.above))).trans e1⟩
  ·by_cases hj:j=i
   ·subst hj
    rw [hi] at e1;cases e1;rw [g35 hiσ] at e2;cases e2;exact⟨u,r,.inl ⟨hk,by simp⟩⟩
   ·rw [gd (gw hj)] at e2
    obtain⟨u',r',q⟩:=hl j y v' e1 e2 e3;refine⟨u',r',?_⟩;rcases q with⟨k,e⟩|⟨k,c,e,z⟩
    ·refine .inl ⟨k,?_⟩
     have:y≠x:=fun e=>hj (q9h hN e1 (e ▸ hi));simp [this,e]
    ·exact .inr ⟨k,c,e,z.sameBut hs (cne y c e)⟩
  ·obtain⟨w',z⟩:=I.cell y c e
   exact⟨w',z.sameBut hs (cne y c e)⟩
  ·obtain⟨e,n,ne,nf,d⟩:=I.pin p hp
   exact⟨(hs.2 p.1 ne).trans e,n,ne,nf,d⟩
 ·have hfn:X.fn x=true:=by
   rcases hf with z|z
   ·exact z
   ·rw [z] at hk;cases hk
  obtain⟨c,hc⟩:=I.ok.has x (.inl hk);obtain⟨w',z⟩:=I.cell x c hc;refine wpAny_storeName_cell I.ok.kind hk hc z (fun h' hc' hs=>?_);obtain⟨oc,hoc,hocd⟩:=id z;refine h {s with heap:=h'} ⟨I.ok,I.os,I.bare,⟨fun b o e n hb hx=>?_,fun b o e n hb hx=>?_,I.base.free,fun b o e hx=>?_,I.base.tups,I.base.frzs,I.base.tbls⟩,⟨m,hn.sameBut hs (gw (cne x c hc)),fun j y v' e1 e2 e3=>?_⟩,fun y c' e=>?_,I.free,I.freeC,fun p hp=>?_,tracked ⟨oc,hoc,I.freeC x c hc⟩ hs,by simpa using I.len⟩ ⟨c,hs,.inr hc⟩
  ·exact(hs.2 b (gr (gs (gh e) (I.ok.cab x c hfn hc)))).trans (I.base.keep b o e n hb hx)
  ·obtain⟨sl,e1⟩:=I.base.slot b o e n hb hx
   exact⟨sl,(hs.2 b (gr (gs (gh e) (I.ok.cab x c hfn hc)))).trans e1⟩
  ·obtain⟨o',e1⟩:=I.base.there b o e hx
   exact⟨o',(hs.2 b (gr (gs (gh e) (I.ok.cab x c hfn hc)))).trans e1⟩
  ·by_cases hj:j=i
   ·subst hj
    rw [hi] at e1;cases e1;rw [g35 hiσ] at e2;cases e2;exact⟨u,r,.inr ⟨.inl hk,c,hc,hc'⟩⟩
   ·rw [gd (gw hj)] at e2
    obtain⟨u',r',q⟩:=hl j y v' e1 e2 e3;refine⟨u',r',?_⟩;rcases q with q|⟨k,c',e,z'⟩
    ·exact .inl q
    ·refine .inr ⟨k,c',e,z'.sameBut hs ?_⟩
     rintro rfl
     exact hj (q9h hN e1 (I.ok.inj _ _ _ e hc ▸ hi))
  ·by_cases hcc:c'=c
   ·subst hcc;exact⟨_,hc'⟩
   ·obtain⟨w2,z2⟩:=I.cell y c' e
    exact⟨w2,z2.sameBut hs hcc⟩
  ·obtain⟨e,n,ne,nf,d⟩:=I.pin p hp
   refine⟨(hs.2 p.1 ?_).trans e,n,ne,nf,d⟩;intro q;rw [q,hoc] at e;have q':oc=p.2:=mh e;exact d w' (by rw [<- q'];exact hocd)
theorem q2x{M:Model}{A:Around}{E:Value->Shared->Prop}{i:Nat}{x:Str}{v:V}{u:Value}{Q:Unit->Shared->Prop}(I:Inv X pins σ H s)(hN:X.N.Nodup)(hi:X.N[i]? = some x)(hx:Loc X.env.scope x)(r:RelV v u)
  (h:∀s',Inv X pins (σ.set i (some v)) H s'->Q () s') (hf:X.fn x=true\/X.env.scope.names.lookup x=some .local:=by first|exact .inl rfl|exact .inr rfl|assumption):wpAny M A (storeName X.env x u) Q E s:=
 qey I hN hi hx r (fun s' I' _=>h s' I') hf
theorem Inv.call'{s':Shared}{ch:List Addr}(I:Inv X pins σ H s)(ho:s'.os=s.os)(u:Un (frs X.stack) ch H H' s.heap s'.heap)(hok:HOk X.prog X.w H' s'.heap)(hg:AllBare s'.gens)
  (hch:∀b∈ch,(b∈X.ex\/X.s₀.heap.objs.size<=b)/\b≠X.env.locals/\(∀x c,X.env.cells.lookup x=some c->c≠b)/\∀p∈X.pn++pins,p.1≠b):Inv X pins σ H' s':=by
 obtain⟨h',g',d',t',o'⟩:=s';have e:o'=s.os:=ho;subst e;exact I.call (g':=g') (t':=t') (d':=d') u hok hg hch
end
abbrev XK:=Value->Option Addr->Hp->Prop
abbrev St:=List (Option V)
abbrev VK:=V->Hp->Prop
abbrev TE:=St->Hp->VK->Prop
abbrev TT:=St->Hp->(Bool->Hp->Prop)->Prop
abbrev TA:=St->Hp->(List V->Hp->Prop)->Prop
structure Ends where
 nx:St->Hp->Prop
 rt:VK
 bk:St->Hp->Prop:=fun _ _=>False
 ct:St->Hp->Prop:=fun _ _=>False
abbrev TS:=Ends->St->Hp->Prop
def EP(X:Cx)(pins:List (Addr×Obj))(σ : St)(Q:VK)(u:Value)(s':Shared): Prop:=∃v H',Inv X pins σ H' s'/\RelV v u/\Q v H'
def TP(X:Cx)(pins:List (Addr×Obj))(σ : St)(Q:Bool->Hp->Prop)(b:Bool)(s':Shared): Prop:=∃H',Inv X pins σ H' s'/\Q b H'
def AP(X:Cx)(pins:List (Addr×Obj))(σ : St)(Q:List V->Hp->Prop)(us:List Value)(s':Shared): Prop:=∃vs H',Inv X pins σ H' s'/\Vals vs us/\Q vs H'
def SP(X:Cx)(pins:List (Addr×Obj))(D:Ends)(f:Flow)(s':Shared): Prop:=
 match f with
 | .next=>∃ σ' H',Inv X pins σ' H' s'/\D.nx σ' H'
 | .brk=>∃ σ' H',Inv X pins σ' H' s'/\D.bk σ' H'
 | .cont=>∃ σ' H',Inv X pins σ' H' s'/\D.ct σ' H'
 | .ret u=>∃v σ' H',Inv X pins σ' H' s'/\RelV v u/\D.rt v H'
def PE(X:Cx)(e:Expr)(t:TE): Prop:=
 ∀(pins:List (Addr×Obj)) (s:Shared) (σ : St) (H:Hp) (Q:VK),Inv X pins σ H s->t σ H Q->wpAny (model X.prog X.w) X.A (eval e X.env) (EP X pins σ Q) X.xe s
def PT(X:Cx)(e:Expr)(t:TT): Prop:=
 ∀(pins:List (Addr×Obj)) (s:Shared) (σ : St) (H:Hp) (Q:Bool->Hp->Prop),Inv X pins σ H s->t σ H Q->wpAny (model X.prog X.w) X.A (isTrue e X.env (eval e X.env)) (TP X pins σ Q) X.xe s
def PW(X:Cx)(e:Expr)(t:TT): Prop:=
 ∀(whole:Sem Value) (pins:List (Addr×Obj)) (s:Shared) (σ : St) (H:Hp) (Q:Bool->Hp->Prop),Inv X pins σ H s->t σ H Q->wpAny (model X.prog X.w) X.A (isTrue e X.env whole) (TP X pins σ Q) X.xe s
theorem PW.pt{X:Cx}{e:Expr}{t:TT}(h:PW X e t): PT X e t:=h _
def PA(X:Cx)(es:List Expr)(t:TA): Prop:=
 ∀(pos:Pos) (pins:List (Addr×Obj)) (s:Shared) (σ : St) (H:Hp) (Q:List V->Hp->Prop),Inv X pins σ H s->t σ H Q->wpAny (model X.prog X.w) X.A (spliced (backTo pos (starEach es X.env))) (AP X pins σ Q) X.xe s
def PS(X:Cx)(st:Stmt)(t:TS): Prop:=
 ∀(pins:List (Addr×Obj)) (s:Shared) (σ : St) (H:Hp) (D:Ends),Inv X pins σ H s->t D σ H->wpAny (model X.prog X.w) X.A (exec st X.env) (SP X pins D) X.xe s
def PSs(X:Cx)(st:List Stmt)(t:TS): Prop:=
 ∀(pins:List (Addr×Obj)) (s:Shared) (σ : St) (H:Hp) (D:Ends),Inv X pins σ H s->t D σ H->wpAny (model X.prog X.w) X.A (execs st X.env) (SP X pins D) X.xe s
theorem thn{α : Type}{t:Sem α}{Q Q' : α -> Shared->Prop}{M:Model}{A:Around}{E:Value->Shared->Prop}{s:Shared}(h:wpAny M A t Q E s)(hQ:∀a s,Q a s->Q' a s): wpAny M A t Q' E s:=n9 h hQ fun _ _ x=>x
section
variable{X:Cx}
def q9i(i:Nat): TE:=fun σ H Q=>∃v, σ[i]? = some (some v)/\Q v H
def tC(v:V): TE:=fun _ H Q=>Q v H
theorem ql6{i:Nat}{x:Str}{pos:Pos}(hN:X.N[i]? = some x)(hv:Vis X.env.scope x)(hd:(x==("__debug__" : Str))=false:=by decide)(hcd:(x==("__classdict__" : Str))=false:=by decide): PE X (.Name x pos) (q9i i):=by
 intro pins s σ H Q I h;obtain⟨v,e,h⟩:=h;obtain⟨m,hn,hl⟩:=I.loc;obtain⟨u,r,l⟩:=hl i x v hN e hv;have fin:EP X pins σ Q u s:=⟨v,H,I,r,h⟩
 rcases l with⟨hk,hm⟩|⟨hk,c,hc,hcell⟩
 ·exact wpAny_Name (wpAny_loadName_local I.ok.kind hk hn hm fin) hd
 ·rcases hk with hk|hk
  ·exact wpAny_Name (wpAny_loadName_cell I.ok.kind hk hc hcell fin) hd
  ·exact wpAny_Name (wpAny_loadName_free I.ok.kind hk hc hcell fin hcd) hd
theorem ql7{i j pos}: PE X (.Constant (.int i) j pos) (tC (.int i)):=fun _ _ _ H _ I h=>wpAny_Constant_int ⟨.int i,H,I.tok _,⟨_,rfl⟩,h⟩
theorem qnj{b j pos}: PE X (.Constant (.bool b) j pos) (tC (.bl b)):=fun _ _ _ H _ I h=>Constant_bool ⟨.bl b,H,I,rfl,h⟩
theorem ql8{j pos}: PE X (.Constant .none j pos) (tC .non):=fun _ _ _ H _ I h=>Constant_none ⟨.non,H,I,rfl,h⟩
theorem ql9{x j pos}: PE X (.Constant (.str x) j pos) (tC (.str x)):=fun _ _ _ H _ I h=>Calls.Constant_str ⟨.str x,H,I.tok _,⟨_,rfl⟩,h⟩
def Gl(X:Cx)(x:Str): Prop:=X.env.kindOf x=some .globalImplicit
theorem q12{E:Value->Shared->Prop}{pins:List (Addr×Obj)}{s:Shared}{σ : St}{H:Hp}{x:Str}{u:Value}{pos:Pos}{Q:Value->Shared->Prop}(I:Inv X pins σ H s)(hg:Gl X x)(hm:X.mg x=some u)(h:Q u s)
  (hd:(x==("__debug__" : Str))=false:=by decide):wpAny (model X.prog X.w) X.A (eval (.Name x pos) X.env) Q E s:=
 Calls.Name_function_global I.ok.kind hg (Calls.loadGlobal_global (by rw [I.ok.glob];exact I.mod.glob.keeps I.bk) hm h) hd
theorem q17{E:Value->Shared->Prop}{pins:List (Addr×Obj)}{s:Shared}{σ : St}{H:Hp}{x:Str}{u:Value}{pos:Pos}{Q:Value->Shared->Prop}(I:Inv X pins σ H s)(hg:Gl X x)(hm:X.mg x=none)(hv:bootBuiltins x=some u)(h:Q u s)
  (hn:x≠"__name__" :=by decide) (hd:(x==("__debug__" : Str))=false:=by decide):wpAny (model X.prog X.w) X.A (eval (.Name x pos) X.env) Q E s:=by
 obtain⟨mb,h1,h2⟩:=I.mod.blt;exact Calls.Name_function_global I.ok.kind hg (Calls.loadGlobal_builtin (by rw [I.ok.glob];exact I.mod.glob.keeps I.bk) hm (by rw [I.ok.blt];exact h1.keeps I.bk) ((h2 x hn).trans hv) h) hd
theorem q00{x:Str}{v:V}{u:Value}{pos:Pos}(hg:Gl X x)(hm:X.mg x=some u)(r:RelV v u)(hd:(x==("__debug__" : Str))=false:=by decide): PE X (.Name x pos) (tC v):=
 fun _ _ _ H _ I h=>q12 I hg hm ⟨v,H,I,r,h⟩ hd
theorem qcf{x:Str}{v:V}{u:Value}{pos:Pos}(hg:Gl X x)(hm:X.mg x=none)(hv:bootBuiltins x=some u)(r:RelV v u)(hn:x≠"__name__" :=by decide)(hd:(x==("__debug__" : Str))=false:=by decide): PE X (.Name x pos) (tC v):=
 fun _ _ _ H _ I h=>q17 I hg hm hv ⟨v,H,I,r,h⟩ hn hd
variable{a b:Expr}{ta tb:TE}{pos:Pos}
theorem q9j(b:Expr){op:CmpOp}(h:op ≠ .In)(h2:op ≠ .NotIn): behindInMarks op b=false:=by
 have e1:(op==CmpOp.In)=false:=by cases op <;> first|rfl|exact absurd rfl h
 have e2:(op==CmpOp.NotIn)=false:=by cases op <;> first|rfl|exact absurd rfl h2
 cases b <;> simp [behindInMarks,e1,e2]
variable{tA tB':TT}{rest:List Expr}
def tOr(t u:TT): TT:=fun σ H Q=>t σ H fun c H1=>if c=true then Q true H1 else u σ H1 Q
def qov(t:TT): TT:=fun σ H Q=>t σ H fun c H1=>Q (!c) H1
theorem qla(ha:PT X a tA): PW X (.BoolOp .Or [a] pos) tA:=by
 intro wh pins s σ H Q I h;refine isTrue_or (thn (ha pins s σ H Q I h) fun c s1 e=>?_);cases c with
 | false=>exact isTrue_or_nil e
 | true=>exact e
theorem qnk(ha:PT X a tA)(hb:PW X (.BoolOp .Or (b :: rest) pos) tB'): PW X (.BoolOp .Or (a :: b :: rest) pos) (tOr tA tB'):=by
 intro wh pins s σ H Q I h;refine isTrue_or (thn (ha pins s σ H _ I h) fun c s1 ⟨H1,I1,q1⟩=>?_);cases c with
 | true=>exact⟨H1,I1,q1⟩
 | false=>exact hb wh pins s1 σ H1 Q I1 q1
theorem qlb(ha:PT X a tA): PT X (.UnaryOp .Not a pos) (qov tA):=by
 intro pins s σ H Q I h;exact isTrue_not (ha pins s σ H (fun c H1=>Q (!c) H1) I h)
def qnl(ta tb:TE): TE:=fun σ H Q=>ta σ H fun x H1=>∃c,x=.bl c/\if c=true then tb σ H1 Q else Q (.bl false) H1
def qow(ta tb:TE): TE:=fun σ H Q=>ta σ H fun x H1=>∃c,x=.bl c/\if c=true then Q (.bl true) H1 else tb σ H1 Q
def qnm(ta:TE): TE:=fun σ H Q=>ta σ H fun x H1=>∃c,x=.bl c/\Q (.bl (!c)) H1
theorem qlc{op}{t:TE}(h:PE X a t): PE X (.BoolOp op [a] pos) t:=fun pins s σ H Q I hw=>BoolOp_one (h pins s σ H Q I hw)
theorem qld(ha:PE X a ta)(hb:PE X (.BoolOp .And (b :: rest) pos) tb): PE X (.BoolOp .And (a :: b :: rest) pos) (qnl ta tb):=by
 intro pins s σ H Q I h;refine BoolOp_and (thn (ha pins s σ H _ I h) fun v s1 ⟨x,H1,I1,r1,q1⟩=>?_);obtain⟨c,rfl,q1⟩:=q1;cases r1;refine tw ?_;cases c with
 | true=>exact hb pins s1 σ H1 Q I1 q1
 | false=>exact⟨.bl false,H1,I1,rfl,q1⟩
theorem qnn(ha:PE X a ta)(hb:PE X (.BoolOp .Or (b :: rest) pos) tb): PE X (.BoolOp .Or (a :: b :: rest) pos) (qow ta tb):=by
 intro pins s σ H Q I h;refine BoolOp_or (thn (ha pins s σ H _ I h) fun v s1 ⟨x,H1,I1,r1,q1⟩=>?_);obtain⟨c,rfl,q1⟩:=q1;cases r1;refine tw ?_;cases c with
 | false=>exact hb pins s1 σ H1 Q I1 q1
 | true=>exact⟨.bl true,H1,I1,rfl,q1⟩
theorem qle(ha:PE X a ta): PE X (.UnaryOp .Not a pos) (qnm ta):=by
 intro pins s σ H Q I h;refine UnaryOp_ (thn (ha pins s σ H _ I h) fun v s1 ⟨x,H1,I1,r1,q1⟩=>?_);obtain⟨c,rfl,q1⟩:=q1;cases r1;exact not_of (tw ⟨.bl (!c),H1,I1,rfl,q1⟩)
def tIf(t:TT)(ta tb:TE): TE:=fun σ H Q=>t σ H fun c H1=>if c=true then ta σ H1 Q else tb σ H1 Q
theorem qgy{c:Expr}(hc:PT X c tA)(ha:PE X a ta)(hb:PE X b tb): PE X (.IfExp c a b pos) (tIf tA ta tb):=by
 intro pins s σ H Q I h;refine wpAny_IfExp (thn (hc pins s σ H _ I h) fun d s1 ⟨H1,I1,q1⟩=>?_);cases d with
 | true=>exact ha pins s1 σ H1 Q I1 q1
 | false=>exact hb pins s1 σ H1 Q I1 q1
end
def SqL(K:PySem.W.Frag)(H:Hp)(a:Addr)(xs:List V): Prop:=
 Rd H a (.lst xs) \/
  ∃(o:Obj) (its:Array Value) (n:Nat),K.lookup a=some o/\o.cls=.type "list" /\ o.dict=none/\o.data=.seq its n/\its.size<=sizeLine/\Vals xs its.toList
def SqT(K:PySem.W.Frag)(H:Hp)(a:Addr)(xs:List V): Prop:=
 Rd H a (.tup xs) \/
  ∃(o:Obj) (its:Array Value) (n:Nat),K.lookup a=some o/\o.cls=.type "tuple" /\ o.data=.seq its n/\its.size<=sizeLine/\Vals xs its.toList
def qox:Value->Option V
 | .none=>some .non
 | .bool b=>some (.bl b)
 | .int i _=>some (.int i)
 | .str x _=>some (.str x)
 | .bytes b _=>some (.byt b)
 | .float b _=>some (.flt b)
 | .ref a=>some (.ref a)
 | .type n=>some (.ty n)
 | _=>none
theorem RelV.abs{x:V}{u:Value}(r:RelV x u): qox u=some x:=by
 cases x with
 | non=>cases r;rfl
 | bl _=>cases r;rfl
 | int _=>obtain⟨t,rfl⟩:=r;rfl
 | str _=>obtain⟨t,rfl⟩:=r;rfl
 | byt _=>obtain⟨t,rfl⟩:=r;rfl
 | flt _=>obtain⟨t,rfl⟩:=r;rfl
 | ref _=>cases r;rfl
 | ty _=>cases r;rfl
theorem RelV.inj{x y:V}{u:Value}(r:RelV x u)(q:RelV y u): x=y:=mh (r.abs.symm.trans q.abs)
theorem Vals.inj:∀ {xs ys:List V} {us:List Value},Vals xs us->Vals ys us->xs=ys
 | _,_,_,.nil,.nil=>rfl
 | _,_,_,.cons r t,.cons r' t'=>by rw [r.inj r',Vals.inj t t']
section
variable{X:Cx}{pins:List (Addr×Obj)}{σ : St}{H:Hp}{s:Shared}{a:Addr}{xs ys:List V}
theorem SqL.of{K:PySem.W.Frag}(h:H a=some (.lst xs)): SqL K H a xs:=.inl (.inl h)
theorem SqT.of{K:PySem.W.Frag}(h:H a=some (.tup xs)): SqT K H a xs:=.inl (.inl h)
theorem Inv.list(I:Inv X pins σ H s)(h:SqL X.K H a xs): ∃its:List Value,Vals xs its/\PlainL s.heap a its.toArray/\xs.length<=sizeLine:=by
 rcases h with h|⟨o,its,n,hk,hc,hd,hs,hz,r⟩
 ·obtain⟨z,its,n,r,e⟩:=h.ok I.hok
  exact⟨its,r,⟨_,n,e,rfl,rfl,rfl⟩,z⟩
 ·refine⟨its.toList,r,⟨o,n,I.kIn a o hk,hc,hd,by simpa using hs⟩,?_⟩
  have e:=r.length;simp only [g25] at e;omega
theorem Inv.tuple(I:Inv X pins σ H s)(h:SqT X.K H a xs): ∃its:List Value,Vals xs its/\IsTup s.heap a its.toArray/\xs.length<=sizeLine:=by
 rcases h with h|⟨o,its,n,hk,hc,hs,hz,r⟩
 ·obtain⟨z,its,r,p⟩:=h.ok I.hok
  exact⟨its,r,p,z⟩
 ·refine⟨its.toList,r,⟨o,I.kIn a o hk,hc,n,by simpa using hs⟩,?_⟩
  have e:=r.length;simp only [g25] at e;omega
theorem Inv.list_inj(I:Inv X pins σ H s)(h:SqL X.K H a xs)(h':SqL X.K H a ys): xs=ys:=by
 obtain⟨its,r,⟨o,n,e,_,_,d⟩,_⟩:=I.list h;obtain⟨its',r',⟨o',n',e',_,_,d'⟩,_⟩:=I.list h';rw [e] at e';cases e';rw [d] at d';injection d' with d1 _
 have:its=its':=by simpa using pw Array.toList d1
 subst this;exact r.inj r'
theorem Inv.tuple_inj(I:Inv X pins σ H s)(h:SqT X.K H a xs)(h':SqT X.K H a ys): xs=ys:=by
 obtain⟨its,r,⟨o,e,_,n,d⟩,_⟩:=I.tuple h;obtain⟨its',r',⟨o',e',_,n',d'⟩,_⟩:=I.tuple h';rw [e] at e';cases e';rw [d] at d';injection d' with d1 _
 have:its=its':=by simpa using pw Array.toList d1
 subst this;exact r.inj r'
end
abbrev Cx.wish(X:Cx)(E:Value->Shared->Prop): Cx:={X with xe:=E}
abbrev Cx.nox(X:Cx): Cx:=X.wish fun _ _=>False
theorem Cx.Ok.wish{X:Cx}(ok:X.Ok)(E:Value->Shared->Prop): (X.wish E).Ok:=
 ⟨ok.mod,ok.kind,ok.glob,ok.blt,ok.above,ok.inj,ok.has,ok.cab,ok.hd,ok.frames,ok.stk,ok.exf,ok.bs,ok.bsz,ok.noex,ok.exfs,ok.funs,ok.frf⟩
theorem Cx.Ok.unwish{X:Cx}{E:Value->Shared->Prop}(ok:(X.wish E).Ok): X.Ok:=
 ⟨ok.mod,ok.kind,ok.glob,ok.blt,ok.above,ok.inj,ok.has,ok.cab,ok.hd,ok.frames,ok.stk,ok.exf,ok.bs,ok.bsz,ok.noex,ok.exfs,ok.funs,ok.frf⟩
section
variable{X:Cx}{pins:List (Addr×Obj)}{σ : St}{H:Hp}{s:Shared}{E:Value->Shared->Prop}
theorem Inv.wish(I:Inv X pins σ H s)(E:Value->Shared->Prop): Inv (X.wish E) pins σ H s:=⟨I.ok.wish E,I.os,I.bare,I.base,I.loc,I.cell,I.free,I.freeC,I.pin,I.hok,I.len⟩
theorem Inv.unwish(I:Inv (X.wish E) pins σ H s): Inv X pins σ H s:=⟨I.ok.unwish,I.os,I.bare,I.base,I.loc,I.cell,I.free,I.freeC,I.pin,I.hok,I.len⟩
theorem SP.unwish{D:Ends}{f:Flow}{s':Shared}(h:SP (X.wish E) pins D f s'): SP X pins D f s':=by
 cases f with
 | next=>obtain⟨σ',H',I,q⟩:=h;exact⟨σ',H',I.unwish,q⟩
 | brk=>obtain⟨σ',H',I,q⟩:=h;exact⟨σ',H',I.unwish,q⟩
 | cont=>obtain⟨σ',H',I,q⟩:=h;exact⟨σ',H',I.unwish,q⟩
 | ret u=>obtain⟨v, σ',H',I,r,q⟩:=h;exact⟨v, σ',H',I.unwish,r,q⟩
theorem PT.nox{e:Expr}{t:TT}(h:PT X.nox e t): PT X e t:=fun pins s σ H Q I hw=>
 n9 (h pins s σ H Q (I.wish _) hw) (fun _ _ ⟨H',I',q⟩=>⟨H',I'.unwish,q⟩) fun _ _ z=>False.elim z
theorem PSs.nox{st:List Stmt}{t:TS}(h:PSs X.nox st t): PSs X st t:=fun pins s σ H D I hw=>
 n9 (h pins s σ H D (I.wish _) hw) (fun _ _ q=>q.unwish) fun _ _ z=>False.elim z
end
section
variable{X:Cx}{st:Stmt}{rest:List Stmt}{t u:TS}{e:Expr}{te:TE}{pos:Pos}
def tNext:TS:=fun D σ H=>D.nx σ H
def qoy(t u:TS): TS:=fun D σ H=>t {D with nx:=u D} σ H
theorem qjc:PSs X [] tNext:=fun _ _ σ H _ I h=>g10 ⟨σ,H,I,h⟩
theorem qgz(h1:PS X st t)(h2:PSs X rest u): PSs X (st :: rest) (qoy t u):=by
 intro pins s σ H D I h;refine g0r (thn (h1 pins s σ H {D with nx:=u D} I h) fun f s1 q=>?_);cases f with
 | next=>
  obtain⟨σ',H',I',q⟩:=q;exact h2 pins s1 σ' H' D I' q
 | ret v=>exact q
 | brk=>exact q
 | cont=>exact q
theorem qcg(h1:PS X st t): PSs X [st] t:=by
 intro pins s σ H D I h;refine g0r (thn (h1 pins s σ H D I h) fun f s1 q=>?_);cases f with
 | next=>exact g10 q
 | ret v=>exact q
 | brk=>exact q
 | cont=>exact q
theorem Inv.quiet{pins:List (Addr×Obj)}{σ : St}{H:Hp}{s:Shared}(I:Inv X pins σ H s): interactive X.env=false:=by simp [interactive,I.ok.kind]
def qno(te:TE): TS:=fun D σ H=>te σ H fun _ H1=>D.nx σ H1
theorem q4t(he:PE X e te)(hs:swapsWith e none pos.line X.env=pure false:=by rfl): PS X (.Expr e pos) (qno te):=by
 intro pins s σ H D I h;exact wpAny_Expr_any (thn (he pins s σ H _ I h) fun v s1 ⟨x,H1,I1,r1,q1⟩=>⟨σ,H1,I1,q1⟩) I.quiet hs
def qoz(te:TE): TS:=fun D σ H=>te σ H D.rt
theorem qlf(he:PE X e te): PS X (.Return (some e) pos) (qoz te):=by
 intro pins s σ H D I h;exact wpAny_Return_some (thn (he pins s σ H _ I h) fun v s1 ⟨x,H1,I1,r1,q1⟩=>⟨x, σ,H1,I1,r1,q1⟩)
def qp0(c:TT)(t u:TS): TS:=fun D σ H=>c σ H fun b H1=>if b=true then t D σ H1 else u D σ H1
theorem qdf{c:Expr}{a b:List Stmt}{tc:TT}(hc:PT X c tc)(ha:PSs X a t)(hb:PSs X b u): PS X (.If c a b pos) (qp0 tc t u):=by
 intro pins s σ H D I h;refine wpAny_If (thn (hc pins s σ H _ I h) fun d s1 ⟨H1,I1,q1⟩=>?_);cases d with
 | true=>exact ha pins s1 σ H1 D I1 q1
 | false=>exact hb pins s1 σ H1 D I1 q1
end
abbrev TG:=V->St->Hp->(St->Hp->Prop)->Prop
abbrev TGs:=List V->St->Hp->(St->Hp->Prop)->Prop
def PG(X:Cx)(target:Expr)(t:TG): Prop:=
 ∀(pins:List (Addr×Obj)) (s:Shared) (σ : St) (H:Hp) (v:V) (u:Value) (Q:St->Hp->Prop),Inv X pins σ H s->RelV v u->t v σ H Q ->
  wpAny (model X.prog X.w) X.A (assign target X.env u) (fun _ s'=>∃ σ' H',Inv X pins σ' H' s'/\Q σ' H') X.xe s
def PGs(X:Cx)(ts:List Expr)(t:TGs): Prop:=
 ∀(pins:List (Addr×Obj)) (s:Shared) (σ : St) (H:Hp) (vs:List V) (us:List Value) (Q:St->Hp->Prop),Inv X pins σ H s->Vals vs us->t vs σ H Q ->
  wpAny (model X.prog X.w) X.A (assignInOrder ((assignEach ts X.env).map (·.2)) us) (fun _ s'=>∃ σ' H',Inv X pins σ' H' s'/\Q σ' H') X.xe s
section
variable{X:Cx}{pos:Pos}
def q4u(i:Nat): TG:=fun v σ H Q=>Q (σ.set i (some v)) H
theorem qjd{i:Nat}{x:Str}(hN:X.N.Nodup)(hi:X.N[i]? = some x)(hx:Loc X.env.scope x)(hf:X.fn x=true\/X.env.scope.names.lookup x=some .local:=by first|exact .inl rfl|exact .inr rfl|assumption): PG X (.Name x pos) (q4u i):=by
 intro pins s σ H v u Q I r h;exact wpAny_assign_Name (q2x I hN hi hx r (fun s' I'=>⟨_,H,I',h⟩) hf)
def gNil:TGs:=fun vs σ H Q=>vs=[]/\Q σ H
def qnp(t:TG)(u:TGs): TGs:=fun vs σ H Q=>∃v r,vs=v :: r/\t v σ H fun σ' H'=>u r σ' H' Q
theorem qje:PGs X [] gNil:=by
 intro pins s σ H vs us Q I r h;obtain⟨e,h⟩:=h;subst e;cases r;exact assignInOrder_nil ⟨σ,H,I,h⟩
theorem qh0{e:Expr}{es:List Expr}{t:TG}{u:TGs}(h1:PG X e t)(h2:PGs X es u)
  (hs:(assignEach (e :: es) X.env).map (·.2)=assign e X.env :: (assignEach es X.env).map (·.2):=by rfl):PGs X (e :: es) (qnp t u):=by
 intro pins s σ H vs us Q I r h;obtain⟨v,vr,e1,h⟩:=h;subst e1;cases r with
 | cons r rr=>
  rw [hs];refine assignInOrder_cons (thn (h1 pins s σ H _ _ _ I r h) fun _ s1 ⟨σ1,H1,I1,q1⟩=>?_);exact h2 pins s1 σ1 H1 _ _ Q I1 rr q1
def qp1(K:PySem.W.Frag)(n:Nat)(t:TGs): TG:=fun v σ H Q=>∃a xs,v=.ref a/\SqT K H a xs/\xs.length=n/\t xs σ H Q
theorem qlg{es:List Expr}{k:Nat}{t:TGs}{n:Nat}(hc:X.calm=true)(h:PGs X es t)
  (hn:(assignEach es X.env).length=n:=by rfl) (hst:(assignEach es X.env).findIdx? (·.1)=none:=by rfl):PG X (.Tuple es k pos) (qp1 X.K n t):=by
 intro pins s σ H v u Q I r hw;obtain⟨a,xs,e1,hq,hl,hw⟩:=hw;subst e1;cases r;obtain⟨its,rv,ht,hz⟩:=I.tuple hq;refine assign_Tuple_tuple (I.ok.hd hc) ht (by simp [hn, <- hl,rv.length]) hst fun h' hx=>?_;have I1:Inv X pins σ H {s with heap:=h'}:=I.kept (t':=s.toks) fun b o e=>hx b o (gr (gh e)) e;exact h pins _ σ H xs _ Q I1 (by simpa using rv) hw
def qlh(te:TE)(g:TG): TS:=fun D σ H=>te σ H fun x H1=>g x σ H1 D.nx
theorem q9k{i:Nat}{x:Str}{e:Expr}{te:TE}{pos':Pos}(hN:X.N.Nodup)(hi:X.N[i]? = some x)(hx:Loc X.env.scope x)(he:PE X e te)(hs:swapsWith e (some (.Name x pos')) pos.line X.env=pure false:=by rfl)(hf:X.fn x=true\/X.env.scope.names.lookup x=some .local:=by first|exact .inl rfl|exact .inr rfl|assumption):
  PS X (.Assign [.Name x pos'] e pos) (qlh te (q4u i)):=by
 intro pins s σ H D I h;refine wpAny_Assign_Name (thn (he pins s σ H _ I h) fun v s1 ⟨y,H1,I1,r1,q1⟩=>?_) hs;exact q2x I1 hN hi hx r1 (fun s2 I2=>⟨_,H1,I2,q1⟩) hf
end
section
variable{X:Cx}{pos:Pos}
def qli(c:TT)(tb:TS): TS:=fun D σ H=>∃W:Nat->St->Hp->Prop,(∃m,W m σ H)/\∀m σ H,W m σ H ->
 c σ H fun b H1=>if b=true then ∃N:St->Hp->Prop,(∀ σ' H',N σ' H'->∃m',m'<m/\W m' σ' H')/\tb {D with nx:=N,ct:=N,bk:=D.nx} σ H1 else D.nx σ H1
theorem qh1{c:Expr}{body:List Stmt}{tc:TT}{tb:TS}(hp:PassesOwn (model X.prog X.w) X.A X.env X.xe)(hc:PT X c tc)(hb:PSs X body tb): PS X (.While c body [] pos) (qli tc tb):=by
 intro pins s σ H D I h;obtain⟨W,⟨m0,w0⟩,turn⟩:=h;refine wpAny_While (codeAny_whileLoop (fun n s'=>∃ σ' H',Inv X pins σ' H' s'/\W n σ' H') ?_ m0 ⟨σ,H,I,w0⟩)
 rintro n s1 ⟨σ1,H1,I1,w1⟩
 refine uk hp (thn (hc pins s1 σ1 H1 _ I1 (turn n σ1 H1 w1)) fun b s2 ⟨H2,I2,q2⟩=>?_);cases b with
 | true=>
  obtain⟨N,hN,q2⟩:=q2;rw [gz rfl];refine uk hp (thn (hb pins s2 σ1 H2 _ I2 q2) fun f s3 q3=>?_);cases f with
  | next=>
   obtain⟨σ3,H3,I3,n3⟩:=q3;obtain⟨m',hm,w3⟩:=hN σ3 H3 n3;exact⟨m',hm, σ3,H3,I3,w3⟩
  | cont=>
   obtain⟨σ3,H3,I3,n3⟩:=q3;obtain⟨m',hm,w3⟩:=hN σ3 H3 n3;exact⟨m',hm, σ3,H3,I3,w3⟩
  | brk=>exact q3
  | ret v=>exact q3
 | false=>
  rw [m4 gj];exact g10 ⟨σ1,H2,I2,q2⟩
end
structure It where
 go:Nat->Hp->Prop
 yld:Nat->Hp->V->Hp->Prop
 stop:Nat->Hp->Prop
def kc(X:Cx)(pins:List (Addr×Obj))(H:Hp)(b:Addr): Prop:=
 H b=none/\b≠X.env.locals/\b∉X.fs/\(b∈X.ex\/X.s₀.heap.objs.size<=b)/\(∀x c,X.env.cells.lookup x=some c->c≠b)/\∀p∈X.pn++pins,p.1≠b
theorem Inv.fpOk{X:Cx}{pins:List (Addr×Obj)}{σ : St}{H H':Hp}{s:Shared}{b:Addr}(I:Inv X pins σ H s)(hb:s.heap.objs.size<=b)(hn:H' b=none): kc X pins H' b:=by
 refine⟨hn,nk (gs I.lt hb),I.nofs hb,.inr (my I.sz hb),fun x c e z=>?_,fun p hp z=>?_⟩
 ·obtain⟨v,q⟩:=I.cell x c e
  exact absurd (gs q.lt (by rw [z];exact hb)) (ph _)
 ·exact absurd (gs (gh (I.pin p hp).1) (by rw [z];exact hb)) (ph _)
structure Turn(P:Program)(w:World)(K:PySem.W.Frag)(tg:Expr)(J:It)(fp:List Addr)(it:Addr)(tn:Nat->Heap->Prop): Prop where
 mem:it∈fp
 obj:∀i h,tn i h->∀b∈fp,∃o,h.get? b=some o/\∀v,o.data ≠ .cell v
 keep:∀i h h',tn i h->(∀b∈fp,∀o,h.get? b=some o->h'.get? b=some o)->tn i h'
 item:∀(X:Cx),X.prog=P->X.w=w->X.K=K->X.calm=true->∀(i:Nat) (pins:List (Addr×Obj)) (s:Shared) (σ : St) (H:Hp) (E:Value->Shared->Prop),Inv X pins σ H s->(∀b∈fp,kc X pins H b)->tn i s.heap->J.go i H ->
  wpAny (model P w) X.A (pyNext (.ref it)) (fun r s1=>∃u,r=some u /\
   wpAny (model P w) X.A (letOwnedTupleGo tg (.ref it) u) (fun _ s2=>∃x H',Inv X pins σ H' s2/\RelV x u/\J.yld i H x H'/\tn (i+1) s2.heap/\∀b∈fp,H' b=none) E s1) E s
 done:∀(X:Cx),X.prog=P->X.w=w->X.K=K->X.calm=true->∀(i:Nat) (pins:List (Addr×Obj)) (s:Shared) (σ : St) (H:Hp) (E:Value->Shared->Prop),Inv X pins σ H s->(∀b∈fp,kc X pins H b)->tn i s.heap->J.stop i H ->
  wpAny (model P w) X.A (pyNext (.ref it)) (fun r s1=>r=none/\Inv X pins σ H s1) E s
 self:∀(A:Around) (i:Nat) (s:Shared) (Q:Value->Shared->Prop) (E:Value->Shared->Prop),tn i s.heap->Q (.ref it) s->wpAny (model P w) A (pyIter (.ref it)) Q E s
abbrev TI:=St->Hp->(It->Hp->Prop)->Prop
def PIE(X:Cx)(pins:List (Addr×Obj))(σ : St)(tg:Expr)(R:It->Hp->Prop)(itv:Value)(s2:Shared): Prop:=
 ∃(it:Addr) (fp:List Addr) (tn:Nat->Heap->Prop) (J:It) (H':Hp),itv=.ref it/\Inv X pins σ H' s2/\Turn X.prog X.w X.K tg J fp it tn/\tn 0 s2.heap/\(∀b∈fp,kc X pins H' b)/\R J H'
def PI(X:Cx)(tg iter:Expr)(wi:TI): Prop:=
 ∀(pins:List (Addr×Obj)) (s:Shared) (σ : St) (H:Hp) (R:It->Hp->Prop),Inv X pins σ H s->wi σ H R ->
  wpAny (model X.prog X.w) X.A (eval iter X.env) (fun v s1=>wpAny (model X.prog X.w) X.A (pyIter v) (PIE X pins σ tg R) X.xe s1) X.xe s
theorem qdg{M:Model}{A:Around}{E:Value->Shared->Prop}{s:Shared}{tg:Expr}{it:Addr}{u:Value}{o:Obj}{n:String}{vs:Array Value}{Q:Unit->Shared->Prop}(ho:s.heap.get? it=some o)(hc:o.cls=.type n)(hd:o.data=.fields vs)
  (hn:["enumerate","zip","dict_itemiterator","dict_reverseitemiterator","odict_iterator","itertools.zip_longest","itertools.pairwise"].contains n=false) (hQ:Q () s):wpAny M A (letOwnedTupleGo tg (.ref it) u) Q E s:=by
 unfold letOwnedTupleGo;cases tg <;> first
  | exact gb hQ
  | (cases u <;> first
    | exact gb hQ
    | (refine g0 (wpAny_load ho ?_);rw [hc,hd];show wpAny M A (if(["enumerate","zip","dict_itemiterator","dict_reverseitemiterator","odict_iterator","itertools.zip_longest","itertools.pairwise"].contains n&&vs[0]? == some (rawInt _))=true then _ else _) Q E s;rw [m4 (by intro h;rw [hn,pk] at h;cases h)];exact gb hQ))
def Itl(K:PySem.W.Frag)(a:Addr): It:=
 ⟨fun i H=>∃xs x,SqL K H a xs/\xs[i]? = some x,fun i H x H'=>H'=H/\∀xs,SqL K H a xs->xs[i]? = some x,fun i H=>∃xs,SqL K H a xs/\xs.length<=i⟩
def Itt(K:PySem.W.Frag)(a:Addr): It:=
 ⟨fun i H=>∃xs x,SqT K H a xs/\xs[i]? = some x,fun i H x H'=>H'=H/\∀xs,SqT K H a xs->xs[i]? = some x,fun i H=>∃xs,SqT K H a xs/\xs.length<=i⟩
def Itr(lo:Int)(n:Nat): It:=⟨fun i _=>i<n,fun i H x H'=>H'=H/\x=.int (lo+i),fun i _=>n<=i⟩
theorem qez{P:Program}{w:World}{K:PySem.W.Frag}{tg:Expr}(a it:Addr): Turn P w K tg (Itl K a) [it] it (fun i h=>h.IsListIter it a i) where
 mem:=by simp
 obj:=fun i h st b hb=>by
  have e:b=it:=by simpa using hb
  subst e;obtain⟨o,e,c,d⟩:=st;exact⟨o,e,fun v z=>by rw [d] at z;cases z⟩
 keep:=fun i h h' st k=>st.at fun o e=>k it (by simp) o e
 item:=by
  intro X hP hw hK hc i pins s σ H E I hf st hg;subst hP hw hK;obtain⟨xs,x,hq,hx⟩:=hg;obtain⟨its,rv,p,hz⟩:=I.list hq;obtain⟨u,hu,ru⟩:=rv.get hx;obtain⟨f0,f1,f2,f3,f4,f5⟩:=hf it (by simp);refine wpAny_pyNext_list_item st p.isList (x:=u) (by simpa using hu) fun h' st' sb=>?_;have I1:Inv X pins σ H {s with heap:=h'}:=I.turned (t':=s.toks) (fun b o hb e=>(sb.2 b hb).trans e) f0 f1 f3 f4 f5;obtain⟨o,e,c,d⟩:=id st';exact⟨u,rfl,qdg (s:={s with heap:=h'}) e c d (by decide) ⟨x,H,I1,ru,⟨rfl,fun ys hy=>by rw [I.list_inj hy hq];exact hx⟩,st',fun b hb=>(hf b hb).1⟩⟩
 done:=by
  intro X hP hw hK hc i pins s σ H E I hf st hg;subst hP hw hK;obtain⟨xs,hq,hx⟩:=hg;obtain⟨its,rv,p,hz⟩:=I.list hq;obtain⟨f0,f1,f2,f3,f4,f5⟩:=hf it (by simp);have hl:=rv.length;exact wpAny_pyNext_list_end (I.ok.hd hc) st p.isList (by simp;omega) fun h' eb=>⟨rfl,I.turned (t':=s.toks) (fun b o hb e=>eb b o hb e) f0 f1 f3 f4 f5⟩
 self:=fun _ _ _ _ _ st h=>wpAny_pyIter_listiter st h
theorem qdh{P:Program}{w:World}{K:PySem.W.Frag}{tg:Expr}(a it:Addr): Turn P w K tg (Itt K a) [it] it (fun i h=>h.IsTupleIter it a i) where
 mem:=by simp
 obj:=fun i h st b hb=>by
  have e:b=it:=by simpa using hb
  subst e;obtain⟨o,e,c,d⟩:=st;exact⟨o,e,fun v z=>by rw [d] at z;cases z⟩
 keep:=fun i h h' st k=>st.at fun o e=>k it (by simp) o e
 item:=by
  intro X hP hw hK hc i pins s σ H E I hf st hg;subst hP hw hK;obtain⟨xs,x,hq,hx⟩:=hg;obtain⟨its,rv,p,hz⟩:=I.tuple hq;obtain⟨u,hu,ru⟩:=rv.get hx;obtain⟨f0,f1,f2,f3,f4,f5⟩:=hf it (by simp);refine wpAny_pyNext_tuple_item st (show s.heap.IsTuple a its.toArray from p) (x:=u) (by simpa using hu) fun h' st' sb=>?_;have I1:Inv X pins σ H {s with heap:=h'}:=I.turned (t':=s.toks) (fun b o hb e=>(sb.2 b hb).trans e) f0 f1 f3 f4 f5;obtain⟨o,e,c,d⟩:=id st';exact⟨u,rfl,qdg (s:={s with heap:=h'}) e c d (by decide) ⟨x,H,I1,ru,⟨rfl,fun ys hy=>by rw [I.tuple_inj hy hq];exact hx⟩,st',fun b hb=>(hf b hb).1⟩⟩
 done:=by
  intro X hP hw hK hc i pins s σ H E I hf st hg;subst hP hw hK;obtain⟨xs,hq,hx⟩:=hg;obtain⟨its,rv,p,hz⟩:=I.tuple hq;obtain⟨f0,f1,f2,f3,f4,f5⟩:=hf it (by simp);have hl:=rv.length;exact wpAny_pyNext_tuple_end (I.ok.hd hc) st (show s.heap.IsTuple a its.toArray from p) (by simp;omega) fun h' eb=>⟨rfl,I.turned (t':=s.toks) (fun b o hb e=>eb b o hb e) f0 f1 f3 f4 f5⟩
 self:=fun _ _ _ _ _ st h=>wpAny_pyIter_tupleiter st h
theorem qdi{P:Program}{w:World}{K:PySem.W.Frag}{tg:Expr}(it:Addr)(lo:Int)(n:Nat): Turn P w K tg (Itr lo n) [it] it (fun i h=>IsRangeIter h it (lo+(i:Nat)*1) ((n:Int)-(i:Nat)) 1) where
 mem:=by simp
 obj:=fun i h st b hb=>by
  have e:b=it:=by simpa using hb
  subst e;exact⟨_,st,fun v z=>by
   have z':Data.fields _=Data.cell v:=z;cases z'⟩
 keep:=fun i h h' st k=>k it (by simp) _ st
 item:=by
  intro X hP hw hK hc i pins s σ H E I hf st hg;subst hP hw hK;obtain⟨f0,f1,f2,f3,f4,f5⟩:=hf it (by simp);have W:=Walks.range (prog:=X.prog) (w:=X.w) (I.ok.hd hc) it lo 1 n;refine W.item i s _ _ hg st fun v h' tk hv st' kk=>?_;obtain⟨t,rfl⟩:=hv;have I1:Inv X pins σ H {s with heap:=h',toks:=tk}:=I.turned (fun b o hb e=>kk b o (by simpa using hb) e) f0 f1 f3 f4 f5;refine⟨_,rfl,qdg (s:={s with heap:=h',toks:=tk}) (n:="range_iterator") st' rfl rfl (by decide) ⟨.int (lo+i),H,I1,⟨t,?_⟩,⟨rfl,rfl⟩,st',fun b hb=>(hf b hb).1⟩⟩;rw [Int.mul_one]
 done:=by
  intro X hP hw hK hc i pins s σ H E I hf st hg;subst hP hw hK;obtain⟨f0,f1,f2,f3,f4,f5⟩:=hf it (by simp);exact wpAny_pyNext_range_end (I.ok.hd hc) st (by have:n<=i:=hg;omega) fun h' eb=>⟨rfl,I.turned (t':=s.toks) (fun b o hb e=>eb b o hb e) f0 f1 f3 f4 f5⟩
 self:=fun _ _ _ _ _ st h=>wpAny_pyIter_rangeiter st h
section
variable{X:Cx}{tg:Expr}
theorem q9l{pins:List (Addr×Obj)}{σ : St}{H:Hp}{s:Shared}{R:It->Hp->Prop}{E:Value->Shared->Prop}{lo hi:Int}{t u v:Tok}{tk:Nat}(I:Inv X pins σ H s)(h1 : -(2 ^ 62)<=lo)(h2:lo<2 ^ 62)(h3 : -(2 ^ 62)<=hi)(h4:hi<2 ^ 62)
  (q:R (Itr lo (hi-lo).toNat) H):wpAny (model X.prog X.w) X.A (pyIter (.ref s.heap.objs.size)) (PIE X pins σ tg R) E {s with heap:=s.heap.push {cls:=.type "range",data:=.fields #[.int lo t,.int hi u,.int 1 v]},toks:=tk}:=by
 refine wpAny_pyIter_range (IsRange.new ..) (small_one h1 h2 h3 h4) ?_;have I1:Inv X pins σ H {s with heap:=s.heap.push {cls:=.type "range",data:=.fields #[.int lo t,.int hi u,.int 1 v]},toks:=tk}:=I.kept fun b o e=>gc _ e;refine⟨(s.heap.push {cls:=.type "range",data:=.fields #[.int lo t,.int hi u,.int 1 v]}).objs.size,[(s.heap.push {cls:=.type "range",data:=.fields #[.int lo t,.int hi u,.int 1 v]}).objs.size],_,_,H,rfl,
  I1.kept (t':=tk) fun b o e=>gc _ e,qdi _ lo (hi-lo).toNat,?_,fun b hb=>?_,q⟩
 ·have e1:lo+((0:Nat):Int)*1=lo:=by simp
  have e2:(((hi-lo).toNat:Nat):Int)-((0:Nat):Int)=Builtin.Range.rangeSize lo hi 1:=by rw [rangeSize_one];split <;> omega
  show IsRangeIter _ _ (lo+((0:Nat):Int)*1) ((((hi-lo).toNat:Nat):Int)-((0:Nat):Int)) 1;rw [e1,e2];exact gi _ rfl
 ·have e:b=(s.heap.push {cls:=.type "range",data:=.fields #[.int lo t,.int hi u,.int 1 v]}).objs.size:=by simpa using hb
  subst e;exact I1.fpOk (gp _) (I1.hok.fresh (gp _))
def qnq(ta:TA): TI:=fun σ H R=>ta σ H fun vs H1=>∃j:Int,vs=[.int j] /\ -(2 ^ 62)<=j/\j<2 ^ 62/\R (Itr 0 j.toNat) H1
def qnr(ta:TA): TI:=fun σ H R=>ta σ H fun vs H1=>∃i j:Int,vs=[.int i,.int j]/\(-(2 ^ 62)<=i/\i<2 ^ 62 /\ -(2 ^ 62)<=j/\j<2 ^ 62)/\R (Itr i (j-i).toNat) H1
theorem qf0{a:Expr}{ta:TA}{p pos:Pos}(hg:Gl X "range")(hm:X.mg "range" = none)(ha:PA X [a] ta)(hs:starEach [a] X.env=[(false,eval a X.env)]:=by rfl): PI X tg (.Call (.Name "range" p) [a] [] pos) (qnq ta):=by
 intro pins s σ H R I h;refine Call_ (q17 I hg hm boot_range (pz (thn (ha pos pins s σ H _ I h) fun us s1 ⟨vs,H1,I1,r1,q1⟩=>?_) hs rfl));obtain⟨j,e,q1,q2,q⟩:=q1;subst e;cases r1 with
 | cons r rr=>
  cases rr;obtain⟨t,rfl⟩:=r;exact call_range_1 (q9l I1 (by omega) (by omega) q1 q2 (by simpa using q))
theorem qf1{a b:Expr}{ta:TA}{p pos:Pos}(hg:Gl X "range")(hm:X.mg "range" = none)(ha:PA X [a,b] ta)(hs:starEach [a,b] X.env=[(false,eval a X.env),(false,eval b X.env)]:=by rfl)(hs2:starEach [b] X.env=[(false,eval b X.env)]:=by rfl):
  PI X tg (.Call (.Name "range" p) [a,b] [] pos) (qnr ta):=by
 intro pins s σ H R I h;refine Call_ (q17 I hg hm boot_range (pz (thn (ha pos pins s σ H _ I h) fun us s1 ⟨vs,H1,I1,r1,q1⟩=>?_) (by rw [hs,hs2]) (by rw [hs2];rfl)));obtain⟨i,j,e,⟨q1,q2,q3,q4⟩,q⟩:=q1;subst e;cases r1 with
 | cons r rr=>
  cases rr with
  | cons r' rr=>
   cases rr;obtain⟨t,rfl⟩:=r;obtain⟨t',rfl⟩:=r';exact call_range_2 (q9l I1 q1 q2 q3 q4 q)
def qp2(wi:TI)(g:TG)(tb:TS): TS:=fun D σ H=>wi σ H fun J H1=>∃W:Nat->Nat->St->Hp->Prop,(∃m,W 0 m σ H1)/\∀i m σ H,W i m σ H ->
 (J.stop i H/\D.nx σ H)\/(J.go i H/\∃N:St->Hp->Prop,(∀ σ' H',N σ' H'->∃m',m'<m/\W (i+1) m' σ' H')/\∀x H',J.yld i H x H'->g x σ H' fun σ2 H2=>tb {D with nx:=N,ct:=N,bk:=D.nx} σ2 H2)
def q2g(fp:List Addr)(h:Heap): List (Addr×Obj):=fp.filterMap fun b=>(h.get? b).map fun o=>(b,o)
theorem q0v{fp:List Addr}{h:Heap}{b:Addr}{o:Obj}(hb:b∈fp)(e:h.get? b=some o): (b,o)∈q2g fp h:=g13.mpr ⟨b,hb,by rw [e];rfl⟩
theorem qf2{fp:List Addr}{h:Heap}{p:Addr×Obj}(hp:p∈q2g fp h): p.1∈fp/\h.get? p.1=some p.2:=by
 obtain⟨b,hb,e⟩:=g13.mp hp;cases q:h.get? b with
 | none=>rw [q] at e;cases e
 | some o=>
  rw [q] at e;have e':(b,o)=p:=mh e;subst e';exact⟨hb,q⟩
theorem Inv.pinned{pins:List (Addr×Obj)}{σ : St}{H:Hp}{s:Shared}{fp:List Addr}(I:Inv X pins σ H s)(hf:∀b∈fp,kc X pins H b)(ho:∀b∈fp,∃o,s.heap.get? b=some o/\∀v,o.data ≠ .cell v): Inv X (pins++q2g fp s.heap) σ H s:=
 I.pins_of fun p hp=>(p5.mp hp).elim (fun z=>I.pin p (mi _ z)) fun z=>by
  obtain⟨hb,e⟩:=qf2 z;obtain⟨f0,f1,f2,_⟩:=hf p.1 hb;obtain⟨o,e',d⟩:=ho p.1 hb;rw [e] at e';cases e';exact⟨e,f0,f1,f2,d⟩
theorem Inv.unpinned{pins pl:List (Addr×Obj)}{σ : St}{H:Hp}{s:Shared}(I:Inv X (pins++pl) σ H s): Inv X pins σ H s:=I.pins_of fun p hp=>I.pin p (mi _ (g0q _ hp))
theorem qlj{iter:Expr}{body:List Stmt}{wi:TI}{g:TG}{tb:TS}{pos:Pos}(hp:PassesOwn (model X.prog X.w) X.A X.env X.xe)(hc:X.calm=true)(hi:PI X tg iter wi)(hg:PG X tg g)(hb:PSs X body tb)
  (hs:∀x,foldedSetIterable iter X.env x=pure x:=by intro _;rfl):PS X (.For tg iter body [] pos) (qp2 wi g tb):=by
 intro pins s σ H D I h;refine wpAny_For (thn (hi pins s σ H _ I h) fun v s1 h1=>thn h1 fun itv s2 h2=>?_) hs;obtain⟨it,fp,tn,J,H2,e,I2,T,st2,f2,W,⟨m0,w0⟩,turn⟩:=h2;subst e
 -- what stays true of the iterator's objects through the loop
 have stat:∀ {H':Hp},(∀b∈fp,H' b=none)->∀b∈fp,kc X pins H' b:=fun hn b hb=>⟨hn b hb,(f2 b hb).2⟩
 refine codeAny_forLoop_any (fun n s'=>∃i σ' H',Inv X pins σ' H' s'/\tn i s'.heap/\(∀b∈fp,H' b=none)/\W i n σ' H') ?_ m0 ⟨0, σ,H2,I2,st2,fun b hb=>(f2 b hb).1,w0⟩
 rintro n s3 ⟨i, σ3,H3,I3,st3,fr3,w3⟩
 rcases turn i n σ3 H3 w3 with⟨stop,qn⟩|⟨go,N,hN,step⟩
 ·refine uk hp (thn (T.done X rfl rfl rfl hc i pins s3 σ3 H3 X.xe I3 (stat fr3) st3 stop) fun r s4 ⟨hr,I4⟩=>?_)
  subst hr;exact g10 ⟨σ3,H3,I4,qn⟩
 ·refine uk hp (thn (T.item X rfl rfl rfl hc i pins s3 σ3 H3 X.xe I3 (stat fr3) st3 go) fun r s4 ⟨u,hr,h4⟩=>?_)
  subst hr;refine uk hp (thn h4 fun _ s5 ⟨x,H5,I5,r5,y5,st5,fr5⟩=>?_);have I5':=I5.pinned (stat fr5) (T.obj _ _ st5);refine uk hp (thn (hg _ s5 σ3 H5 x u _ I5' r5 (step x H5 y5)) fun _ s6 ⟨σ6,H6,I6,q6⟩=>?_);refine uk hp (thn (hb _ s6 σ6 H6 _ I6 q6) fun f s7 q7=>?_);have again:∀ {σ7:St} {H7:Hp},Inv X (pins++q2g fp s5.heap) σ7 H7 s7->N σ7 H7->∃m,m<n/\∃i σ' H',Inv X pins σ' H' s7/\tn i s7.heap/\(∀b∈fp,H' b=none)/\W i m σ' H':=fun {σ7 H7} I7 n7=>by
   obtain⟨m',hm,w7⟩:=hN σ7 H7 n7;refine⟨m',hm,i+1, σ7,H7,I7.unpinned,T.keep _ _ _ st5 fun b hb o e=>(I7.pin (b,o) (mi _ (mi _ (q0v hb e)))).1,fun b hb=>?_,w7⟩;obtain⟨o,e,d⟩:=T.obj _ _ st5 b hb;exact(I7.pin (b,o) (mi _ (mi _ (q0v hb e)))).2.1
  cases f with
  | next=>obtain⟨σ7,H7,I7,n7⟩:=q7;exact again I7 n7
  | cont=>obtain⟨σ7,H7,I7,n7⟩:=q7;exact again I7 n7
  | brk=>obtain⟨σ7,H7,I7,q7⟩:=q7;exact⟨σ7,H7,I7.unpinned,q7⟩
  | ret v=>obtain⟨x7, σ7,H7,I7,r7,q7⟩:=q7;exact⟨x7, σ7,H7,I7.unpinned,r7,q7⟩
end
abbrev R2:=V->V->Hp->VK->Prop
def OpR(X:Cx)(f:Value->Value->Sem Value)(r:R2): Prop:=
 ∀(pins:List (Addr×Obj)) (s:Shared) (σ : St) (H:Hp) (x y:V) (v u:Value) (Q:VK),Inv X pins σ H s->RelV x v->RelV y u->r x y H Q ->
  wpAny (model X.prog X.w) X.A (f v u) (EP X pins σ Q) X.xe s
def zi(X:Cx)(f:Value)(r:List V->Hp->VK->Prop): Prop:=
 ∀(pins:List (Addr×Obj)) (s:Shared) (σ : St) (H:Hp) (xs:List V) (us:List Value) (Q:VK),Inv X pins σ H s->Vals xs us->r xs H Q ->
  wpAny (model X.prog X.w) X.A (call f us) (EP X pins σ Q) X.xe s
def qp3(X:Cx)(r:V->Hp->(Bool->Hp->Prop)->Prop): Prop:=
 ∀(pins:List (Addr×Obj)) (s:Shared) (σ : St) (H:Hp) (x:V) (v:Value) (Q:Bool->Hp->Prop),Inv X pins σ H s->RelV x v->r x H Q ->
  wpAny (model X.prog X.w) X.A (truthy v) (TP X pins σ Q) X.xe s
def tOp(r:R2)(ta tb:TE): TE:=fun σ H Q=>ta σ H fun x H1=>tb σ H1 fun y H2=>r x y H2 Q
def rI(C:Int->Int->Prop)(g:Int->Int->V): R2:=fun x y H Q=>∃i j,x=.int i/\y=.int j/\C i j/\Q (g i j) H
def rI0(g:Int->Int->V): R2:=fun x y H Q=>∃i j,x=.int i/\y=.int j/\Q (g i j) H
section
variable{X:Cx}{a b c:Expr}{ta tb tc:TE}{pos:Pos}
theorem qh2(ha:PE X a ta)(hb:PE X b tb){pins:List (Addr×Obj)}{s:Shared}{σ : St}{H:Hp}{R:V->V->Hp->Prop}(I:Inv X pins σ H s)
  (h:ta σ H fun x H1=>tb σ H1 fun y H2=>R x y H2) {Q:Value->Shared->Prop} {f:Value->Value->Sem Value}
  (hf:∀v u s2 x y H2,Inv X pins σ H2 s2->RelV x v->RelV y u->R x y H2->wpAny (model X.prog X.w) X.A (f v u) Q X.xe s2) :
  wpAny (model X.prog X.w) X.A (eval a X.env) (fun v s₁=>wpAny (model X.prog X.w) X.A (eval b X.env) (fun u s₂=>wpAny (model X.prog X.w) X.A (f v u) Q X.xe s₂) X.xe s₁) X.xe s:=by
 refine thn (ha pins s σ H _ I h) fun v s1 ⟨x,H1,I1,r1,q1⟩=>?_;refine thn (hb pins s1 σ H1 _ I1 q1) fun u s2 ⟨y,H2,I2,r2,q2⟩=>?_;exact hf v u s2 x y H2 I2 r1 r2 q2
theorem qj1{op:Operator}{r:R2}(ho:OpR X (binaryOp op) r)(ha:PE X a ta)(hb:PE X b tb): PE X (.BinOp a op b pos) (tOp r ta tb):=by
 intro pins s σ H Q I h;exact wpAny_BinOp (qh2 ha hb I h fun v u s2 x y H2 I2 rx ry q=>ho pins s2 σ H2 x y v u Q I2 rx ry q)
theorem opI{f:Value->Value->Sem Value}{C:Int->Int->Prop}{g:Int->Int->Int}
  (rule:∀(i j:Int) (t u:Tok) (s:Shared) (Q:Value->Shared->Prop) (E:Value->Shared->Prop),C i j->Q (.int (g i j) s.toks) {s with toks:=s.toks+1}->wpAny (model X.prog X.w) X.A (f (.int i t) (.int j u)) Q E s) :
  OpR X f (rI C fun i j=>.int (g i j)):=by
 intro pins s σ H x y v u Q I rx ry h;obtain⟨i,j,rfl,rfl,hc,q⟩:=h;obtain⟨t,rfl⟩:=rx;obtain⟨t',rfl⟩:=ry;exact rule i j t t' s _ _ hc ⟨.int (g i j),H,I.tok _,⟨_,rfl⟩,q⟩
theorem qh3{f:Value->Value->Sem Value}{g:Int->Int->Int}
  (rule:∀(i j:Int) (t u:Tok) (s:Shared) (Q:Value->Shared->Prop) (E:Value->Shared->Prop),Q (.int (g i j) s.toks) {s with toks:=s.toks+1}->wpAny (model X.prog X.w) X.A (f (.int i t) (.int j u)) Q E s) :
  OpR X f (rI0 fun i j=>.int (g i j)):=by
 intro pins s σ H x y v u Q I rx ry h;obtain⟨i,j,rfl,rfl,q⟩:=h;obtain⟨t,rfl⟩:=rx;obtain⟨t',rfl⟩:=ry;exact rule i j t t' s _ _ ⟨.int (g i j),H,I.tok _,⟨_,rfl⟩,q⟩
theorem qdj{f:Value->Value->Sem Value}{g:Int->Int->Bool}
  (rule:∀(i j:Int) (t u:Tok) (s:Shared) (Q:Value->Shared->Prop) (E:Value->Shared->Prop),Q (.bool (g i j)) s->wpAny (model X.prog X.w) X.A (f (.int i t) (.int j u)) Q E s) :
  OpR X f (rI0 fun i j=>.bl (g i j)):=by
 intro pins s σ H x y v u Q I rx ry h;obtain⟨i,j,rfl,rfl,q⟩:=h;obtain⟨t,rfl⟩:=rx;obtain⟨t',rfl⟩:=ry;exact rule i j t t' s _ _ ⟨.bl (g i j),H,I,rfl,q⟩
def qp4(i j:Int): Prop:=0<j/\j<1073741824
def qlk(i j:Int): Prop:=0<=j/\j<=1000000/\i.natAbs<2 ^ 64
def CMul(i j:Int): Prop:=(-(2 ^ 64)<i/\i<2 ^ 64)\/(-(2 ^ 64)<j/\j<2 ^ 64)
theorem CMul.ok{i j:Int}(h:CMul i j): IntMulOk i j:=by
 rcases h with⟨h1,h2⟩|⟨h1,h2⟩
 ·exact .of_left (intBits_le_64 h1 h2)
 ·exact .of_right (intBits_le_64 h1 h2)
theorem qll:OpR X (binaryOp .Add) (rI0 fun i j=>.int (i+j)):=qh3 fun _ _ _ _ _ _ _ q=>add_int q
theorem qlm:OpR X (binaryOp .Sub) (rI0 fun i j=>.int (i-j)):=qh3 fun _ _ _ _ _ _ _ q=>sub_int q
theorem qln:OpR X (binaryOp .Mult) (rI CMul fun i j=>.int (i*j)):=opI fun _ _ _ _ _ _ _ hc q=>mul_int q hc.ok
theorem qjf:OpR X (binaryOp .FloorDiv) (rI qp4 fun i j=>.int (i / j)):=opI fun i j _ _ _ _ _ hc q=>by
 have h1:(0:Int)<j:=hc.1;have h2:j<1073741824:=hc.2;exact floordiv_int (by omega) (by rw [g2h i (by omega)];exact q) (.inl (PyProof.noPylong_small (by omega)))
theorem qlo:OpR X (binaryOp .Mod) (rI (fun _ j=>0<j) fun i j=>.int (i%j)):=opI fun i j _ _ _ _ _ hc q=>by
 have h1:(0:Int)<j:=hc;exact mod_int' (by omega) (by rw [Int.fmod_eq_emod_of_nonneg i (by omega)];exact q)
theorem qlp:OpR X (binaryOp .Pow) (rI qlk fun i j=>.int (i ^ j.toNat)):=opI fun _ _ _ _ _ _ _ hc q=>pow_int_small hc.1 hc.2.1 hc.2.2 q
theorem qlq:OpR X (binaryOp .LShift) (rI qlk fun i j=>.int (i*2 ^ j.toNat)):=opI fun _ _ _ _ _ _ _ hc q=>lshift_int_small hc.1 hc.2.1 hc.2.2 q
theorem qlr:OpR X (binaryOp .BitAnd) (rI0 fun i j=>.int (Builtin.bitAnd i j)):=qh3 fun _ _ _ _ _ _ _ q=>and_int q
end
def q7f:V->V->Bool
 | .non,.non=>true | .non,.int _=>true | .int _,.non=>true | .non,.bl _=>true | .bl _,.non=>true | .non,.str _=>true | .str _,.non=>true
 | .int _,.int _=>true | .bl _,.bl _=>true | .str _,.str _=>true | .byt _,.byt _=>true
 | .int _,.str _=>true | .str _,.int _=>true | .bl _,.str _=>true | .str _,.bl _=>true
 | _,_=>false
def rEq:R2:=fun x y H Q=>q7f x y=true/\Q (.bl (decide (x=y))) H
def rNe:R2:=fun x y H Q=>q7f x y=true/\Q (.bl (!decide (x=y))) H
theorem qch{i j:Int}: decide (V.int i=V.int j)=(i==j):=by
 rw [pd];simp
theorem qf3{i j:Bool}: decide (V.bl i=V.bl j)=(i==j):=by
 rw [pd];simp
theorem qci{i j:Str}: decide (V.str i=V.str j)=(i==j):=by
 rw [pd];simp
theorem qcj{i j:Array UInt8}: decide (V.byt i=V.byt j)=(i.toList==j.toList):=by
 rw [pd];cases i;cases j;simp
section
variable{X:Cx}{a b c:Expr}{ta tb tc:TE}{pos:Pos}
theorem z7{pins:List (Addr×Obj)}{σ : St}{H:Hp}{s:Shared}{Q:VK}{k k':Bool}(I:Inv X pins σ H s)(q:Q (.bl k) H)(e:k=k'): EP X pins σ Q (.bool k') s:=by
 subst e;exact⟨.bl k,H,I,rfl,q⟩
theorem qns:OpR X (compareOp .Eq) rEq:=by
 intro pins s σ H x y v u Q I rx ry h;obtain⟨hs,q⟩:=h;cases x with
 | non=>
  cases rx;cases y with
  | non=>cases ry;exact PySem.EqNone.eq_none_none (z7 I q (by simp))
  | bl j=>cases ry;exact PySem.EqNone.eq_none_bool (z7 I q (by simp))
  | int j=>obtain⟨t',rfl⟩:=ry;exact PySem.EqNone.eq_none_int (z7 I q (by simp))
  | str j=>obtain⟨t',rfl⟩:=ry;exact PySem.EqNone.eq_none_str (z7 I q (by simp))
  | _=>exact absurd (show false=true from hs) gj
 | bl i=>
  cases rx;cases y with
  | non=>cases ry;exact PySem.EqNone.eq_bool_none (z7 I q (by simp))
  | bl j=>cases ry;exact eq_bool (z7 I q qf3)
  | str j=>obtain⟨t',rfl⟩:=ry;exact PySem.EqMixed.eq_bool_str (z7 I q (by simp))
  | _=>exact absurd (show false=true from hs) gj
 | int i=>
  obtain⟨t,rfl⟩:=rx;cases y with
  | non=>cases ry;exact PySem.EqNone.eq_int_none (z7 I q (by simp))
  | int j=>obtain⟨t',rfl⟩:=ry;exact eq_int (z7 I q qch)
  | str j=>obtain⟨t',rfl⟩:=ry;exact PySem.EqMixed.eq_int_str (z7 I q (by simp))
  | _=>exact absurd (show false=true from hs) gj
 | str i=>
  obtain⟨t,rfl⟩:=rx;cases y with
  | non=>cases ry;exact PySem.EqNone.eq_str_none (z7 I q (by simp))
  | bl j=>cases ry;exact PySem.EqMixed.eq_str_bool (z7 I q (by simp))
  | int j=>obtain⟨t',rfl⟩:=ry;exact PySem.EqMixed.eq_str_int (z7 I q (by simp))
  | str j=>obtain⟨t',rfl⟩:=ry;exact eq_str (z7 I q qci)
  | _=>exact absurd (show false=true from hs) gj
 | byt i=>
  obtain⟨t,rfl⟩:=rx;cases y with
  | byt j=>obtain⟨t',rfl⟩:=ry;exact PySem.W.eq_bytes (z7 I q qcj)
  | _=>exact absurd (show false=true from hs) gj
 | _=>cases y <;> exact absurd (show false=true from hs) gj
theorem qnt:OpR X (compareOp .NotEq) rNe:=by
 intro pins s σ H x y v u Q I rx ry h;obtain⟨hs,q⟩:=h;cases x with
 | non=>
  cases rx;cases y with
  | non=>cases ry;exact PySem.EqNone.ne_none_none (z7 I q (by simp))
  | bl j=>cases ry;exact PySem.EqNone.ne_none_bool (z7 I q (by simp))
  | int j=>obtain⟨t',rfl⟩:=ry;exact PySem.EqNone.ne_none_int (z7 I q (by simp))
  | str j=>obtain⟨t',rfl⟩:=ry;exact PySem.EqNone.ne_none_str (z7 I q (by simp))
  | _=>exact absurd (show false=true from hs) gj
 | bl i=>
  cases rx;cases y with
  | non=>cases ry;exact PySem.EqNone.ne_bool_none (z7 I q (by simp))
  | bl j=>cases ry;exact ne_bool (z7 I q (pw not qf3))
  | str j=>obtain⟨t',rfl⟩:=ry;exact PySem.EqMixed.ne_bool_str (z7 I q (by simp))
  | _=>exact absurd (show false=true from hs) gj
 | int i=>
  obtain⟨t,rfl⟩:=rx;cases y with
  | non=>cases ry;exact PySem.EqNone.ne_int_none (z7 I q (by simp))
  | int j=>obtain⟨t',rfl⟩:=ry;exact ne_int (z7 I q (pw not qch))
  | str j=>obtain⟨t',rfl⟩:=ry;exact PySem.EqMixed.ne_int_str (z7 I q (by simp))
  | _=>exact absurd (show false=true from hs) gj
 | str i=>
  obtain⟨t,rfl⟩:=rx;cases y with
  | non=>cases ry;exact PySem.EqNone.ne_str_none (z7 I q (by simp))
  | bl j=>cases ry;exact PySem.EqMixed.ne_str_bool (z7 I q (by simp))
  | int j=>obtain⟨t',rfl⟩:=ry;exact PySem.EqMixed.ne_str_int (z7 I q (by simp))
  | str j=>obtain⟨t',rfl⟩:=ry;exact ne_str (z7 I q (pw not qci))
  | _=>exact absurd (show false=true from hs) gj
 | byt i=>
  obtain⟨t,rfl⟩:=rx;cases y with
  | byt j=>obtain⟨t',rfl⟩:=ry;exact PySem.W.ne_bytes (z7 I q (pw not qcj))
  | _=>exact absurd (show false=true from hs) gj
 | _=>cases y <;> exact absurd (show false=true from hs) gj
theorem qnu:OpR X (compareOp .Lt) (rI0 fun i j=>.bl (decide (i<j))):=qdj fun _ _ _ _ _ _ _ q=>lt_int q
theorem qnv:OpR X (compareOp .LtE) (rI0 fun i j=>.bl (decide (i<=j))):=qdj fun _ _ _ _ _ _ _ q=>le_int q
theorem qnw:OpR X (compareOp .Gt) (rI0 fun i j=>.bl (decide (j<i))):=qdj fun _ _ _ _ _ _ _ q=>gt_int q
theorem qnx:OpR X (compareOp .GtE) (rI0 fun i j=>.bl (decide (j<=i))):=qdj fun _ _ _ _ _ _ _ q=>ge_int q
theorem qjg{op:CmpOp}{r:R2}(ho:OpR X (compareOp op) r)(ha:PE X a ta)(hb:PE X b tb)(hm:behindInMarks op b=false): PE X (.Compare a [op] [b] pos) (tOp r ta tb):=by
 intro pins s σ H Q I h;exact wpAny_Compare1 (qh2 ha hb I h fun v u s2 x y H2 I2 rx ry q=>ho pins s2 σ H2 x y v u Q I2 rx ry q) hm
def qny(t:TE): TT:=fun σ H Q=>t σ H fun x H'=>∃k,x=.bl k/\Q k H'
theorem qjh{op:CmpOp}{r:R2}(ho:OpR X (compareOp op) r)(ha:PE X a ta)(hb:PE X b tb)(hm:behindInMarks op b=false): PT X (.Compare a [op] [b] pos) (qny (tOp r ta tb)):=by
 intro pins s σ H Q I h;refine wpAny_isTrue_Compare1 (thn (ha pins s σ H _ I h) fun v s1 ⟨x,H1,I1,r1,q1⟩=>thn (hb pins s1 σ H1 _ I1 q1) fun u s2 ⟨y,H2,I2,r2,q2⟩=>
  thn (ho pins s2 σ H2 x y v u _ I2 r1 r2 q2) fun c s3 ⟨z,H3,I3,r3,k,e,q3⟩=>?_) hm
 subst e;cases r3;exact tw ⟨H3,I3,q3⟩
def qf4(r r':R2)(ta tb tc:TE): TE:=fun σ H Q=>ta σ H fun x H1=>tb σ H1 fun y H2=>r x y H2 fun z H3=>∃k,z=.bl k /\
 (if k=true then tc σ H3 fun w' H4=>r' y w' H4 Q else Q (.bl false) H3)
theorem qh4{op op':CmpOp}{r r':R2}(ho:OpR X (compareOp op) r)(ho':OpR X (compareOp op') r')(ha:PE X a ta)(hb:PE X b tb)(hc:PE X c tc)
  (hm:lastMarks [op,op'] [b,c]=false:=by with_unfolding_all rfl):PE X (.Compare a [op,op'] [b,c] pos) (qf4 r r' ta tb tc):=by
 intro pins s σ H Q I h;refine Compare_chain (thn (ha pins s σ H _ I h) fun v s1 ⟨x,H1,I1,r1,q1⟩=>chain_link (thn (hb pins s1 σ H1 _ I1 q1) fun u s2 ⟨y,H2,I2,r2,q2⟩=>
  thn (ho pins s2 σ H2 x y v u _ I2 r1 r2 q2) fun d s3 ⟨z,H3,I3,r3,k,e,q3⟩=>?_)) hm
 subst e;cases r3;refine tw ?_;cases k with
 | false=>exact ite_ff ⟨.bl false,H3,I3,rfl,q3⟩
 | true=>exact ite_tt (chain_last (thn (hc pins s3 σ H3 _ I3 q3) fun w' s4 ⟨z',H4,I4,r4,q4⟩=>ho' pins s4 σ H4 y z' u w' Q I4 r2 r4 q4))
def qh5(K:PySem.W.Frag)(x:V)(H:Hp)(k:Bool): Prop:=
 match x with
 | .non=>k=false
 | .bl b=>k=b
 | .int i=>k=(i != 0)
 | .str y=>y.length<=sizeLine/\k=((y.length:Int) != 0)
 | .byt y=>y.size<=sizeLine/\k=((y.size:Int) != 0)
 | .ref p=>(∃xs,SqL K H p xs/\k = !xs.isEmpty)\/(∃xs,SqT K H p xs/\k = !xs.isEmpty)\/∃kvs,H p=some (.dK kvs)/\k = !kvs.isEmpty
 | _=>False
theorem qdk{κ : Type}{kvs:List (κ × V)}{vs:List (κ × Value)}(r:KV kvs vs): (!vs.isEmpty) = !kvs.isEmpty:=by
 cases r <;> rfl
theorem q65{xs:List V}{its:List Value}(r:Vals xs its): (!its.toArray.isEmpty) = !xs.isEmpty:=by
 cases r <;> simp
theorem q3o:(sizeLine:Nat)<2 ^ 63:=by rw [g0y];decide
theorem qls:qp3 X (fun x H Q=>∃k,qh5 X.K x H k/\Q k H):=by
 intro pins s σ H x v Q I rx h;obtain⟨k,e,q⟩:=h;have hl:=q3o;have hs:sizeLine=16777216:=g0y;cases x with
 | non=>
  cases rx;have e':k=false:=e;subst e';exact truthy_none ⟨H,I,q⟩
 | bl b=>
  cases rx;have e':k=b:=e;subst e';exact tw ⟨H,I,q⟩
 | int i=>
  obtain⟨t,rfl⟩:=rx;have e':k=(i != 0):=e;subst e';exact PySem.P.truthy_int ⟨H,I,q⟩
 | str y=>
  obtain⟨t,rfl⟩:=rx;obtain⟨hy,e'⟩:y.length<=sizeLine/\k=((y.length:Int) != 0):=e;subst e';exact PySem.P.truthy_str (by omega) ⟨H,I.tok _,q⟩
 | byt y=>
  obtain⟨t,rfl⟩:=rx;obtain⟨hy,e'⟩:y.size<=sizeLine/\k=((y.size:Int) != 0):=e;subst e';exact PySem.W.truthy_bytes (by omega) ⟨H,I.tok _,q⟩
 | ref p=>
  cases rx;have e':(∃xs,SqL X.K H p xs/\k = !xs.isEmpty)\/(∃xs,SqT X.K H p xs/\k = !xs.isEmpty)\/∃kvs,H p=some (.dK kvs)/\k = !kvs.isEmpty:=e;rcases e' with⟨xs,hx,e'⟩|⟨xs,hx,e'⟩|⟨kvs,hx,e'⟩
  ·subst e'
   obtain⟨its,r,pl,hz⟩:=I.list hx;have hlen:=r.length;exact wpAny_truthy_list pl.isList (by simp only [gf];omega) ⟨H,I.tok _,by rw [q65 r];exact q⟩
  ·subst e'
   obtain⟨its,r,pl,hz⟩:=I.tuple hx;have hlen:=r.length;exact truthy_tuple pl (by simp only [gf];omega) ⟨H,I.tok _,by rw [q65 r];exact q⟩
  ·subst e'
   obtain⟨hz,hS,vs,r,m⟩:kvs.length<=sizeLine/\(p==sysModules)=false/\∃vs,KV kvs vs/\s.heap.DictOf (mixKind X.prog X.w) p vs:=I.hok p _ hx;have hlen:kvs.length=vs.length:=Paired.length r;exact wpAny_truthy_dict hS m (by omega) ⟨H,I.tok _,by rw [qdk r];exact q⟩
 | _=>exact(show False from e).elim
theorem qh6(ha:PE X a ta)(he:∀whole,isTrue a X.env whole=(do let v <- whole;standAt a.pos;holding [v] (truthy v))):
  PT X a (fun σ H Q=>ta σ H fun x H'=>∃k,qh5 X.K x H' k/\Q k H'):=by
 intro pins s σ H Q I h;exact isTrue_plain (thn (ha pins s σ H _ I h) fun v s1 ⟨x,H1,I1,r1,q1⟩=>qls pins s1 σ H1 x v Q I1 r1 q1) (he _)
theorem vals1{x:V}{us:List Value}(r:Vals [x] us): ∃u,us=[u]/\RelV x u:=by
 cases r with
 | cons r1 r2=>cases r2;exact⟨_,rfl,r1⟩
theorem vals2{x y:V}{us:List Value}(r:Vals [x,y] us): ∃u w',us=[u,w']/\RelV x u/\RelV y w':=by
 cases r with
 | cons r1 r2=>
  cases r2 with
  | cons r3 r4=>cases r4;exact⟨_,_,rfl,r1,r3⟩
theorem qf5(hc:X.calm=true): zi X (.builtin "max") (fun xs H Q=>∃i j,xs=[.int i,.int j]/\Q (.int (if j>i then j else i)) H):=by
 intro pins s σ H xs us Q I r h;obtain⟨i,j,rfl,q⟩:=h;obtain⟨u,w',rfl,⟨t,rfl⟩,⟨t',rfl⟩⟩:=vals2 r;refine max_two_ints (I.ok.hd hc) fun h' tk k=>⟨_,H,I.kept k,?_,q⟩
 by_cases hj:j>i
 ·rw [gz hj,gz hj];exact⟨_,rfl⟩
 ·rw [m4 hj,m4 hj];exact⟨_,rfl⟩
theorem qf6(hc:X.calm=true): zi X (.builtin "min") (fun xs H Q=>∃i j,xs=[.int i,.int j]/\Q (.int (if j<i then j else i)) H):=by
 intro pins s σ H xs us Q I r h;obtain⟨i,j,rfl,q⟩:=h;obtain⟨u,w',rfl,⟨t,rfl⟩,⟨t',rfl⟩⟩:=vals2 r;refine min_two_ints (I.ok.hd hc) fun h' tk k=>⟨_,H,I.kept k,?_,q⟩
 by_cases hj:j<i
 ·rw [gz hj,gz hj];exact⟨_,rfl⟩
 ·rw [m4 hj,m4 hj];exact⟨_,rfl⟩
theorem qf7:zi X (.type "int") (fun xs H Q=>(∃i,xs=[.int i]/\Q (.int i) H)\/∃k,xs=[.bl k]/\Q (.int (if k then 1 else 0)) H):=by
 intro pins s σ H xs us Q I r h;rcases h with⟨i,rfl,q⟩|⟨k,rfl,q⟩
 ·obtain⟨u,rfl,t,rfl⟩:=vals1 r
  exact call_int_int ⟨.int i,H,I,⟨_,rfl⟩,q⟩
 ·obtain⟨u,rfl,r1⟩:=vals1 r
  cases r1;exact call_int_bool ⟨.int (if k then 1 else 0),H,I.tok _,⟨_,rfl⟩,q⟩
theorem q9m:zi X (.type "str") (fun xs H Q=>∃i,xs=[.int i]/\i.natAbs.log2<1920/\Q (.str (toString i)) H):=by
 intro pins s σ H xs us Q I r h;obtain⟨i,rfl,hz,q⟩:=h;obtain⟨u,rfl,t,rfl⟩:=vals1 r;exact PySem.P.str_of_int hz ⟨.str _,H,I.tok _,⟨_,rfl⟩,q⟩
def qp5(K:PySem.W.Frag)(x:V)(H:Hp)(n:Nat): Prop:=
 match x with
 | .str y=>y.length<=sizeLine/\n=y.length
 | .byt y=>y.size<=sizeLine/\n=y.size
 | .ref p=>(∃xs,SqL K H p xs/\n=xs.length)\/∃xs,SqT K H p xs/\n=xs.length
 | _=>False
theorem qh7:zi X (.builtin "len") (fun xs H Q=>∃x n,xs=[x]/\qp5 X.K x H n/\Q (.int n) H):=by
 intro pins s σ H xs us Q I r h;obtain⟨x,n,rfl,e,q⟩:=h;obtain⟨u,rfl,rx⟩:=vals1 r;have hl:=q3o;have hs:sizeLine=16777216:=g0y;cases x with
 | str y=>
  obtain⟨t,rfl⟩:=rx;obtain⟨hy,e'⟩:y.length<=sizeLine/\n=y.length:=e;subst e';exact len_str (by omega) ⟨.int _,H,I.tok _,⟨_,rfl⟩,q⟩
 | byt y=>
  obtain⟨t,rfl⟩:=rx;obtain⟨hy,e'⟩:y.size<=sizeLine/\n=y.size:=e;subst e';exact PySem.W.len_bytes (by omega) ⟨.int _,H,I.tok _,⟨_,rfl⟩,q⟩
 | ref p=>
  cases rx;have e':(∃xs,SqL X.K H p xs/\n=xs.length)\/∃xs,SqT X.K H p xs/\n=xs.length:=e;rcases e' with⟨xs,hx,e'⟩|⟨xs,hx,e'⟩
  ·subst e'
   obtain⟨its,r',pl,hz⟩:=I.list hx;have hlen:=r'.length;exact Calls.call_len_list pl.isList (by simp only [gf];omega) ⟨.int xs.length,H,I.tok _,⟨_,by simp only [gf];rw [hlen]⟩,q⟩
  ·subst e'
   obtain⟨its,r',pl,hz⟩:=I.tuple hx;have hlen:=r'.length;exact len_tuple pl (by simp only [gf];omega) ⟨.int xs.length,H,I.tok _,⟨_,by simp only [gf];rw [hlen]⟩,q⟩
 | _=>exact(show False from e).elim
end
structure ObjM(h:Heap)(x dx C:Addr)(mA:Str->Option Value): Prop where
 obj:h.get? x=some (PySem.W.instObj C dx)
 ns:h.Ns1 dx mA
 ne:dx≠x
theorem qf8{h:Heap}{dx:Addr}{mA:Str->Option Value}(n:h.Ns1 dx mA): ∃od,h.get? dx=some od/\∀name,PySem.W.lookIn name od=some (mA name):=by
 obtain⟨o,es,ep,ho,hd,hk,_,hm⟩:=n;refine⟨o,ho,fun name=>?_⟩;have e:=hm name;unfold nsFind findBy at e;rw [<- Array.find?_toList] at e;unfold PySem.W.lookIn;rw [hd];dsimp only
 split
 ·rename_i y q
  rw [q] at e;exact pw some e
 ·rename_i q
  rw [q] at e;have a:es.toList.any (·.refKey)=false:=by
   rw [List.any_eq_false];intro y hy;obtain⟨z,t,hkey⟩:=hk y (Array.mem_toList_iff.mp hy);simp [DictEntry.refKey,hkey]
  have a':¬es.toList.any (·.refKey)=true:=by rw [a];exact gj
  rw [m4 a'];exact pw some e
theorem ObjM.look{h:Heap}{x dx C:Addr}{mA:Str->Option Value}(I:ObjM h x dx C mA): ∃od,PySem.W.InstAt h x (PySem.W.instObj C dx) C (some od)/\∀name,PySem.W.lookIn name od=some (mA name):=
 let⟨od,ho,hl⟩:=qf8 I.ns
 ⟨od,⟨I.obj,rfl,rfl,ho⟩,hl⟩
section
variable{prog:Program}{w:World}{A:Around}{E:Value->Shared->Prop}{s:Shared}{K:PySem.W.Frag}{x dx C f:Addr}{mA:Str->Option Value}{name:Str}{v:Value}
theorem qh8{pl:Sem Bool}{Q:Value×List Value->Shared->Prop}(X:K.In s.heap)(I:ObjM s.heap x dx C mA)(hg:PySem.W.plainGet K C name=true)
  (hf:PySem.W.findIn K (.ref C) name=some (some (.ref f))) (ht:PySem.W.isFn K (.ref f)=true) (hv:mA name=none) (h:Q (.ref f,[.ref x]) s) :
  wpAny (model prog w) A (getMethod (.ref x) name pl) Q E s:=by
 obtain⟨od,J,hl⟩:=I.look;exact PySem.W.method_fn X J (PySem.W.plainGet_of hg).1 (PySem.W.plainGet_of hg).2 hf (g1b.mp ht) (by show(PySem.W.lookIn name od).map (·.isSome)=some false;rw [hl,hv];rfl) h
end
theorem RelO.none_of{o:Option Value}(r:RelO none o): o=none:=by
 cases o with
 | none=>rfl
 | some u=>exact(show False from r).elim
section
variable{P:Program}{w:World}{H H':Hp}{h h':Heap}{a C dx:Addr}{fs fs':List (Str×V)}
theorem qck(hok:HOk P w H h)(e:H a=some (.ins C dx fs)): ∃mA,ObjM h a dx C mA/\(∀f,RelO (fs.lookup f) (mA f))/\PySem.Within mA (fs.map (·.1))/\fs.length<=1000/\H dx=some (.own a):=by
 obtain⟨d,z,ne,ob,mA,n,r,q⟩:=(show ObjOk P w H h a (.ins C dx fs) from hok a _ e)
 exact⟨mA,⟨ob,n,ne⟩,r,q,z,d⟩
end
structure Cls(K:PySem.W.Frag)(C:Addr): Prop where
 pg:PySem.W.plainGet K C Str.empty=true
 hd:PySem.W.hasDictIn K C=true
 po:PySem.W.plainOver K C=true
 sa:PySem.W.findIn K (.ref C) "__setattr__" = some (some (.builtin "object.__setattr__"))
theorem Cls.get{K:PySem.W.Frag}{C:Addr}(c:Cls K C)(f:Str): PySem.W.plainGet K C f=true:=c.pg
structure Meth(K:PySem.W.Frag)(C:Addr)(m:Str)(f:Addr): Prop where
 at_:PySem.W.findIn K (.ref C) m=some (some (.ref f))
 fn:PySem.W.isFn K (.ref f)=true
 kp:PySem.W.keepIn K (.ref f)=true
section
variable{X:Cx}{pins:List (Addr×Obj)}{σ : St}{H:Hp}{s:Shared}{a C dx:Addr}{fs:List (Str×V)}{f:Str}{v:V}{A:Around}{E:Value->Shared->Prop}
theorem qdl{m:Str}{g:Addr}{pl:Sem Bool}{Q:Value×List Value->Shared->Prop}(I:Inv X pins σ H s)(e:H a=some (.ins C dx fs))(c:Cls X.K C)(k:Meth X.K C m g)(l:fs.lookup m=none)
  (h:Q (.ref g,[.ref a]) s):wpAny (model X.prog X.w) A (getMethod (.ref a) m pl) Q E s:=by
 obtain⟨mA,O,r,_,_,_⟩:=qck I.hok e;have hn:mA m=none:=RelO.none_of (by rw [<- l];exact r m);exact qh8 I.kIn O (c.get m) k.at_ k.fn hn h
theorem Inv.made(I:Inv X pins σ H s): Inv X pins σ (upd (upd H s.heap.objs.size (.own (s.heap.objs.size+1))) (s.heap.objs.size+1) (.ins C s.heap.objs.size []))
  {s with heap:=(s.heap.push PySem.W.emptyDict).push (PySem.W.instObj C s.heap.objs.size)}:=by
 have e1:(s.heap.push PySem.W.emptyDict).get? s.heap.objs.size=some PySem.W.emptyDict:=gi s.heap rfl;have e2:((s.heap.push PySem.W.emptyDict).push (PySem.W.instObj C s.heap.objs.size)).get? (s.heap.objs.size+1)=some (PySem.W.instObj C s.heap.objs.size):=by
  have:=gi (s.heap.push PySem.W.emptyDict) (o:=PySem.W.instObj C s.heap.objs.size) rfl;rwa [nc] at this
 have e3:(s.heap.push PySem.W.emptyDict).Ns s.heap.objs.size (fun _=>none):=⟨PySem.W.emptyDict, #[],_,e1,rfl,(fun e he=>absurd he (by simp)),fun _=>rfl⟩
 have I1:=I.laid (a:=s.heap.objs.size) (o:=.own (s.heap.objs.size+1)) (h':=s.heap.push PySem.W.emptyDict) (t':=s.toks) (fun b u q=>gc _ q) (gp _) ⟨_,e1⟩;refine I1.laid (a:=s.heap.objs.size+1) (o:=.ins C s.heap.objs.size []) (t':=s.toks) (fun b u q=>gc _ q) (Nat.le_of_eq (nc _ _)) ?_;have ne:s.heap.objs.size≠s.heap.objs.size+1:=gr (t9 _);refine⟨by rw [qk ne,qt],t7 _,ne,e2,fun _=>none,(Heap.Ns1.of_empty e3).at fun o q=>gc _ q,fun _=>True.intro,fun y hy=>absurd rfl hy⟩
end
section
variable{X:Cx}{o e value:Expr}{f:Str}{pos pos' tpos:Pos}{ta tv:TE}
end
section
variable{X:Cx}{pins:List (Addr×Obj)}{σ : St}{H:Hp}{s:Shared}{A:Around}{E:Value->Shared->Prop}{Q:Value->Shared->Prop}{c:Value}{b:Bool}
end
structure Room(k:Nat)(A:Around): Prop where
 hd:A.handled=none
 dp:A.depth+3*k+5<recursionLimit
 un:A.units+16*k+200<cLine
theorem Room.mono{j k:Nat}{A:Around}(r:Room k A)(h:j<=k): Room j A:=⟨r.hd,by have:=r.dp;omega,by have:=r.un;omega⟩
theorem Room.deeper{k:Nat}{A:Around}(r:Room (k+1) A)(env:Env): Room k (A.deeper env):=
 ⟨r.hd,by have:=r.dp;show A.depth+1+3*k+5<_;omega,by have:=r.un;show A.units+3+16*k+200<_;omega⟩
theorem Room.depth{k:Nat}{A:Around}(r:Room k A): A.depth<recursionLimit:=by have:=r.dp;omega
theorem Room.units{k:Nat}{A:Around}(r:Room k A): A.units+64<cLine:=by have:=r.un;omega
def tNil:TA:=fun _ H Q=>Q [] H
def qnz(ta:TE)(tr:TA): TA:=fun σ H Q=>ta σ H fun x H1=>tr σ H1 fun xs H2=>Q (x :: xs) H2
section
variable{X:Cx}{e:Expr}{es:List Expr}{te:TE}{t:TA}{pos:Pos}
theorem y0:PA X [] tNil:=fun _ _ _ _ H Q I h=>Calls.spliced_nil ⟨[],H,I,.nil,h⟩
theorem ze(ha:PE X e te)(hr:PA X es t)(hs:starEach (e :: es) X.env=(false,eval e X.env) :: starEach es X.env:=by rfl): PA X (e :: es) (qnz te t):=by
 intro pos pins s σ H Q I h;rw [hs];show wpAny _ _ (spliced ((false,eval e X.env) :: backTo pos (starEach es X.env))) _ _ s;refine Calls.spliced_cons (thn (ha pins s σ H _ I h) fun u s1 ⟨x,H1,I1,r1,q1⟩=>?_);exact thn (hr pos pins s1 σ H1 _ I1 q1) fun us s2 ⟨xs,H2,I2,r2,q2⟩=>⟨x :: xs,H2,I2,.cons r1 r2,q2⟩
def qp6(t:TA): TE:=fun σ H Q=>t σ H fun xs H1=>xs.length<=sizeLine/\∀p,H1 p=none->Q (.ref p) (upd H1 p (.tup xs))
def qp7(t:TA): TE:=fun σ H Q=>t σ H fun xs H1=>xs.length<=sizeLine/\∀p,H1 p=none->Q (.ref p) (upd H1 p (.lst xs))
theorem qf9{x1}(h:PA X es t): PE X (.Tuple es x1 pos) (qp6 t):=by
 intro pins s σ H Q I hq;refine wpAny_Tuple_spliced (thn (h pos pins s σ H _ I hq) fun us s1 ⟨xs,H1,I1,r,z,q⟩=>⟨by rw [<- r.length];exact z,?_⟩);have hf:H1 s1.heap.objs.size=none:=I1.hok.fresh (gp _);refine⟨.ref s1.heap.objs.size,upd H1 s1.heap.objs.size (.tup xs),I1.laid (t':=s1.toks) (fun b u e=>gc _ e) (gp _) ?_,rfl,q _ hf⟩;exact⟨z,us,r,⟨_,gi _ rfl,rfl,_,rfl⟩⟩
theorem qlt(h:PA X es t): PE X (.List es pos) (qp7 t):=by
 intro pins s σ H Q I hq;refine wpAny_List_spliced (thn (h pos pins s σ H _ I hq) fun us s1 ⟨xs,H1,I1,r,z,q⟩=>⟨by rw [<- r.length];exact z,?_⟩);have hf:H1 s1.heap.objs.size=none:=I1.hok.fresh (gp _);refine⟨.ref s1.heap.objs.size,upd H1 s1.heap.objs.size (.lst xs),I1.laid (t':=s1.toks) (fun b u e=>gc _ e) (gp _) ?_,rfl,q _ hf⟩;exact⟨z,us,0,r,gi _ rfl⟩
end
abbrev Sp:=List V->Hp->VK->XK->Prop
abbrev CXT:=List Env->Hp->Shared->XK->Value->Shared->Prop
structure Env0(P:Program)(w:World)(K:PySem.W.Frag)(mg:Str->Option Value)(base:Heap)(A:Around)(outer:List Env)(s:Shared)(H:Hp): Prop where
 frames:A.frames=some outer
 mod:Mod K mg base
 bs:∀b o,base.get? b=some o->s.heap.get? b=some o/\H b=none
 bsz:base.objs.size<=s.heap.objs.size
 funs:s.heap.FunFrames base outer
 frf:∀b∈frs outer,H b=none
 hok:HOk P w H s.heap
 bare:AllBare s.gens
def CE(outer:List Env)(P:Program)(w:World)(H:Hp)(s:Shared)(Q:VK)(u:Value)(s':Shared): Prop:=
 ∃v H',s'.os=s.os/\AllBare s'.gens/\Un (frs outer) [] H H' s.heap s'.heap/\HOk P w H' s'.heap/\RelV v u/\Q v H'
def CR(CX:CXT)(outer:List Env)(P:Program)(w:World)(H:Hp)(s:Shared)(Q:VK)(E:XK)(r:Result)(s':Shared): Prop:=
 match r with
 | .ok (.ret u)=>CE outer P w H s Q u s'
 | .ok _=>False
 | .error e=>CX outer H s E e s'
structure FnOk(P:Program)(w:World)(K:PySem.W.Frag)(mg:Str->Option Value)(base:Heap)(CX:CXT)(k:Nat)(f:Addr)(fd:FuncData)(ps:List Str)(sp:Sp): Prop where
 len:∀vs H Q E,sp vs H Q E->vs.length=ps.length
 run:∀(A:Around) (outer:List Env) (s:Shared) (H:Hp) (args:Args) (us:List Value) (vs:List V) (Q:VK) (E:XK),Room k A->Env0 P w K mg base A outer s H->BindsTo s fd args (ps.zip us)->Vals vs us->sp vs H Q E ->
  codeAny (model P w) A (.call (.ref f) args) (CR CX outer P w H s Q E) s
theorem FnOk.imp{P:Program}{w:World}{K:PySem.W.Frag}{mg:Str->Option Value}{base:Heap}{CX:CXT}{k:Nat}{f:Addr}{fd:FuncData}{ps:List Str}{sp sp':Sp}(F:FnOk P w K mg base CX k f fd ps sp)
  (h:∀vs H Q E,sp' vs H Q E->sp vs H Q E):FnOk P w K mg base CX k f fd ps sp':=
 ⟨fun vs H Q E q=>F.len vs H Q E (h _ _ _ _ q),fun A outer s H args us vs Q E hr he hb hv hs=>F.run A outer s H args us vs Q E hr he hb hv (h _ _ _ _ hs)⟩
section
variable{X:Cx}{pins:List (Addr×Obj)}{σ : St}{H:Hp}{s s':Shared}
theorem Inv.env0(I:Inv X pins σ H s): Env0 X.prog X.w X.K X.mg X.base X.A X.stack s H:=
 ⟨I.ok.frames,I.ok.mod,I.bs,my I.ok.bsz I.sz,I.stack,I.stkFree,I.hok,I.bare⟩
theorem Inv.after{Q:VK}{u:Value}(I:Inv X pins σ H s)(h:CE X.stack X.prog X.w H s Q u s'): EP X pins σ Q u s':=by
 obtain⟨v,H',os,bare,un,hok,r,q⟩:=h;obtain⟨hh,g,d,t,os'⟩:=s';obtain rfl:os'=s.os:=os;exact⟨v,H',I.call (h':=hh) (g':=g) (d':=d) (t':=t) (ch:=[]) un hok bare (fun b z=>absurd z (by simp)),r,q⟩
end
def qo0(sp:Sp)(dvs:List V)(E:XK)(t:TA): TE:=fun σ H Q=>t σ H fun vs H1=>sp (vs++dvs) H1 Q E
def qo1(C:Addr)(m:Str)(sp:Sp)(dvs:List V)(E:XK)(ta:TE)(t:TA): TE:=fun σ H Q=>ta σ H fun x H1=>∃a dx fs,x=.ref a/\H1 a=some (.ins C dx fs)/\fs.lookup m=none /\
 t σ H1 fun vs H2=>sp (x :: (vs++dvs)) H2 Q E
def Binds(K:PySem.W.Frag)(fd:FuncData)(ps:List Str)(ds:List Value): Prop:=
 ∀(s:Shared) (us:List Value),K.In s.heap->(us++ds).length=ps.length->BindsTo s fd ⟨us,[]⟩ (ps.zip (us++ds))
def q3p(CX:CXT)(X:Cx)(E:XK): Prop:=∀(pins:List (Addr×Obj)) (σ : St) (H:Hp) (s:Shared) (e:Value) (s':Shared),Inv X pins σ H s->CX X.stack H s E e s'->X.xe e s'
section
variable{X:Cx}{CX:CXT}{k:Nat}{f C:Addr}{fd:FuncData}{ps:List Str}{sp:Sp}{dvs:List V}{ds:List Value}{E:XK}{x m:Str}{p pos apos:Pos}{e o:Expr}{es:List Expr}{ta:TE}{t:TA}
theorem qfa{pins:List (Addr×Obj)}{σ : St}{H:Hp}{s:Shared}{Q:VK}{us:List Value}{vs:List V}(F:FnOk X.prog X.w X.K X.mg X.base CX k f fd ps sp)(hr:Room k X.A)(hb:Binds X.K fd ps ds)(hd:Vals dvs ds)(hx:q3p CX X E)
  (I:Inv X pins σ H s) (r:Vals vs us) (h:sp (vs++dvs) H Q E):wpAny (model X.prog X.w) X.A (call (.ref f) us) (EP X pins σ Q) X.xe s:=by
 have r2:Vals (vs++dvs) (us++ds):=r.append hd;have hl:(us++ds).length=ps.length:=by rw [<- r2.length];exact F.len _ _ _ _ h
 refine g1u (g14 (F.run X.A X.stack s H ⟨us,[]⟩ (us++ds) (vs++dvs) Q E hr I.env0 (hb s us I.kIn hl) r2 h) fun r s' hq=>?_);cases r with
 | error e=>exact hx pins σ H s e s' I hq
 | ok fl=>
  cases fl with
  | ret u=>exact I.after hq
  | next=>exact False.elim hq
  | brk=>exact False.elim hq
  | cont=>exact False.elim hq
theorem qcl(F:FnOk X.prog X.w X.K X.mg X.base CX k f fd ps sp)(hr:Room k X.A)(hg:Gl X x)(hm:X.mg x=some (.ref f))(hk:PySem.W.keepIn X.K (.ref f)=true)(hb:Binds X.K fd ps ds)(hd:Vals dvs ds)(hx:q3p CX X E)
  (ha:PA X (e :: es) t) (hdb:(x==("__debug__" : Str))=false:=by decide) (he:starEach (e :: es) X.env=(false,eval e X.env) :: starEach es X.env:=by rfl) (hpl:(backTo pos (starEach es X.env)).any (·.1)=false:=by rfl) :
  PE X (.Call (.Name x p) (e :: es) [] pos) (qo0 sp dvs E t):=by
 intro pins s σ H Q I h;refine g08 (q12 I hg hm ?_ hdb);refine g2b (h₀:=X.base) I.ok.mod.kin hk (thn (ha pos pins s σ H _ I h) fun us s1 ⟨vs,H1,I1,r,q⟩=>⟨I1.kIn,?_⟩) he hpl;exact qfa F hr hb hd hx I1 r q
theorem qcm{pl:Sem Bool}(he:PE X o ta)(c:Cls X.K C)(hm:Meth X.K C m f)(F:FnOk X.prog X.w X.K X.mg X.base CX k f fd ps sp)(hr:Room k X.A)(hb:Binds X.K fd ps ds)(hd:Vals dvs ds)(hx:q3p CX X E)(ha:PA X (e :: es) t)
  (hst:starEach (e :: es) X.env=(false,eval e X.env) :: starEach es X.env:=by rfl) (hpl:(backTo pos (starEach es X.env)).any (·.1)=false:=by rfl)
  (ht:eval (.Call (.Attribute o m apos) (e :: es) [] pos) X.env=(do
   let ov <- eval o X.env
   standAt apos.atName
   let(f,first) <- holding [ov] (getMethod ov m pl)
   callWith pos f first (backTo pos (starEach (e :: es) X.env)) (backToKw pos (keywordEach [] X.env))):=by rfl) :
  PE X (.Call (.Attribute o m apos) (e :: es) [] pos) (qo1 C m sp dvs E ta t):=by
 intro pins s σ H Q I h;refine PySem.W.methodCall_KW (pl:=pl) (thn (he pins s σ H _ I h) fun u s1 ⟨x,H1,I1,rx,a,dx,fs,ex,ea,l,q⟩=>?_) ht;subst ex;obtain rfl:u=Value.ref a:=rx;refine qdl I1 ea c hm l ?_;refine g2b (first:=[.ref a]) (h₀:=X.base) I.ok.mod.kin hm.kp (thn (ha pos pins s1 σ H1 _ I1 q) fun us s2 ⟨vs,H2,I2,r,q2⟩=>⟨I2.kIn,?_⟩) hst hpl;exact qfa (us:=.ref a :: us) (vs:=.ref a :: vs) F hr hb hd hx I2 (.cons rfl r) q2
end
section
variable{X:Cx}{CX:CXT}{k:Nat}{f C:Addr}{fd:FuncData}{ps ks:List Str}{sp:Sp}{E:XK}{x m:Str}{p pos apos kpos:Pos}{e o:Expr}{es:List Expr}{kws:List Keyword}{te ta:TE}{t tk:TA}{nm:Option Str}
variable{g:List Value->List Value->List Value}{gV:List V->List V->List V}
end
structure FnScope(N P:List Str)(sc:Scope): Prop where
 kind:sc.kind=.function
 co:sc.isCoroutine=false
 gen:sc.isGenerator=false
 nd:N.Nodup
 pre:N.take P.length=P
 par:∀x∈P,sc.names.lookup x=some .local\/sc.names.lookup x=some .cell
 nofree:∀y∈sc.names,y.2 ≠ .free
theorem q81{kindOf:Str->Option NameKind}{x:Str}: ∀ {binds:List (Str×Value)} {m:Str->Option Value},(∀v,(x,v)∉binds)->bindL kindOf binds m x=m x
 | [],_,_=>rfl
 | (n,v) :: r,m,h=>by
  unfold bindL;rw [q81 fun w hw=>h w (m5 _ hw)]
  split
  ·have:x≠n:=by rintro rfl;exact h v gv
   simp [this]
  ·rfl
theorem q82{kindOf:Str->Option NameKind}{x:Str}: ∀ {binds:List (Str×Value)} {m:Str->Option Value},(∀v,(x,v)∉binds)->bindC kindOf binds m x=m x
 | [],_,_=>rfl
 | (n,v) :: r,m,h=>by
  unfold bindC;rw [q82 fun w hw=>h w (m5 _ hw)]
  split
  ·rfl
  ·have:x≠n:=by rintro rfl;exact h v gv
   simp [this]
theorem q83{kindOf:Str->Option NameKind}{x:Str}{v:Value}: ∀ {P:List Str} {vs:List Value} {i:Nat} {m:Str->Option Value},P.Nodup->P[i]? = some x->vs[i]? = some v->kindOf x=some .local ->
  bindL kindOf (P.zip vs) m x=some v
 | [],_,_,_,_,h,_,_=>by simp at h
 | _ :: _,[],_,_,_,_,h,_=>by simp at h
 | p :: P,w :: vs,0,m,nd,h1,h2,hk=>by
  simp at h1 h2;subst h1;subst h2;show bindL kindOf ((p,w) :: P.zip vs) m p=_;unfold bindL;rw [q81 fun v hv=>(um.mp nd).1 (g31 hv).1,gz hk];simp
 | p :: P,w :: vs,i+1,m,nd,h1,h2,hk=>by
  show bindL kindOf ((p,w) :: P.zip vs) m x=_;unfold bindL;exact q83 (i:=i) (um.mp nd).2 (by simpa using h1) (by simpa using h2) hk
theorem q84{kindOf:Str->Option NameKind}{x:Str}{v:Value}: ∀ {P:List Str} {vs:List Value} {i:Nat} {m:Str->Option Value},P.Nodup->P[i]? = some x->vs[i]? = some v->kindOf x≠some .local ->
  bindC kindOf (P.zip vs) m x=some v
 | [],_,_,_,_,h,_,_=>by simp at h
 | _ :: _,[],_,_,_,_,h,_=>by simp at h
 | p :: P,w :: vs,0,m,nd,h1,h2,hk=>by
  simp at h1 h2;subst h1;subst h2;show bindC kindOf ((p,w) :: P.zip vs) m p=_;unfold bindC;rw [q82 fun v hv=>(um.mp nd).1 (g31 hv).1,m4 hk];simp
 | p :: P,w :: vs,i+1,m,nd,h1,h2,hk=>by
  show bindC kindOf ((p,w) :: P.zip vs) m x=_;unfold bindC;exact q84 (i:=i) (um.mp nd).2 (by simpa using h1) (by simpa using h2) hk
def start(N:List Str)(vs:List V): St:=vs.map some++List.replicate (N.length-vs.length) none
def qw(CX:CXT)(P:Program)(w:World)(K:PySem.W.Frag)(mg:Str->Option Value)(base:Heap)(N:List Str)(qual:Str)(scope:Scope)(f:Addr)(cd:Value)(A:Around)(outer:List Env)(s:Shared)(H:Hp)(E:XK): Cx where
 prog:=P
 w:=w
 K:=K
 mg:=mg
 base:=base
 A:=A.deeper (envOfC qual scope s.heap.objs.size f cd)
 N:=N
 s₀:=s
 H₀:=H
 env:=envOfC qual scope s.heap.objs.size f cd
 outer:=outer
 stack:=envOfC qual scope s.heap.objs.size f cd :: outer
 ex:=[]
 calm:=true
 fn:=fun _=>true
 pn:=[]
 xe:=fun e s'=>wpAny (model P w) (A.deeper (envOfC qual scope s.heap.objs.size f cd)) (leaving (envOfC qual scope s.heap.objs.size f cd) e) (fun _ s''=>CX outer H s E e s'') (fun e' s''=>CX outer H s E e' s'') s'
theorem q9n{sc:Scope}{n:Nat}{x:Str}(h:sc.names.lookup x=some .cell): ∃c,(cellsFrom n sc.names []).lookup x=some c:=by
 have q:=g36 sc.names n [] (.inl h);exact tf.mp q
theorem qfb{CX:CXT}{P:Program}{w:World}{K:PySem.W.Frag}{mg:Str->Option Value}{base:Heap}{N ps:List Str}{qual:Str}{scope:Scope}{f:Addr}{cd:Value}{A:Around}{outer:List Env}{s s1:Shared}{H:Hp}{E:XK}{us:List Value}{vs:List V}
  (S:FnScope N ps scope) (hd:A.handled=none) (e0:Env0 P w K mg base A outer s H) (hl:vs.length=ps.length) (r:Vals vs us)
  (x:InCallC s s.heap.objs.size (bindL (envOfC qual scope s.heap.objs.size f cd).kindOf (ps.zip us) fun _=>none) (cellsFrom (s.heap.objs.size+1) scope.names []) (bindC (envOfC qual scope s.heap.objs.size f cd).kindOf (ps.zip us) fun _=>none) s1) :
  Inv (qw CX P w K mg base N qual scope f cd A outer s H E) [] (start N vs) H s1:=by
 have hpl:ps.length<=N.length:=by have:=pw List.length S.pre;rw [p8] at this;omega
 obtain⟨h1,tk,rfl,hk⟩:=x.done;have noA:∀b:Addr,b∉(qw CX P w K mg base N qual scope f cd A outer s H E).ex:=fun b z=>absurd (show b∈([]:List Addr) from z) (by simp);refine⟨⟨e0.mod,S.kind,rfl,rfl,gp _,fun y z c h1 h2=>?_,fun y hy=>?_,fun y c _ h=>?_,fun _=>hd,Around.frames_deeper e0.frames,.inr ⟨rfl,rfl⟩,fun b z=>absurd z (noA b),e0.bs,e0.bsz,fun b _ _=>noA b,fun b z=>absurd z (noA b),e0.funs,e0.frf⟩,
  rfl,e0.bare,Un.kept hk,⟨_,x.toInCall.ns,fun i y v h1 h2 h3=>?_⟩,fun y c h=>⟨_,x.cell y c h⟩,e0.hok.fresh (gp _),fun y c h=>?_,fun p hp=>absurd (show p∈([]:List (Addr×Obj)) from hp) (by simp),e0.hok.kept hk,?_⟩
 ·exact name_of_addr x.apart (g06 h1) (g06 h2)
 ·have hy:scope.names.lookup y=some .cell\/scope.names.lookup y=some .free:=hy
  rcases hy with hy|hy
  ·exact q9n hy
  ·exact absurd rfl (S.nofree _ (g06 hy))
 ·exact g1t (x.above y c (g06 h))
 ·have hi:i<vs.length:=by
   unfold start at h2
   by_cases hi:i<vs.length
   ·exact hi
   ·rw [mv (by simpa using hi)] at h2
    rw [p7] at h2
    split at h2 <;> cases h2
  have ha:vs[i]? = some v:=by
   unfold start at h2;rw [n8 (by simpa using hi),gy] at h2;cases e:vs[i]? with
   | none=>rw [e] at h2;cases h2
   | some a=>rw [e] at h2;cases h2;rfl
  obtain⟨u,hu,rv⟩:=r.get ha;have hp:ps[i]? = some y:=by
   rw [<- S.pre,g2q (by omega)];exact h1
  have ndP:ps.Nodup:=by rw [<- S.pre];exact S.nd.sublist (List.take_sublist _ _)
  refine⟨u,rv,?_⟩;rcases S.par y (tm hp) with k|k
  ·exact .inl ⟨k,q83 ndP hp hu k⟩
  ·obtain⟨c,e⟩:=q9n (n:=s.heap.objs.size+1) k
   refine .inr ⟨.inl k,c,e,?_⟩;have q:=x.cell y c e;rw [q84 ndP hp hu (by show scope.names.lookup y≠_;rw [k];decide)] at q;exact q
 ·exact e0.hok.fresh (g1t (x.above y c (g06 h)))
 ·unfold start
  show _=N.length;rw [m8,mj,g1p];omega
theorem qj2{CX:CXT}{P:Program}{w:World}{K:PySem.W.Frag}{mg:Str->Option Value}{base:Heap}{k:Nat}{f:Addr}{name qual:Str}{params:Arguments}{body:List Stmt}{scope:Scope}{dV kV doc pm cdv ct oc:Value}{an od:Option Addr}
  {osl:Array (Option Value)} {N ps:List Str} {sp:Sp} (lk:K.lookup f=some ⟨oc,od,.func (PySem.W.fnOf name qual params body scope dV kV doc pm an cdv ct),osl⟩) (hcd:PySem.W.codeIn K cdv qual=true) (S:FnScope N ps scope)
  (len:∀vs H Q E,sp vs H Q E->vs.length=ps.length)
  (hbody:∀(A:Around) (outer:List Env) (s:Shared) (H:Hp) (vs:List V) (Q:VK) (E:XK),Room k (A.deeper (envOfC qual scope s.heap.objs.size f cdv))->sp vs H Q E ->
   ∃t,PSs (qw CX P w K mg base N qual scope f cdv A outer s H E) body t/\t {nx:=fun _ H'=>Q .non H',rt:=Q} (start N vs) H) :
  FnOk P w K mg base CX (k+1) f (PySem.W.fnOf name qual params body scope dV kV doc pm an cdv ct) ps sp:=by
 refine⟨len,fun A outer s H args us vs Q E hr e0 hb r hsp=>?_⟩;have hl:=len _ _ _ _ hsp;have KX:K.In s.heap:=e0.mod.kin.keeps fun b o e=>(e0.bs b o e).1;have lim:s.heap.NoLimit:=e0.mod.nolimit.keeps fun b o e=>(e0.bs b o e).1;have hkind:∀y∈ps.zip us,scope.names.lookup y.1=some .local\/(scope.names.lookup y.1=some .cell/\((cellsFrom (s.heap.objs.size+1) scope.names []).lookup y.1).isSome=true):=fun⟨n,v⟩ hy=>by
  rcases S.par n (g31 hy).1 with q|q
  ·exact .inl q
  ·exact .inr ⟨q,g36 _ _ _ (.inl q)⟩
 refine codeAny_call_function hr.depth (KX _ _ lk) rfl S.co S.gen rfl (PySem.W.codeRec_of KX hcd) (hb _ _ _ _ ?_);refine wpAny_newFunctionEnv_cells S.kind hkind fun env he s1 x=>?_;subst he;refine⟨lim.keeps x.toInCall.keep,codeAny_func ?_⟩;obtain⟨t,ht,hq⟩:=hbody A outer s H vs Q E (hr.deeper _) hsp;have I:Inv (qw CX P w K mg base N qual scope f cdv A outer s H E) [] (start N vs) H s1:=qfb S hr.hd e0 hl r x;refine n9 (ht [] s1 (start N vs) H _ I hq) (fun fl s' hs=>?_) fun e s' hs=>hs;have fin:∀ {σ':St} {H':Hp} {v:V} {u:Value},Inv (qw CX P w K mg base N qual scope f cdv A outer s H E) [] σ' H' s'->RelV v u->Q v H'->CE outer P w H s Q u s':=
  fun {σ' H' v u} J rv q=>⟨v,H',J.os,J.bare,J.base,J.hok,rv,q⟩
 cases fl with
 | ret u=>
  obtain⟨v, σ',H',J,rv,q⟩:=hs;exact fin J rv q
 | next=>
  obtain⟨σ',H',J,q⟩:=hs;exact fin (v:=V.non) (u:=Value.none) J rfl q
 | brk=>
  obtain⟨_,_,_,q⟩:=hs;exact False.elim q
 | cont=>
  obtain⟨_,_,_,q⟩:=hs;exact False.elim q
section
variable{X:Cx}{x:Str}{p pos:Pos}{e:Expr}{es:List Expr}{t:TA}{id T:String}{r:List V->Hp->VK->Prop}
def tCB(r:List V->Hp->VK->Prop)(t:TA): TE:=fun σ H Q=>t σ H fun vs H1=>r vs H1 Q
theorem q01(hc:zi X (.builtin id) r)(hg:Gl X x)(hm:X.mg x=none)(hv:bootBuiltins x=some (.builtin id))(ha:PA X (e :: es) t)(hn:x≠"__name__" :=by decide)(hdb:(x==("__debug__" : Str))=false:=by decide)
  (he:starEach (e :: es) X.env=(false,eval e X.env) :: starEach es X.env:=by rfl) (hpl:(backTo pos (starEach es X.env)).any (·.1)=false:=by rfl):PE X (.Call (.Name x p) (e :: es) [] pos) (tCB r t):=by
 intro pins s σ H Q I h;refine g08 (q17 I hg hm hv ?_ hn hdb);exact PyProof.Rows.callWith_builtin1 (thn (ha pos pins s σ H _ I h) fun us s1 ⟨vs,H1,I1,r1,q1⟩=>hc pins s1 σ H1 vs us Q I1 r1 q1) he hpl
theorem q1y(hc:zi X (.type T) r)(hg:Gl X x)(hm:X.mg x=none)(hv:bootBuiltins x=some (.type T))(ha:PA X (e :: es) t)(hn:x≠"__name__" :=by decide)(hdb:(x==("__debug__" : Str))=false:=by decide)
  (he:starEach (e :: es) X.env=(false,eval e X.env) :: starEach es X.env:=by rfl) (hpl:(backTo pos (starEach es X.env)).any (·.1)=false:=by rfl):PE X (.Call (.Name x p) (e :: es) [] pos) (tCB r t):=by
 intro pins s σ H Q I h;refine g08 (q17 I hg hm hv ?_ hn hdb);exact pz (thn (ha pos pins s σ H _ I h) fun us s1 ⟨vs,H1,I1,r1,q1⟩=>hc pins s1 σ H1 vs us Q I1 r1 q1) he hpl
end
end L2
namespace HT
open PySem PyProof.Rows
section
open PySem.SeqAt
open PySem.AutoSeq1 (wpAny_loadPart')
open PySem.MeetsSeq PySem.MeetsSeq2 PySem.MeetsSeq3
end
section
variable{prog:Program}{w:World}{A:Around}{E:Value->Shared->Prop}{s:Shared}
theorem cat_tup{t b:Addr}{vs ws:List Value}{Q:Value->Shared->Prop}(ht:IsTup s.heap t vs.toArray)(hb:IsTup s.heap b ws.toArray)(hv:vs≠[])
  (h1:ws=[]->Q (.ref t) s) (h2:ws≠[]->Q (.ref s.heap.objs.size) {s with heap:=s.heap.push {cls:=.type "tuple",data:=.seq (vs++ws).toArray} })
  (hsz:vs.length+ws.length<=sizeLine):wpAny (model prog w) A (binaryOp .Add (.ref t) (.ref b)) Q E s:=by
 obtain⟨⟨cls,dd,data,sl⟩,ho,hc,n,hd⟩:=id ht;obtain⟨⟨cls2,dd2,data2,sl2⟩,ho2,hc2,n2,hd2⟩:=id hb;simp only at hc hd hc2 hd2;subst hc hd hc2 hd2;have e:vs.toArray++ws.toArray=(vs++ws).toArray:=by simp
 by_cases hw:ws=[]
 ·exact g2r ⟨_,ho,rfl⟩ ⟨_,ho2,rfl⟩ g2s seq_tuple_add g1m g1e (g15 _ _)
   (tuple_addW1 t b vs.toArray ws.toArray n n2 dd dd2 sl sl2 (by simpa using hv) (by simp [hw])) ⟨ho,ho2,h1 hw⟩
 ·refine g2r ⟨_,ho,rfl⟩ ⟨_,ho2,rfl⟩ g2s seq_tuple_add g1m g1e (g15 _ _)
   (tuple_addW2 t b vs.toArray ws.toArray n n2 dd dd2 sl sl2 (by simpa using hv) (by simpa using hw) (by rw [gf,gf];exact hsz)) ⟨ho,ho2,?_⟩
  rw [e];exact h2 hw
def sIx(n d:Nat): Option Int->Nat
 | none=>d
 | some v=>if v<0 then(v+(n:Int)).toNat else min v.toNat n
theorem sIx_none(n d:Nat): sIx n d none=d:=rfl
theorem sIx_nat(n d k:Nat): sIx n d (some (k:Int))=min k n:=by
 show(if(k:Int)<0 then((k:Int)+(n:Int)).toNat else min (k:Int).toNat n)=min k n;rw [m4 (by omega),uy]
theorem qlu(n d:Nat)(hd:d<=n)(o:Option Int): sIx n d o<=n:=by
 cases o with
 | none=>exact hd
 | some v=>
  show(if v<0 then(v+(n:Int)).toNat else min v.toNat n)<=n
  by_cases hv:v<0
  ·rw [gz hv];omega
  ·rw [m4 hv];exact Nat.min_le_right _ _
theorem qcn(v:Int)(n d:Nat): (if v<0 then max (v+(n:Int)) 0 else min v (n:Int))=((sIx n d (some v):Nat):Int):=by
 show(if v<0 then max (v+(n:Int)) 0 else min v (n:Int))=(((if v<0 then(v+(n:Int)).toNat else min v.toNat n):Nat):Int)
 by_cases hv:v<0
 ·simp only [gz hv];omega
 ·simp only [m4 hv];omega
theorem qdm(lo hi:Option Int)(n:Nat): Builtin.Slice.sliceAdjust lo hi 1 (n:Int)=(((sIx n 0 lo:Nat):Int),((sIx n n hi:Nat):Int)):=by
 have h1:¬((1:Int)<0):=by omega
 unfold Builtin.Slice.sliceAdjust;simp only [h1,g02];refine Prod.ext ?_ ?_
 ·cases lo with
  | none=>rfl
  | some v=>exact qcn v n 0
 ·cases hi with
  | none=>rfl
  | some v=>exact qcn v n n
theorem qdn(i j:Nat): Builtin.Slice.slicePlaces (i:Int) (j:Int) 1=j-i:=by
 unfold Builtin.Slice.slicePlaces;have h1:(1:Int)>0:=by omega
 simp only [h1,pb,Int.ediv_one]
 split <;> omega
theorem q66{v:Value}{o:Option Int}{Q:Option Int->Shared->Prop}(p:IsPart v o)(h:Q o s): wpAny (model prog w) A (Builtin.Slice.slicePartIndex v) Q E s:=by
 cases p with
 | none=>exact slicePart_none h
 | int i t=>exact slicePart_int h
theorem sliceApplied_gen{sl:Addr}{vl vu:Value}{lo hi:Option Int}{n:Nat}{Q:Int×Int×Nat->Shared->Prop}(hs:s.heap.IsSliceOf sl vl vu .none)(pl:IsPart vl lo)(pu:IsPart vu hi)
  (h:Q (((sIx n 0 lo:Nat):Int),1,sIx n n hi-sIx n 0 lo) s):wpAny (model prog w) A (Builtin.Slice.sliceApplied (.ref sl) (pure (n:Int))) Q E s:=by
 obtain⟨os,hos,hcs,hds⟩:=id hs;unfold Builtin.Slice.sliceApplied Builtin.Slice.sliceFields;refine g0 (g0 (mw hos hds (x:=vl) rfl (g0 (mw hos hds (x:=vu) rfl (g0 (mw hos hds (x:=.none) rfl (gb ?_)))))));refine g0 (slicePart_none ?_);show wpAny _ _ (if((1:Int)==0)=true then _ else _) _ _ s;rw [m4 (by decide)];refine g0 (q66 pl (g0 (q66 pu (g0 (gb ?_)))));show wpAny _ _ (match Builtin.Slice.sliceAdjust lo hi 1 (n:Int) with|(lo,hi)=>pure (lo,(1:Int),Builtin.Slice.slicePlaces lo hi 1)) _ _ s;rw [qdm lo hi n];show wpAny _ _ (pure (((sIx n 0 lo:Nat):Int),(1:Int),Builtin.Slice.slicePlaces ((sIx n 0 lo:Nat):Int) ((sIx n n hi:Nat):Int) 1)) _ _ s;rw [qdn];exact gb h
theorem qh9(xs:Array Value)(i k:Nat): ((List.range k).filterMap fun(m:Nat)=>xs[((i:Int)+(m:Int)*1).toNat]?).toArray=((xs.toList.drop i).take k).toArray:=by
 have e:(fun(m:Nat)=>xs[((i:Int)+(m:Int)*1).toNat]?)=fun m=>xs[i+m]? :=by
  funext m
  have:((i:Int)+(m:Int)*1).toNat=i+m:=by omega
  rw [this]
 rw [e];have:=pick_run xs i k;rw [g16] at this;have e2:((fun x=>xs[x]?) ∘ fun x=>i+x)=fun m=>xs[i+m]? :=rfl;rw [e2] at this;rw [this]
theorem getItem_tuple_cut{t sl:Addr}{items:Array Value}{vl vu:Value}{lo hi:Option Int}{Q:Value->Shared->Prop}(ht:IsTup s.heap t items)(hs:s.heap.IsSliceOf sl vl vu .none)(pl:IsPart vl lo)(pu:IsPart vu hi)
  (hw:¬(sIx items.size 0 lo=0/\sIx items.size items.size hi=items.size))
  (h:Q (.ref s.heap.objs.size) {s with heap:=s.heap.push {cls:=.type "tuple",data:=.seq ((items.toList.drop (sIx items.size 0 lo)).take (sIx items.size items.size hi-sIx items.size 0 lo)).toArray} })
  (hsz:items.size<=sizeLine):wpAny (model prog w) A (getItem (.ref t) (.ref sl)) Q E s:=by
 have htake:sizeOk (.seq ((items.toList.drop (sIx items.size 0 lo)).take (sIx items.size items.size hi-sIx items.size 0 lo)).toArray):=by
  show((items.toList.drop (sIx items.size 0 lo)).take (sIx items.size items.size hi-sIx items.size 0 lo)).toArray.size<=sizeLine;rw [gf,p8,g0s,g25];omega
 have hj:sIx items.size items.size hi<=items.size:=qlu _ _ (gp _) hi;obtain⟨os,hos,hcs,hds⟩:=id hs;have hTs:s.TypeIs (.ref sl) "slice" :=⟨os,hos,hcs⟩
 unfold getItem
 try with_reducible refine nv ?_
 first|refine g0 (gb ?_)|skip
 refine g0 (wpAny_sequenceKey ht.typeIs (by decide) ?_);refine g0 (mx (name:=Str.ofString "__getitem__") ht.typeIs nu
  (mm nu ht.typeIs entry_tuple_getitem ?_ (args_tuple_getitem _ _)))
 show wpAny _ _ (Builtin.Tuple.tupleItemsOf (.ref t) >>= _) _ _ s;refine g0 (tupleItemsOf_ ht ?_);refine g0 (g0k hTs ?_);rw [gz (by decide)];refine g0 (sliceApplied_gen hs pl pu ?_);have hno:¬((((sIx items.size 0 lo:Nat):Int)==0&&(1:Int)==1&&(sIx items.size items.size hi-sIx items.size 0 lo)==items.size)=true):=by
  intro q;rw [m6,m6] at q;have q1:((sIx items.size 0 lo:Nat):Int)=0:=eq_of_beq q.1.1;have q2:sIx items.size items.size hi-sIx items.size 0 lo=items.size:=eq_of_beq q.2;exact hw ⟨by omega,by omega⟩
 show wpAny _ _ (if(((sIx items.size 0 lo:Nat):Int)==0&&(1:Int)==1&&(sIx items.size items.size hi-sIx items.size 0 lo)==items.size)=true then _ else _) _ _ s;rw [m4 hno,qh9]
 first
  | exact g0 (m:=Builtin.Tuple.tupleExact _) (nt (gb ⟨_,rfl,gb h⟩) htake)
  | exact g0 (m:=Builtin.Tuple.tupleExact _) (nt (g0 (gb (gb ⟨_,rfl,gb h⟩))) htake)
  | exact g0 (g0 (m:=Builtin.Tuple.tupleExact _) (nt (gb (gb ⟨_,rfl,gb h⟩)) htake))
  | exact g0 (g0 (m:=Builtin.Tuple.tupleExact _) (nt (gb ⟨_,rfl,gb h⟩) htake))
end
end HT
namespace L2
open PySem PySem.Spec PyProof.Rows
abbrev TO:=St->Hp->(Option Int->Hp->Prop)->Prop
def PO(X:Cx)(e:Option Expr)(t:TO): Prop:=
 ∀(pins:List (Addr×Obj)) (s:Shared) (σ : St) (H:Hp) (Q:Option Int->Hp->Prop),Inv X pins σ H s->t σ H Q ->
  wpAny (model X.prog X.w) X.A (evalPart e X.env) (fun u s'=>∃o H',Inv X pins σ H' s'/\IsPart u o/\Q o H') X.xe s
def tNoPart:TO:=fun _ H Q=>Q none H
def qo2(t:TE): TO:=fun σ H Q=>t σ H fun x H1=>∃i,x=.int i/\Q (some i) H1
theorem intsAre_of{ns:List Int}: ∀ {us:List Value},Vals (ns.map V.int) us->IntsAre us ns:=by
 induction ns with
 | nil=>intro us r;rw [g03] at r;cases r;exact .nil
 | cons n ns ih=>
  intro us r;rw [gx] at r;cases r with
  | cons r1 r2=>
   obtain⟨t,e⟩:=r1;subst e;exact .cons n t (ih r2)
section
variable{X:Cx}{e:Expr}{te:TE}{lo hi:Option Expr}{tl th:TO}{pos p2:Pos}
theorem qji:PO X none tNoPart:=by
 intro pins s σ H Q I h;rw [evalPart_none];exact gb ⟨none,H,I,.none,h⟩
theorem qjj(h:PE X e te): PO X (some e) (qo2 te):=by
 intro pins s σ H Q I hw;rw [evalPart_some];refine thn (h pins s σ H _ I hw) fun u s1 ⟨x,H1,I1,r1,q1⟩=>?_;obtain⟨i,rfl,q⟩:=q1;obtain⟨t,rfl⟩:=r1;exact⟨some i,H1,I1,.int i t,q⟩
def SlR(X:Cx)(r:V->Option Int->Option Int->Hp->VK->Prop): Prop:=
 ∀(pins:List (Addr×Obj)) (s:Shared) (σ : St) (H:Hp) (x:V) (v vl vu:Value) (lo hi:Option Int) (sl:Addr) (Q:VK),Inv X pins σ H s->RelV x v->s.heap.IsSliceOf sl vl vu .none->IsPart vl lo->IsPart vu hi->r x lo hi H Q ->
  ∃T id,typeLookup (.type T) "__getitem__" = pure (some (.builtin id))/\s.TypeIs v T/\wpAny (model X.prog X.w) X.A (getItem v (.ref sl)) (EP X pins σ Q) X.xe s
theorem SlR.or{r r':V->Option Int->Option Int->Hp->VK->Prop}(h:SlR X r)(h':SlR X r'): SlR X (fun x lo hi H Q=>r x lo hi H Q\/r' x lo hi H Q):=by
 intro pins s σ H x v vl vu lo hi sl Q I rx hs pl pu q;rcases q with q|q
 ·exact h pins s σ H x v vl vu lo hi sl Q I rx hs pl pu q
 ·exact h' pins s σ H x v vl vu lo hi sl Q I rx hs pl pu q
def tSl(r:V->Option Int->Option Int->Hp->VK->Prop)(te:TE)(tl th:TO): TE:=fun σ H Q=>te σ H fun x H1=>tl σ H1 fun l H2=>th σ H2 fun u H3=>r x l u H3 Q
theorem qha{r:V->Option Int->Option Int->Hp->VK->Prop}(hr:SlR X r)(he:PE X e te)(hl:PO X lo tl)(hu:PO X hi th): PE X (.Subscript e (.Slice lo hi none p2) pos) (tSl r te tl th):=by
 intro pins s σ H Q I h;refine Subscript_ (thn (he pins s σ H _ I h) fun v s1 ⟨x,H1,I1,r1,q1⟩=>?_);refine wpAny_Slice (thn (hl pins s1 σ H1 _ I1 q1) fun vl s2 ⟨l,H2,I2,pl,q2⟩=>thn (hu pins s2 σ H2 _ I2 q2) fun vu s3 ⟨u,H3,I3,pu,q3⟩=>?_);rw [evalPart_none];refine gb ?_;have I4:Inv X pins σ H3 {s3 with heap:=s3.heap.push {cls:=.type "slice",data:=.fields #[vl,vu,.none]} }:=I3.kept (t':=s3.toks) fun b ob q=>gc _ q;obtain⟨T,id,hT,ht,hg⟩:=hr pins {s3 with heap:=s3.heap.push {cls:=.type "slice",data:=.fields #[vl,vu,.none]} } σ H3 x v vl vu l u s3.heap.objs.size Q I4 r1 (Heap.IsSliceOf.new ..) pl pu q3;show wpAny (model X.prog X.w) X.A (subscriptTail e (.Slice lo hi none p2) v (.ref s3.heap.objs.size)) (EP X pins σ Q) X.xe {s3 with heap:=s3.heap.push {cls:=.type "slice",data:=.fields #[vl,vu,.none]} };exact tail_any (ops:=[.ref s3.heap.objs.size,v]) ht hT hg (by with_unfolding_all rfl)
def q0n(xs:List V)(lo hi:Option Int): List V:=(xs.drop (HT.sIx xs.length 0 lo)).take (HT.sIx xs.length xs.length hi-HT.sIx xs.length 0 lo)
theorem q57(xs:List V)(lo hi:Option Int): (q0n xs lo hi).length<=xs.length:=by
 unfold q0n;rw [p8,g0s];omega
def qp8(K:PySem.W.Frag): V->Option Int->Option Int->Hp->VK->Prop:=fun x lo hi H Q=>∃a xs,x=.ref a/\SqT K H a xs /\
 ¬(HT.sIx xs.length 0 lo=0/\HT.sIx xs.length xs.length hi=xs.length)/\∀p,H p=none->Q (.ref p) (upd H p (.tup (q0n xs lo hi)))
theorem sl_tup:SlR X (qp8 X.K):=by
 intro pins s σ H x v vl vu lo hi sl Q I rx hs pl pu h;obtain⟨a,xs,rfl,hx,hw,q⟩:=h;cases rx;obtain⟨its,r,ht,hz⟩:=I.tuple hx;have hlen:its.toArray.size=xs.length:=by rw [gf];exact r.length.symm
 refine⟨"tuple",_,nu.lookup,ht.typeIs,?_⟩;refine HT.getItem_tuple_cut ht hs pl pu (by rw [hlen];exact hw) ?_ (by rw [hlen];exact hz);rw [hlen];refine⟨.ref s.heap.objs.size,_,I.laid (t':=s.toks) (o:=.tup (q0n xs lo hi)) (fun b ob q=>gc _ q) (gp _) ?_,rfl,q _ (I.hok.fresh (gp _))⟩;exact⟨my (q57 xs lo hi) hz,_,(r.drop (HT.sIx xs.length 0 lo)).take (HT.sIx xs.length xs.length hi-HT.sIx xs.length 0 lo),IsTup.new _ _⟩
def qo3(K:PySem.W.Frag): R2:=fun x y H Q=>∃a b xs ys,x=.ref a/\y=.ref b/\SqT K H a xs/\SqT K H b ys/\xs≠[]/\xs.length+ys.length<=sizeLine /\
 (ys=[]->Q (.ref a) H)/\(ys≠[]->∀p,H p=none->Q (.ref p) (upd H p (.tup (xs++ys))))
theorem Vals.nil_iff{xs:List V}{us:List Value}(r:Vals xs us): us=[]↔xs=[]:=by
 cases r with
 | nil=>simp
 | cons _ _=>simp
theorem qjk:OpR X (binaryOp .Add) (qo3 X.K):=by
 intro pins s σ H x y v u Q I rx ry h;obtain⟨a,b,xs,ys,rfl,rfl,ha,hb,hx,hz,q1,q2⟩:=h;cases rx;cases ry;obtain⟨its,r1,p1,_⟩:=I.tuple ha;obtain⟨its2,r2,p2,_⟩:=I.tuple hb;refine HT.cat_tup p1 p2 (fun z=>hx (r1.nil_iff.mp z)) (fun z=>⟨.ref a,H,I,rfl,q1 (r2.nil_iff.mp z)⟩) (fun z=>?_) (by rw [<- r1.length, <- r2.length];exact hz);refine⟨.ref s.heap.objs.size,_,I.laid (t':=s.toks) (o:=.tup (xs++ys)) (fun b ob q=>gc _ q) (gp _) ?_,rfl,q2 (fun w=>z (r2.nil_iff.mpr w)) _ (I.hok.fresh (gp _))⟩;exact⟨by rw [m8];exact hz,_,r1.append r2,IsTup.new _ _⟩
end
def ixN(n:Nat)(i:Int): Option Nat:=if 0<=i then(if i<n then some i.toNat else none) else if -(n:Int)<=i then some (i+n).toNat else none
def atI{α : Type}(xs:List α)(i:Int): Option α :=(ixN xs.length i).bind fun j=>xs[j]?
theorem qjl{n:Nat}{i:Int}{j:Nat}(h:ixN n i=some j): seqIndex? i n=some j/\j<n /\ -(n:Int)<=i/\i<n:=by
 unfold ixN at h
 by_cases h0:0<=i
 ·rw [gz h0] at h
  by_cases h1:i<n
  ·rw [gz h1] at h
   have e:i.toNat=j:=mh h;exact⟨by rw [seqIndex_of h0 h1,e],by omega,by omega,h1⟩
  ·rw [m4 h1] at h;cases h
 ·rw [m4 h0] at h
  by_cases h1 : -(n:Int)<=i
  ·rw [gz h1] at h
   have e:(i+n).toNat=j:=mh h;exact⟨by rw [seqIndex_neg (by omega) h1,e],by omega,h1,by omega⟩
  ·rw [m4 h1] at h;cases h
theorem q7g{α : Type}{xs:List α}{i:Int}{v : α}(h:atI xs i=some v): ∃j,seqIndex? i xs.length=some j/\xs[j]? = some v/\j<xs.length /\ -(xs.length:Int)<=i/\i<xs.length:=by
 unfold atI at h;cases e:ixN xs.length i with
 | none=>rw [e] at h;cases h
 | some j=>
  rw [e] at h;obtain⟨h1,h2,h3,h4⟩:=qjl e;exact⟨j,h1,h,h2,h3,h4⟩
def qco(b:Expr): Prop:=∀o i,subscripted b false o i=operate [o,i] (getItem o i)
def IxR(X:Cx)(r:R2): Prop:=
 ∀(value slice:Expr) (pins:List (Addr×Obj)) (s:Shared) (σ : St) (H:Hp) (x y:V) (v u:Value) (Q:VK),Inv X pins σ H s->RelV x v->RelV y u->r x y H Q ->
  subscripted slice false v u=operate [v,u] (getItem v u)->wpAny (model X.prog X.w) X.A (subscriptTail value slice v u) (EP X pins σ Q) X.xe s
def MtR(X:Cx)(id:String)(r:V->List V->Hp->VK->Prop): Prop:=
 ∀(pins:List (Addr×Obj)) (s:Shared) (σ : St) (H:Hp) (x:V) (xs:List V) (v:Value) (us:List Value) (Q:VK),Inv X pins σ H s->RelV x v->Vals xs us->r x xs H Q ->
  wpAny (model X.prog X.w) X.A (call (.builtin id) (v :: us)) (EP X pins σ Q) X.xe s
section
variable{X:Cx}{a b:Expr}{ta tb:TE}{pos:Pos}
theorem IxR.or{r r':R2}(h:IxR X r)(h':IxR X r'): IxR X (fun x y H Q=>r x y H Q\/r' x y H Q):=by
 intro value slice pins s σ H x y v u Q I rx ry q hs;rcases q with q|q
 ·exact h value slice pins s σ H x y v u Q I rx ry q hs
 ·exact h' value slice pins s σ H x y v u Q I rx ry q hs
theorem qo4{r:R2}(hr:IxR X r)(ha:PE X a ta)(hb:PE X b tb)(hs:qco b): PE X (.Subscript a b pos) (tOp r ta tb):=by
 intro pins s σ H Q I h;exact Subscript_ (qh2 ha hb I h fun v u s2 x y H2 I2 rx ry q=>hr a b pins s2 σ H2 x y v u Q I2 rx ry q (hs _ _))
def qlv(K:PySem.W.Frag): R2:=fun x y H Q=>∃p xs i v,x=.ref p/\y=.int i/\SqL K H p xs/\atI xs i=some v/\Q v H
def qlw(K:PySem.W.Frag): R2:=fun x y H Q=>∃p xs i v,x=.ref p/\y=.int i/\SqT K H p xs/\atI xs i=some v/\Q v H
def rIxS:R2:=fun x y H Q=>∃z i c,x=.str z/\y=.int i/\z.length<=sizeLine/\atI z.cps.toList i=some c/\Q (.str ⟨#[c]⟩) H
theorem ix_list:IxR X (qlv X.K):=by
 intro value slice pins s σ H x y v u Q I rx ry h hs;obtain⟨p,xs,i,z,rfl,rfl,hq,he,q⟩:=h;cases rx;obtain⟨t,rfl⟩:=ry;obtain⟨its,r,pl,hz⟩:=I.list hq;obtain⟨j,h1,h2,h3,h4,h5⟩:=q7g he;obtain⟨w,ew,rw'⟩:=r.get h2;have hl:=r.length;have hn:=q3o;have fin:EP X pins σ Q w s:=⟨z,H,I,rw',q⟩
 by_cases h0:0<=i
 ·have hj:i.toNat=j:=by
   rw [seqIndex_of h0 h5] at h1;exact mh h1
  exact item_listR pl.isList h0 (by omega) (by rw [hj];simpa using ew) fin hs
 ·have hj:(i+(its.toArray.size:Int)).toNat=j:=by
   rw [seqIndex_neg (by omega) h4] at h1;rw [gf, <- hl];exact mh h1
  exact subscriptTail_builtinR (x:=w) pl.isList.typeIs slot_list_getitem.lookup
   (wpAny_getItem_list_neg (Q:=fun r s'=>r=w/\EP X pins σ Q r s') pl.isList (by omega) (by rw [gf] <;> omega) (by omega) (by rw [hj];simpa using ew) ⟨rfl,fin⟩) hs
theorem ix_tup:IxR X (qlw X.K):=by
 intro value slice pins s σ H x y v u Q I rx ry h hs;obtain⟨p,xs,i,z,rfl,rfl,hq,he,q⟩:=h;cases rx;obtain⟨t,rfl⟩:=ry;obtain⟨its,r,pl,hz⟩:=I.tuple hq;obtain⟨j,h1,h2,h3,h4,h5⟩:=q7g he;obtain⟨w,ew,rw'⟩:=r.get h2;have hl:=r.length;have hn:=q3o;have fin:EP X pins σ Q w s:=⟨z,H,I,rw',q⟩
 exact subscriptTail_builtinR (x:=w) pl.typeIs slot_tuple_getitem.lookup
  (getItem_tuple (j:=j) (Q:=fun r s'=>r=w/\EP X pins σ Q r s') pl (by omega) (by omega) (by rw [gf, <- hl];exact h1) (by simpa using ew) ⟨rfl,fin⟩) hs
theorem qlx:IxR X rIxS:=by
 intro value slice pins s σ H x y v u Q I rx ry h hs;obtain⟨z,i,c,rfl,rfl,hz,he,q⟩:=h;obtain⟨t,rfl⟩:=rx;obtain⟨t',rfl⟩:=ry;obtain⟨j,h1,h2,h3,h4,h5⟩:=q7g he;have hl:z.cps.toList.length=z.length:=by simp [Str.length]
 rw [hl] at h1 h4 h5;have hn:=q3o;exact tail_any (typeIs_str s z t) slot_str_getitem.lookup (getItem_str (c:=c) (by
  have e1:decide (i < -(2 ^ 63:Int))=false:=m3 (by omega);have e2:decide (i>=2 ^ 63)=false:=m3 (by omega);rw [e1,e2,g3j]) (by rw [h1];simpa using h2) ⟨.str ⟨#[c]⟩,H,I.tok _,⟨_,rfl⟩,q⟩) hs
def rIx(K:PySem.W.Frag): R2:=fun x y H Q=>qlv K x y H Q\/qlw K x y H Q\/rIxS x y H Q
theorem qly:IxR X (rIx X.K):=ix_list.or (ix_tup.or qlx)
theorem q9o(lo hi:Option Int)(n:Nat): (sliceBounds lo hi none n).1=((HT.sIx n 0 lo:Nat):Int)/\(sliceBounds lo hi none n).2.1=((HT.sIx n n hi:Nat):Int)/\(sliceBounds lo hi none n).2.2=1:=by
 refine⟨?_,?_,rfl⟩
 ·cases lo with
  | none=>simp [sliceBounds,HT.sIx]
  | some i=>
   simp only [sliceBounds,HT.sIx,Option.getD_none,show(1:Int)>0 by decide,pb]
   by_cases h:i<0
   ·simp only [h,pb] <;> omega
   ·simp only [h,g02] <;> omega
 ·cases hi with
  | none=>simp [sliceBounds,HT.sIx]
  | some i=>
   simp only [sliceBounds,HT.sIx,Option.getD_none,show(1:Int)>0 by decide,pb]
   by_cases h:i<0
   ·simp only [h,pb] <;> omega
   ·simp only [h,g02] <;> omega
theorem q90(its:List Value)(lo hi:Option Int): slicePick its.toArray lo hi none=((its.drop (HT.sIx its.length 0 lo)).take (HT.sIx its.length its.length hi-HT.sIx its.length 0 lo)).toArray:=by
 obtain⟨h1,h2,h3⟩:=q9o lo hi its.toArray.size;unfold slicePick;rw [h1,h2,h3];simp only [sliceRange_one,pick_run,gf] <;> rfl
def qp9(K:PySem.W.Frag): V->Option Int->Option Int->Hp->VK->Prop:=fun x lo hi H Q=>∃a xs,x=.ref a/\SqL K H a xs/\∀p,H p=none->Q (.ref p) (upd H p (.lst (q0n xs lo hi)))
theorem sl_list:SlR X (qp9 X.K):=by
 intro pins s σ H x v vl vu lo hi sl Q I rx hs pl pu h;obtain⟨a,xs,rfl,hx,q⟩:=h;cases rx;obtain⟨its,r,ht,hz⟩:=I.list hx;have hlen:=r.length;refine⟨"list",_,slot_list_getitem.lookup,ht.isList.typeIs,?_⟩;refine wpAny_getItem_list_slice ht.isList hs pl pu .none (by simp) ?_ (by rw [gf] <;> omega);rw [q90, <- hlen];refine⟨.ref s.heap.objs.size,_,I.laid (t':=s.toks) (o:=.lst (q0n xs lo hi)) (fun b ob q=>gc _ q) (gp _) ?_,rfl,q _ (I.hok.fresh (gp _))⟩;exact⟨my (q57 xs lo hi) hz,_,0,(r.drop (HT.sIx xs.length 0 lo)).take (HT.sIx xs.length xs.length hi-HT.sIx xs.length 0 lo),gi _ rfl⟩
def ku:V->Bool
 | .non=>true
 | .bl _=>true
 | .int _=>true
 | .str _=>true
 | _=>false
def eqV:V->V->Bool
 | .non,.non=>true
 | .bl a,.bl b=>a==b
 | .bl a,.int b=>(if a then 1 else 0)==b
 | .int a,.bl b=>a==(if b then 1 else 0)
 | .int a,.int b=>a==b
 | .str a,.str b=>a==b
 | _,_=>false
theorem qfc{A:Around}{s:Shared}{y x:V}{u v:Value}(ry:RelV y u)(rx:RelV x v)(fy:ku y=true)(fx:ku x=true): SeqAt.EqAt A s u v (eqV y x):=by
 cases y with
 | non=>
  cases ry;cases x with
  | non=>cases rx;exact g33 _
  | bl b=>cases rx;exact SeqAt.EqAt.none_bool b
  | int b=>obtain⟨t,rfl⟩:=rx;exact SeqAt.EqAt.none_int b t
  | str b=>obtain⟨t,rfl⟩:=rx;exact SeqAt.EqAt.none_str b t
  | _=>exact absurd (show false=true from fx) gj
 | bl a=>
  cases ry;cases x with
  | non=>cases rx;exact SeqAt.EqAt.bool_none a
  | bl b=>cases rx;exact SeqAt.EqAt.bool_bool a b
  | int b=>obtain⟨t,rfl⟩:=rx;exact SeqAt.EqAt.bool_int a b t
  | str b=>obtain⟨t,rfl⟩:=rx;exact SeqAt.EqAt.bool_str a b t
  | _=>exact absurd (show false=true from fx) gj
 | int a=>
  obtain⟨t',rfl⟩:=ry;cases x with
  | non=>cases rx;exact SeqAt.EqAt.int_none a t'
  | bl b=>cases rx;exact SeqAt.EqAt.int_bool a t' b
  | int b=>obtain⟨t,rfl⟩:=rx;exact SeqAt.EqAt.int_int a t' b t
  | str b=>obtain⟨t,rfl⟩:=rx;exact SeqAt.EqAt.int_str a t' b t
  | _=>exact absurd (show false=true from fx) gj
 | str a=>
  obtain⟨t',rfl⟩:=ry;cases x with
  | non=>cases rx;exact SeqAt.EqAt.str_none a t'
  | bl b=>cases rx;exact SeqAt.EqAt.str_bool a t' b
  | int b=>obtain⟨t,rfl⟩:=rx;exact SeqAt.EqAt.str_int a t' b t
  | str b=>obtain⟨t,rfl⟩:=rx;exact SeqAt.EqAt.str_str a t' b t
  | _=>exact absurd (show false=true from fx) gj
 | _=>exact absurd (show false=true from fy) gj
def eqU(x:V)(u:Value): Bool:=match u with
 | .none=>eqV .non x
 | .bool b=>eqV (.bl b) x
 | .int i _=>eqV (.int i) x
 | .str z _=>eqV (.str z) x
 | _=>false
theorem qfd{x y:V}{u:Value}(r:RelV y u)(f:ku y=true): eqU x u=eqV y x:=by
 cases y with
 | non=>cases r;rfl
 | bl b=>cases r;rfl
 | int i=>obtain⟨t,rfl⟩:=r;rfl
 | str z=>obtain⟨t,rfl⟩:=r;rfl
 | _=>exact absurd (show false=true from f) gj
theorem q7h{x:V}: ∀ {xs:List V} {us:List Value},Vals xs us->xs.all ku=true->us.any (eqU x)=xs.any fun y=>eqV y x
 | _,_,.nil,_=>rfl
 | y :: xs,u :: us,.cons r t,f=>by
  rw [g1n,m6] at f;rw [g3k,g3k,qfd r f.1,q7h t f.2]
theorem q5j{A:Around}{s:Shared}{x:V}{v:Value}(rx:RelV x v)(fx:ku x=true): ∀ {xs:List V} {us:List Value},Vals xs us->xs.all ku=true->∀u∈us,SeqAt.EqAt A s u v (eqU x u)
 | _,_,.nil,_=>fun u hu=>by cases hu
 | y :: xs,u :: us,.cons r t,f=>fun u' hu=>by
  rw [g1n,m6] at f;rcases gm.mp hu with rfl|hu
  ·rw [qfd r f.1];exact qfc r rx f.1 fx
  ·exact q5j rx fx t f.2 u' hu
def inV(x:V)(xs:List V): Bool:=xs.any fun y=>eqV y x
def rIn(K:PySem.W.Frag)(neg:Bool): R2:=fun x y H Q=>∃p xs,y=.ref p/\(SqL K H p xs\/SqT K H p xs)/\ku x=true/\xs.all ku=true/\Q (.bl (if neg then !inV x xs else inV x xs)) H
theorem q9p:OpR X (compareOp .NotIn) (rIn X.K true):=by
 intro pins s σ H x y v u Q I rx ry h;obtain⟨p,xs,rfl,hq,fx,fs,q⟩:=h;cases ry;rcases hq with hq|hq
 ·obtain⟨its,r,pl,hz⟩:=I.list hq
  refine SeqAt.notIn_listAt (eqU x) pl.isList (fun w hw=>q5j rx fx r fs w (by simpa using hw)) ⟨.bl _,H,I,rfl,?_⟩;rw [show its.toArray.any (eqU x)=its.any (eqU x) by simp,q7h r fs];exact q
 ·obtain⟨its,r,pl,hz⟩:=I.tuple hq
  refine SeqAt.notIn_tupleAt (eqU x) pl (fun w hw=>q5j rx fx r fs w (by simpa using hw)) ⟨.bl _,H,I,rfl,?_⟩;rw [show its.toArray.any (eqU x)=its.any (eqU x) by simp,q7h r fs];exact q
theorem q9q:zi X (.type "list") (fun xs H Q=>∃p ys,xs=[.ref p]/\(SqL X.K H p ys\/SqT X.K H p ys)/\∀l,H l=none->Q (.ref l) (upd H l (.lst ys))):=by
 intro pins s σ H xs us Q I r h;obtain⟨p,ys,rfl,hq,q⟩:=h;obtain⟨u,rfl,rx⟩:=vals1 r;cases rx;have fin:∀(its:List Value),Vals ys its->ys.length<=sizeLine->∀(h':Heap) (c':Nat),(∀b o',s.heap.get? b=some o'->h'.get? b=some o') ->
   h'.get? s.heap.objs.size=some {cls:=.type "list",dict:=none,data:=.seq its.toArray c',slots:= #[]}->EP X pins σ Q (.ref s.heap.objs.size) {s with heap:=h'}:=fun its r' hz h' c' kp e=>
  ⟨.ref s.heap.objs.size,_,I.laid (t':=s.toks) kp (gp _) (show ObjOk X.prog X.w _ h' _ (.lst ys) from⟨hz,its,c',r',e⟩),rfl,q _ (I.hok.fresh (gp _))⟩
 rcases hq with hq|hq
 ·obtain⟨its,r',pl,hz⟩:=I.list hq
  have hlen:=r'.length;obtain⟨o,ho,hc,n,hd⟩:=pl.isList;exact call_list_seq p (.inl rfl) ho hc hd (fun h' c' kp e=>fin its r' hz h' c' kp e) (by simp only [gf] <;> omega)
 ·obtain⟨its,r',pl,hz⟩:=I.tuple hq
  have hlen:=r'.length;obtain⟨o,ho,hc,n,hd⟩:=pl;exact call_list_seq p (.inr rfl) ho hc hd (fun h' c' kp e=>fin its r' hz h' c' kp e) (by simp only [gf] <;> omega)
theorem q91:zi X (.type "tuple") (fun xs H Q=>∃p ys,xs=[.ref p]/\((SqL X.K H p ys/\∀l,H l=none->Q (.ref l) (upd H l (.tup ys)))\/(SqT X.K H p ys/\Q (.ref p) H))):=by
 intro pins s σ H xs us Q I r h;obtain⟨p,ys,rfl,h⟩:=h;obtain⟨u,rfl,rx⟩:=vals1 r;cases rx;rcases h with⟨hq,q⟩|⟨hq,q⟩
 ·obtain⟨its,r',pl,hz⟩:=I.list hq
  have hlen:=r'.length;refine call_tuple_list pl.isList (fun h' kp=>?_) (by simp only [gf] <;> omega);have I1:Inv X pins σ H {s with heap:=h'}:=I.kept (t':=s.toks) kp;have I2:Inv X pins σ (upd H h'.objs.size (.tup ys)) {s with heap:=h'.push {cls:=.type "tuple",data:=.seq its.toArray} }:=
   I1.laid (t':=s.toks) (fun b o e=>gc _ e) (gp _) (show ObjOk X.prog X.w _ _ _ (.tup ys) from⟨hz,its,r',IsTup.new _ _⟩)
  exact⟨.ref h'.objs.size,_,I2,rfl,q _ (I1.hok.fresh (gp _))⟩
 ·obtain⟨its,r',pl,hz⟩:=I.tuple hq
  exact call_tuple_same pl ⟨.ref p,H,I,rfl,q⟩
def tyV(K:PySem.W.Frag)(T:String)(x:V)(H:Hp): Prop:=match x with
 | .str _=>T="str"
 | .int _=>T="int"
 | .ref p=>(T="list" /\ ∃xs,SqL K H p xs)\/(T="tuple" /\ ∃o,K.lookup p=some o/\o.cls=.type "tuple" /\ o.dict=none) \/
   (T="dict" /\ ((∃kvs,H p=some (.dK kvs))\/∃kvs,H p=some (.dT kvs)))\/(T="set" /\ ∃S n,H p=some (.set S n))
 | _=>False
theorem qlz{pins:List (Addr×Obj)}{σ : St}{H:Hp}{s:Shared}{T:String}{x:V}{v:Value}(I:Inv X pins σ H s)(r:RelV x v)(ty:tyV X.K T x H):
  s.TypeIs v T/\∀a,v=.ref a->∃ob,s.heap.get? a=some ob/\ob.dict=none:=by
 cases x with
 | str z=>
  obtain⟨t,rfl⟩:=r;cases(show T="str" from ty);exact⟨typeIs_str s z t,fun _ e=>nomatch e⟩
 | int i=>
  obtain⟨t,rfl⟩:=r;cases(show T="int" from ty);exact⟨typeIs_int s i t,fun _ e=>nomatch e⟩
 | ref p=>
  cases r;rcases ty with⟨rfl,xs,hq⟩|⟨rfl,o,hk,hc,hd⟩|⟨rfl,hk⟩|⟨rfl,S,n,hk⟩
  ·obtain⟨its,_,pl,_⟩:=I.list hq
   refine⟨pl.isList.typeIs,fun a e=>?_⟩;cases e;obtain⟨o,n,e,c,hd,_⟩:=pl;exact⟨o,e,hd⟩
  ·refine⟨⟨o,I.kIn p o hk,hc⟩,fun a e=>?_⟩
   cases e;exact⟨o,I.kIn _ o hk,hd⟩
  ·have z:∃o,s.heap.get? p=some o/\o.ExactDict:=by
    rcases hk with⟨kvs,hk⟩|⟨kvs,hk⟩
    ·obtain⟨_,_,_,_,o,_,_,e,ex,_⟩:=I.hok p _ hk
     exact⟨o,e,ex⟩
    ·obtain⟨_,_,_,_,o,_,_,e,ex,_⟩:=I.hok p _ hk
     exact⟨o,e,ex⟩
   obtain⟨o,e,ex⟩:=z;refine⟨⟨o,e,ex.1⟩,fun a e2=>?_⟩;cases e2;exact⟨o,e,ex.2.1⟩
  ·obtain⟨o,_,_,_,e,ex,_⟩:=I.hok p _ hk
   refine⟨⟨o,e,ex.1⟩,fun a e2=>?_⟩;cases e2;exact⟨o,e,ex.2.1⟩
 | _=>exact False.elim ty
def tBM(K:PySem.W.Frag)(T:String)(r:V->List V->Hp->VK->Prop)(to:TE)(t:TA): TE:=fun σ H Q=>to σ H fun x H1=>tyV K T x H1/\t σ H1 fun xs H2=>r x xs H2 Q
variable{o e:Expr}{es:List Expr}{to:TE}{t:TA}{name:Str}{apos cpos:Pos}{T id:String}{r:V->List V->Hp->VK->Prop}
theorem qj3(pa:PlainAttrs T)(slot:Slot T name id)(hty:typeOf (.builtin id)=pure (.type "method_descriptor"))(hm:MtR X id r)(ho:PE X o to)(ha:PA X (e :: es) t)
  (hbase:attributeBase o name X.env (eval o X.env)=eval o X.env:=by rfl)
  (hfew:((backTo cpos (starEach (e :: es) X.env)).all (fun x=> !x.1)&&(backToKw cpos (keywordEach [] X.env)).all (fun x=>x.1.isSome)
   && decide ((e :: es).length+([]:List Keyword).length+(if([]:List Keyword).isEmpty then 0 else 1)<30))=true:=by rfl)
  (hline:(apos.endLine==cpos.line)=true:=by rfl) (hs:starEach (e :: es) X.env=(false,eval e X.env) :: starEach es X.env:=by rfl) (hplain:(backTo cpos (starEach es X.env)).any (·.1)=false:=by rfl) :
  PE X (.Call (.Attribute o name apos) (e :: es) [] cpos) (tBM X.K T r to t):=by
 intro pins s σ H Q I h;refine wpAny_Call_method_late hbase hfew hline rfl (thn (ho pins s σ H _ I h) fun v s1 ⟨x,H1,I1,r1,ty,q1⟩=>?_);obtain⟨h1,h2⟩:=qlz I1 r1 ty;refine⟨T,id,pa,slot,hty,h1,h2,?_⟩;have hA:=ha cpos pins s1 σ H1 _ I1 q1;rw [hs] at hA ⊢;refine Calls.callWith_builtin (by show(false || (backTo cpos (starEach es X.env)).any (·.1))=false;rw [hplain] <;> rfl) (Calls.evalArgs_plain ?_);exact thn hA fun us s2 ⟨vs,H2,I2,r2,q2⟩=>hm pins s2 σ H2 x vs v us Q I2 r1 r2 q2
end
def MtM(X:Cx)(id:String)(r:V->List V->Hp->VK->Prop): Prop:=
 ∀(pins:List (Addr×Obj)) (s:Shared) (σ : St) (H:Hp) (x:V) (xs:List V) (v:Value) (us:List Value) (Q:VK),Inv X pins σ H s->RelV x v->Vals xs us->r x xs H Q ->
  wpAny (model X.prog X.w) X.A (call (.builtin id) (v :: us)) (EP X pins σ Q) X.xe s
theorem Vals.one:∀ {x:V} {us:List Value},Vals [x] us->∃u,us=[u]/\RelV x u
 | _,_,.cons r .nil=>⟨_,rfl,r⟩
theorem Vals.two:∀ {x y:V} {us:List Value},Vals [x,y] us->∃u v,us=[u,v]/\RelV x u/\RelV y v
 | _,_,_,.cons r (.cons q .nil)=>⟨_,_,rfl,r,q⟩
section
variable{X:Cx}{pins:List (Addr×Obj)}{σ : St}{H:Hp}{s:Shared}{l b:Addr}{xs ys zs:List V}
theorem Inv.lset{its its':List Value}{n:Nat}{f:Array Value->Array Value}{t':Nat}(I:Inv X pins σ H s)(hH:H l=some (.lst xs))
  (e:s.heap.get? l=some {cls:=.type "list",data:=.seq its.toArray n}) (hf:f its.toArray=its'.toArray) (hv:Vals ys its') (hz:ys.length<=sizeLine) :
  Inv X pins σ (upd H l (.lst ys)) {s with heap:=s.heap.update l (Obj.mapSeq f),toks:=t'}:=by
 have q:=PySem.IsL.update e f;rw [hf] at q;refine I.write (x:=l) (e:=l) (by rw [hH];exact trivial) (.inl rfl) (fun b' u hb hu=>(uc s.heap (Obj.mapSeq f) (gw hb)).trans hu) ⟨_,q⟩ ?_;exact⟨hz,its',_,hv,q⟩
theorem Inv.lnew{its:List Value}{t':Nat}(I:Inv X pins σ H s)(hv:Vals ys its)(hz:ys.length<=sizeLine):
  Inv X pins σ (upd H s.heap.objs.size (.lst ys)) {s with heap:=s.heap.push {cls:=.type "list",data:=.seq its.toArray},toks:=t'}:=
 I.laid (fun _ _ q=>gc _ q) (gp _) ⟨hz,its,0,hv,gi _ rfl⟩
theorem Inv.fresh(I:Inv X pins σ H s): H s.heap.objs.size=none:=I.hok.fresh (gp _)
theorem Inv.lstM(I:Inv X pins σ H s)(hH:H l=some (.lst xs)): xs.length<=sizeLine/\∃(its:List Value) (n:Nat),Vals xs its/\xs.length=its.length/\s.heap.get? l=some {cls:=.type "list",data:=.seq its.toArray n}:=by
 obtain⟨z,its,n,r,e⟩:=I.hok l _ hH;exact⟨z,its,n,r,r.length,e⟩
theorem qhb{n:Nat}(h:n<=sizeLine): Builtin.List.listTooLong n=false:=by
 unfold Builtin.List.listTooLong;exact m3 (by omega)
end
section
variable{X:Cx}
def rAppend:V->List V->Hp->VK->Prop:=fun x vs H Q=>∃l xs y,x=.ref l/\vs=[y]/\H l=some (.lst xs)/\xs.length<sizeLine/\Q .non (upd H l (.lst (xs++[y])))
theorem q85:MtM X "list.append" rAppend:=by
 intro pins s σ H x vs v us Q I rx rv h;obtain⟨l,xs,y,rfl,rfl,hH,hz,q⟩:=h;cases rx;obtain⟨u,rfl,ru⟩:=rv.one;obtain⟨z,its,n,r,hl,e⟩:=I.lstM hH;refine g1v F.slot_list_append ⟨_,e,rfl⟩ F.entry_list_append (F.args_list_append_2 _ _) (PySem.list_append l its.toArray n u (by rw [gf];omega)) ⟨e,?_⟩;refine⟨.non,_,I.lset (its':=its++[u]) hH e (by simp) (r.append (.cons ru .nil)) ?_,rfl,q⟩;rw [m8,g3b];omega
end
section
variable{prog:Program}{w:World}{A:Around}{E:Value->Shared->Prop}{s:Shared}
end
section
variable{X:Cx}
end
end L2
namespace Att
open PySem PySem.W PySem.Calls PyProof.Rows
theorem q67{P:Params}{h:Heap}: ∀(ns:List Int) (vs:List Value),WellAll P h vs (ns.map WData.int)->IntsAre vs ns:=by
 intro ns
 induction ns with
 | nil=>
  intro vs w;rw [g03] at w;cases w;exact .nil
 | cons n ns ih=>
  intro vs w;rw [gx] at w;cases w with
  | cons a b=>
   cases a;exact .cons _ _ (ih _ b)
theorem qfe{l:OpenLaw}{n:Nat}(hn:l.most=some n){P:Params}{h:Heap}{args:List WData}{vals:List Value}
  (hpre:l.row.toRowW.claim.pre args=true) (hwl:WellAll P h vals args) :
  ∃a vs ns,vals=[Value.ref a]/\args=[WData.list (ns.map WData.int)]/\h.get? a=some {cls:=.type "list",data:=.seq vs.toArray}/\IntsAre vs ns/\ns.length<=n:=by
 have hsh:WShape.hasAll [] args [.list .int]=true:=(pre_splitW hpre).1;have hc:l.pre.holds [] {args:=args}=true:=(pre_splitW hpre).2;obtain⟨d,r,rfl,h1,h2⟩:=hasAllW_cons hsh;obtain rfl:=hasAllW_nil h2;obtain⟨xs,rfl,h3⟩:=hasW_list h1;obtain⟨ns,rfl⟩:=items_int h3;have hlen:ns.length<=n:=by
  unfold OpenLaw.pre at hc;have h4:(WTm.not (.lt (.lit (.int (n:Int))) (.len (.arg 0)))).holds [] {args:=[.list (ns.map .int)]}=true:=by
   have h4:=(holds_andW hc).1;rw [hn] at h4;exact h4
  have h5:=condW_of h4 (w_not (w_lt w_lit (w_len_list (w_arg rfl))));rw [mj] at h5;refine Nat.le_of_not_lt fun q=>?_;have q':(n:Int)<((ns.length:Nat):Int):=by omega
  first
   | (rw [md q'] at h5;exact absurd h5 (by decide))
   | (simp at h5;omega)
 cases hwl with
 | cons w1 w2=>
  cases w2;cases w1 with
  | list ho hall=>exact⟨_,_,ns,rfl,rfl,ho,q67 ns _ hall,hlen⟩
theorem qff(l:OpenLaw)(args:List WData): l.row.toRowW.claim.post args (.bool true) args=true:=
 postW_of (r:=l.row.toRowW) (X:=(true==true))
  (show WShape.has [] (.bool true) .bool=true by first|rfl|decide|simp [WShape.has,WShape.arms,WShape.armsAll])
  (show(WTm.eq .res (.lit (.bool true))).value [] {args:=args,res:=some (.bool true),after:=args}=some (.bool (true==true)) from w_eq_bool (w_res rfl) w_lit) rfl
theorem attach_call{l:OpenLaw}{n:Nat}{q:Program}{loose:List Str}{XP:(Str->Option Value)->Heap->Prop}{YP:World->Heap->Prop}{d:DefRec}
  (hn:l.most=some n) (hdf:d.params.defaults=[])
  (call:∀(w:World) (s₀ s₁:Shared) (mg mb:Str->Option Value) (fa:Addr) (o:Obj) (pm cd doc:Value) (a:Addr) (vs:List Value) (ns:List Int),
   Ground q loose [] XP w s₀ mg mb s₁.heap->YP w s₁.heap ->
   s₁.heap.get? fa=some o->o.data=.func (docDef d.name d.params d.body d.scope pm cd doc)->s₁.heap.CodeRec cd d.name->mg d.name=some (.ref fa) ->
   s₁.heap.get? a=some {cls:=.type "list",data:=.seq vs.toArray}->IntsAre vs ns->ns.length<=n->s₁.gens = #[] ->
   codeAny (model l.prog w) callerA (.call (.ref fa) ⟨[.ref a],[]⟩) (fun r s'=>r=.ok (.ret (.bool true))/\OldK s₁.heap s'.heap/\s'.os=s₁.os/\AllBare s'.gens) s₁) :
  WalkO q loose XP YP l.row.toRowW d [] (fun f vs=>PySem.call f vs):=by
 intro w s₀ s₁ mg mb G Y fa o pm cd doc dV kV ho hd hcd hD hmg hg args vals as hpre hlay hrd hwl hlo;obtain rfl:dV=.none:=Dflts.none hD hdf;obtain rfl:kV=.none:=Dflts.noKw hD;obtain⟨a,vs,ns,rfl,rfl,hobj,hints,hlen⟩:=qfe hn hpre hwl;refine enter_call (g14 (call w s₀ s₁ mg mb fa o pm cd doc a vs ns G Y ho (fd_plain hd) hcd hmg hobj hints hlen hg) fun r s' hq=>?_);obtain⟨rfl,h2,h3,h4⟩:=hq;exact⟨.inl ⟨.bool true,.bool true,[],rfl,fun _=>rfl,.bool true,qff l _,fun _=>⟨List.Pairwise.nil,fun _ hm=>(nomatch hm)⟩⟩,h2,h3,h4⟩
section
variable{prog:Program}{w:World}{A:Around}{E:Value->Shared->Prop}{s:Shared}{K:Frag}
end
end Att
namespace L2
open PySem PySem.Spec PyProof.Rows
theorem q0d:∀ {vs:List Value} {ns:List Int},IntsAre vs ns->Vals (ns.map V.int) vs
 | _,_,.nil=>.nil
 | _,_,.cons n t h=>.cons ⟨t,rfl⟩ (q0d h)
def qhc(H:Hp): Prop:=∀b,H b=none\/∃o xs,H b=some (.frz o (.lst xs))
theorem qhd{P:Program}{w:World}{K:PySem.W.Frag}{mg mb:Str->Option Value}{CX:CXT}{k:Nat}{fa a:Addr}{fd:FuncData}{x:Str}{sp:Sp}{s₁:Shared}{vs:List Value}{ns:List Int}
  (KX:K.In s₁.heap) (hns:s₁.heap.Ns mainGlobals mg) (hb:s₁.heap.Ns builtinsNs mb) (hbb:∀x:Str,x≠"__name__" -> mb x=bootBuiltins x) (hlim:s₁.heap.NoLimit) (hg:s₁.gens = #[])
  (ha:s₁.heap.get? a=some {cls:=.type "list",data:=.seq vs.toArray}) (hi:IntsAre vs ns) (hl:ns.length<=sizeLine) (hr:Room k callerA)
  (F:∀base:Heap,K.In base->base.Ns mainGlobals mg->FnOk P w K mg base CX k fa fd [x] sp) (hbind:∀(s:Shared) (u:Value),BindsTo s fd ⟨[u],[]⟩ [(x,u)])
  (hsp:∀H:Hp,qhc H->SqL K H a (ns.map V.int)->sp [.ref a] H (fun v _=>v=.bl true) fun _ _ _=>False)
  (hCX:∀H e s',CX [] H s₁ (fun _ _ _=>False) e s'->False) :
  codeAny (model P w) callerA (.call (.ref fa) ⟨[.ref a],[]⟩) (fun r s'=>r=.ok (.ret (.bool true))/\OldK s₁.heap s'.heap/\s'.os=s₁.os/\AllBare s'.gens) s₁:=by
 have rv:=q0d hi;have lenV:=hi.length
 -- from an abstract heap in which nothing but the script may be tracked
 have core:∀H:Hp,qhc H->SqL K H a (ns.map V.int)->HOk P w H s₁.heap->(∀b,H b≠none->b=a)->(H a≠none->K.lookup a=none) ->
   codeAny (model P w) callerA (.call (.ref fa) ⟨[.ref a],[]⟩) (fun r s'=>r=.ok (.ret (.bool true))/\OldK s₁.heap s'.heap/\s'.os=s₁.os/\AllBare s'.gens) s₁:=by
  intro H hO hS hok hA hK;have base_of:∀ {b:Addr} {o:Obj},s₁.heap.get? b=some o->H b=none->(q2w s₁.heap H).get? b=some o:=fun e n=>qgx e n;have noA:∀ {b:Addr} {o:Obj} {es:Array DictEntry} {ep:Nat},s₁.heap.get? b=some o->o.data=.dict es ep->H b=none:=fun {b o es ep} e d=>by
   cases q:H b with
   | none=>rfl
   | some u=>
    have e':b=a:=hA b (by rw [q];simp);subst e';rw [ha] at e;cases e;have d':Data.seq vs.toArray _=Data.dict es ep:=d;cases d'
  have nsK:∀ {b:Addr} {m:Str->Option Value},s₁.heap.Ns b m->(q2w s₁.heap H).Ns b m:=fun {b m} ⟨o,es,ep,e,d,r⟩=>⟨o,es,ep,base_of e (noA e d),d,r⟩
  have hKb:K.In (q2w s₁.heap H):=fun b o e=>base_of (KX b o e) (by
   cases q:H b with
   | none=>rfl
   | some u=>
    have e':b=a:=hA b (by rw [q];simp);subst e';rw [hK (by rw [q];simp)] at e;cases e)
  have hM:Mod K mg (q2w s₁.heap H):=⟨hKb,nsK hns,⟨mb,nsK hb,hbb⟩,let⟨mc,h1,h2⟩:=hlim; ⟨mc,nsK h1,h2⟩⟩
  have e0:Env0 P w K mg (q2w s₁.heap H) callerA [] s₁ H:=⟨rfl,hM,fun b o e=>qja e,Nat.le_of_eq (qex _ _),trivial,fun b hb=>absurd (show b∈([]:List Addr) from hb) (by simp),hok,.of_eq hg⟩
  refine g14 ((F _ hKb (nsK hns)).run callerA [] s₁ H ⟨[.ref a],[]⟩ [.ref a] [.ref a] _ _ hr e0 (hbind s₁ (.ref a)) (.cons rfl .nil) (hsp H hO hS)) fun r s' h=>?_;cases r with
  | error e=>exact(hCX H e s' h).elim
  | ok fl=>
   cases fl with
   | next=>exact False.elim h
   | brk=>exact False.elim h
   | cont=>exact False.elim h
   | ret u=>
    obtain⟨v,H',os,bare,un,hok',r',q⟩:=h;have q':v=.bl true:=q;subst q';obtain rfl:u=Value.bool true:=r';refine⟨rfl,OldK.of_keep fun b o e=>?_,os,bare⟩;cases q:H b with
    | none=>exact un.keep b o e q (by intro z;exact absurd (show b∈([]:List Addr) from z) (by simp)) (by simp)
    | some u=>
     rcases hO b with z|⟨ob,xs,z⟩
     ·rw [q] at z;cases z
     ·have z2:=un.frzs b ob _ z
      obtain⟨e1,_⟩:=hok b _ z;obtain⟨e2,_⟩:=hok' b _ z2;rw [e] at e1;cases e1;exact e2
 cases hk:K.lookup a with
 | some o=>
  -- the script is one of the module's own objects
  have e:=KX a o hk;rw [ha] at e;cases e;refine core (fun _=>none) (fun _=>.inl rfl) (.inr ⟨_,vs.toArray,_,hk,rfl,rfl,rfl,by rw [gf,lenV];exact hl,by simpa using rv⟩) (fun b u z=>by have z':(none:Option HO)=some u:=z;cases z') (fun b z=>absurd rfl z) fun z=>absurd rfl z
 | none=>
  refine core (fun b=>if b=a then some (.frz {cls:=.type "list",data:=.seq vs.toArray} (.lst (ns.map V.int))) else none) (fun b=>?_) (.inl (.inr ⟨{cls:=.type "list",data:=.seq vs.toArray},gz rfl⟩)) (fun b u z=>?_) (fun b z=>?_) fun _=>hk
  ·by_cases hb:b=a
   ·exact .inr ⟨_,_,gz hb⟩
   ·exact .inl (m4 hb)
  ·by_cases hb:b=a
   ·have z':=(gz hb).symm.trans z
    cases z';subst hb;exact⟨ha,by rw [mj];exact hl,vs,_,rv,ha⟩
   ·have z':=(m4 hb).symm.trans z
    cases z'
  ·by_cases hb:b=a
   ·exact hb
   ·exact absurd (m4 hb) z
theorem qjm{l:PySem.W.OpenLaw}{n k:Nat}{q:Program}{loose:List Str}{XP:(Str->Option Value)->Heap->Prop}{YP:World->Heap->Prop}{d:DefRec}{K:Params->PySem.W.Frag}{CX:World->CXT}{sp:World->Sp}{x:Str}
  (hn:l.most=some n) (hn2:n<=sizeLine) (hdf:d.params.defaults=[]) (hr:Room k callerA)
  (hY:∀(w:World) (h:Heap),YP w h->(K w.params).In h)
  (F:∀(w:World) (mg:Str->Option Value) (fa:Addr) (h:Heap),(K w.params).In h->h.Ns mainGlobals mg->mg d.name=some (.ref fa) ->
   ∃fd:FuncData,(∀(s:Shared) (u:Value),BindsTo s fd ⟨[u],[]⟩ [(x,u)]) /\
    ∀base:Heap,(K w.params).In base->base.Ns mainGlobals mg->FnOk l.prog w (K w.params) mg base (CX w) k fa fd [x] (sp w))
  (hsp:∀(w:World) (H:Hp) (a:Addr) (ns:List Int),ns.length<=n->qhc H->SqL (K w.params) H a (ns.map V.int)->sp w [.ref a] H (fun v _=>v=.bl true) fun _ _ _=>False)
  (hCX:∀(w:World) (H:Hp) (s:Shared) (e:Value) (s':Shared),CX w [] H s (fun _ _ _=>False) e s'->False) :
  PySem.W.WalkO q loose XP YP l.row.toRowW d [] (fun f vs=>PySem.call f vs):=by
 refine Att.attach_call hn hdf fun w s₀ s₁ mg mb fa o pm cd doc a vs ns G Y ho hd hcd hmg hobj hints hlen hg=>?_;have KX:=hY w _ Y;obtain⟨fd,hb,hF⟩:=F w mg fa _ KX G.T.g hmg;exact qhd KX G.T.g G.T.b G.T.builtins G.T.nolimit hg hobj hints (my hlen hn2) hr hF hb (fun H hO hS=>hsp w H a ns hlen hO hS) fun H e s'=>hCX w H s₁ e s'
def q02(s:Stmt): Arguments:=match s with
 | .FunctionDef _ a _ _ _ _ _ _ _ _=>a
 | _=>{posonlyargs:=[],args:=[],vararg:=none,kwonlyargs:=[],kw_defaults:=[],kwarg:=none,defaults:=[]}
def qq(s:Stmt): List Stmt:=match s with
 | .FunctionDef _ _ b _ _ _ _ _ _ _=>b
 | _=>[]
def qd(s:Stmt): Scope:=match s with
 | .FunctionDef _ _ _ _ _ _ sc _ _ _=>sc
 | _=>{kind:=.function,names:=[],isGenerator:=false,isCoroutine:=false}
abbrev CX0:CXT:=fun _ _ _ _ _ _=>False
abbrev E0:XK:=fun _ _ _=>False
theorem qdo{X:Cx}: q3p CX0 X E0:=fun _ _ _ _ _ _ _ h=>h.elim
structure Fun(K:PySem.W.Frag)(x qual:Str)(st:Stmt)(f:Addr)(fd:FuncData): Prop where
 ex:∃(oc:Value) (od:Option Addr) (kV doc pm:Value) (an:Option Addr) (cdv ct:Value) (osl:Array (Option Value)),
  fd=PySem.W.fnOf x qual (q02 st) (qq st) (qd st) .none kV doc pm an cdv ct/\K.lookup f=some ⟨oc,od,.func fd,osl⟩/\PySem.W.codeIn K cdv qual=true
 kp:PySem.W.keepIn K (.ref f)=true
section
variable{P:Program}{w:World}{K:PySem.W.Frag}{mg:Str->Option Value}{base:Heap}
end
section
variable{X:Cx}
theorem pv(i:Nat){x:Str}{pos:Pos}(hN:X.N[i]? = some x:=by rfl)(hv:Vis X.env.scope x:=by first|exact Or.inl rfl|exact Or.inr (Or.inl rfl)|exact Or.inr (Or.inr rfl))(hd:(x==("__debug__" : Str))=false:=by decide)
  (hcd:(x==("__classdict__" : Str))=false:=by decide):PE X (.Name x pos) (q9i i):=ql6 hN hv hd hcd
end
theorem qhe{A B:Prop}(h:B): if false=true then A else B:=by
 rw [m4 gj];exact h
theorem qhf{A B:Prop}(h:A): if true=true then A else B:=by
 rw [gz rfl];exact h
def Same(H H':Hp): Prop:=∀b o,H b=some o->H' b=some o
theorem Same.refl(H:Hp): Same H H:=fun _ _ h=>h
theorem Same.trans{H H1 H2:Hp}(a:Same H H1)(b:Same H1 H2): Same H H2:=fun c o h=>b c o (a c o h)
theorem Same.free{H H':Hp}(e:Same H H'){l:Addr}(h:H' l=Option.none): H l=Option.none:=by
 cases q:H l with
 | none=>rfl
 | some o=>
  rw [e l o q] at h;cases h
theorem Same.seq{K:PySem.W.Frag}{H H':Hp}{a:Addr}{xs:List V}(e:Same H H')(h:SqL K H a xs): SqL K H' a xs:=by
 rcases h with(h|⟨o,h⟩)|h
 ·exact .inl (.inl (e _ _ h))
 ·exact .inl (.inr ⟨o,e _ _ h⟩)
 ·exact .inr h
theorem q18(env:Env): ∀(names:List (Str×NameKind)) (acc:List (Str×Addr)),
  (∀y∈names,y.2=.free->∃c,env.cells.lookup y.1=some c)->(∀x c,acc.lookup x=some c->env.cells.lookup x=some c) ->
  ∃ cl,(forIn names acc (fun(x:Str×NameKind) (r:List (Str×Addr))=>(do
    if x.2==NameKind.free then do
     let a <- cellOf env x.1
     pure (ForInStep.yield ((x.1,a) :: r))
    else pure (ForInStep.yield r):Sem (ForInStep (List (Str×Addr))))):Sem (List (Str×Addr)))=pure cl /\
   (∀x c,cl.lookup x=some c->env.cells.lookup x=some c)/\(∀x c,acc.lookup x=some c->∃d,cl.lookup x=some d)/\(∀y∈names,y.2=.free->∃c,cl.lookup y.1=some c)
 | [],acc,_,h2=>⟨acc,rfl,h2,fun x c h=>⟨c,h⟩,fun y hy=>by cases hy⟩
 | (n,k) :: r,acc,h1,h2=>by
  by_cases hk:k=NameKind.free
  ·subst hk
   obtain⟨c,hc⟩:=h1 (n,.free) gv rfl;have h2':∀x d,((n,c) :: acc).lookup x=some d->env.cells.lookup x=some d:=fun x d e=>by
    rw [mn] at e
    split at e
    ·rename_i q
     have q':x=n:=by simpa using q
     subst q';cases e;exact hc
    ·exact h2 x d e
   obtain⟨cl,e,a1,a2,a3⟩:=q18 env r ((n,c) :: acc) (fun y hy=>h1 y (m5 _ hy)) h2';refine⟨cl,?_,a1,fun x d e2=>?_,fun y hy hf=>?_⟩
   ·rw [g09]
    simp only [beq_self_eq_true,pb];have hco:cellOf env n=pure c:=by unfold cellOf;rw [hc]
    rw [hco];exact e
   ·by_cases q:x=n
    ·subst q
     exact a2 x c (by rw [mn];simp)
    ·exact a2 x d (by rw [mn,show(x==n)=false by simpa using q];exact e2)
   ·rcases gm.mp hy with rfl|hy
    ·exact a2 n c (by rw [mn];simp)
    ·exact a3 y hy hf
  ·obtain⟨cl,e,a1,a2,a3⟩:=q18 env r acc (fun y hy=>h1 y (m5 _ hy)) h2
   refine⟨cl,?_,a1,a2,fun y hy hf=>?_⟩
   ·rw [g09]
    have hb:(k==NameKind.free)=false:=by simpa using hk
    simp only [hb,gu,g02];exact e
   ·rcases gm.mp hy with rfl|hy
    ·exact absurd hf hk
    ·exact a3 y hy hf
theorem q68{scope:Scope}{env:Env}(h:∀y∈scope.names,y.2=.free->∃c,env.cells.lookup y.1=some c):
  ∃cl,closureFor scope env=pure cl/\(∀x c,cl.lookup x=some c->env.cells.lookup x=some c)/\(∀y∈scope.names,y.2=.free->∃c,cl.lookup y.1=some c):=by
 obtain⟨cl,e,a1,_,a3⟩:=q18 env scope.names [] h (fun x c q=>by cases q);refine⟨cl,?_,a1,a3⟩;unfold closureFor;exact(pw (fun m=>m >>= fun r=>(pure r:Sem (List (Str×Addr)))) e).trans rfl
abbrev qfg(ifs:List Expr)(env:Env): Sem Bool:=
 forIn ifs true fun c r=>if r=true then do let ok <- isTrue c env (eval c env);pure (ForInStep.yield ok) else pure (ForInStep.yield r)
def q0o(X:Cx)(ifs:List Expr)(t:TT): Prop:=
 ∀(pins:List (Addr×Obj)) (s:Shared) (σ : St) (H:Hp) (Q:Bool->Hp->Prop),Inv X pins σ H s->t σ H Q->wpAny (model X.prog X.w) X.A (qfg ifs X.env) (TP X pins σ Q) X.xe s
def tTrue:TT:=fun _ H Q=>Q true H
theorem qhg{X:Cx}: q0o X [] tTrue:=fun pins s σ H Q I h=>wpAny_tests_nil ⟨H,I,h⟩
theorem qhh{X:Cx}{c:Expr}{t:TT}(h:PT X c t): q0o X [c] t:=fun pins s σ H Q I hq=>wpAny_tests_one (h pins s σ H Q I hq)
section
variable{prog:Program}{w:World}{A:Around}{R:Result->Shared->Prop}{s:Shared}
theorem qbr{elt target iter:Expr}{ifs:List Expr}{scope:Scope}{pos:Pos}{it acc:Value}{env:Env}(I:Nat->Shared->Prop)
  (turn:∀n s,I n s->wpAny (model prog w) A (pyNext it) (fun r s₁=>match r with
   | none=>R (.ok .next) s₁
   | some v=>wpAny (model prog w) A (letOwnedTupleGo target it v) (fun _ s'=>wpAny (model prog w) A (assign target env v) (fun _ s₂=>
     wpAny (model prog w) A (qfg ifs env) (fun ok s₃=>
      if ok=true then wpAny (model prog w) A (eval elt env) (fun x s₄=>
       wpAny (model prog w) A (call (.builtin "list.append") [acc,x]) (fun _ s₅=>∃m,m<n/\I m s₅) (fun _ _=>False) s₄) (fun _ _=>False) s₃
      else ∃m,m<n/\I m s₃) (fun _ _=>False) s₂) (fun _ _=>False) s') (fun _ _=>False) s₁) (fun _ _=>False) s)
  (n:Nat) (h:I n s) :
  codeAny (model prog w) A (.compLoop (.ListComp elt [⟨target,iter,ifs,0⟩] scope pos) 0 it acc env) R s:=by
 refine codeAny_loop rfl I (fun n s hI=>?_) n h;show wpAny _ A ((compTurn (.ListComp elt [⟨target,iter,ifs,0⟩] scope pos) 0 it acc env).onRaise (fun x=>do noteFrame x env;theTreesLotGoes x)) _ _ s;refine wpAny_noted ?_;rw [compTurn_list];refine g0 (wpAny_standAt (g0 (n9 (turn n s hI) (fun r s₁ h₁=>?_) fun _ _ h'=>h'.elim)));cases r with
 | none=>exact gb h₁
 | some v=>
  refine g0 (n9 h₁ (fun _ s' h'=>?_) fun _ _ h'=>h'.elim);refine g0 (n9 h' (fun _ s₂ h₂=>g0 (n9 h₂ (fun ok s₃ h₃=>?_) fun _ _ h'=>h'.elim)) fun _ _ h'=>h'.elim);cases ok with
  | false=>exact gb ⟨rfl,h₃⟩
  | true=>
   exact g0 (g0 (n9 h₃ (fun x s₄ h₄=>g0 (n9 h₄ (fun _ s₅ h₅=>gb (gb ⟨rfl,h₅⟩)) fun _ _ h'=>h'.elim)) fun _ _ h'=>h'.elim))
end
abbrev zx(X:Cx)(N':List Str)(scope:Scope)(cl:List (Str×Addr))(C:Addr)(s₀:Shared)(H₀:Hp)(fp:List Addr): Cx:=
 {X with N:=N',env:=compEnvC scope cl C X.env,s₀:=s₀,H₀:=H₀,outer:=X.stack,ex:=fp,fn:=fun _=>false,pn:=[],xe:=fun _ _=>False}
structure CapOk(X:Cx)(N':List Str)(scope:Scope)(cap:List (Option Nat)): Prop where
 kind:scope.kind=.function
 cell:∀y∈scope.names,y.2 ≠ .cell
 names:∀y∈scope.names,y.2=.local->scope.names.lookup y.1=some .local
 frees:∀y∈scope.names,y.2=.free->X.env.kindOf y.1=some .cell\/X.env.kindOf y.1=some .free
 len:cap.length=N'.length
 cap:∀(i j:Nat),cap[i]? = some (some j)->∃x,N'[i]? = some x/\X.N[j]? = some x/\scope.names.lookup x=some .free
def q7i(cap:List (Option Nat))(σ : St): St:=cap.map fun o=>o.bind fun j=>(σ[j]?).join
theorem lookup_mem{α β : Type}[BEq α][LawfulBEq α]{l:List (α × β)}{a : α}{b : β}(h:l.lookup a=some b): (a,b)∈l:=by
 induction l with
 | nil=>cases h
 | cons p r ih=>
  obtain⟨x,y⟩:=p;rw [mn] at h
  split at h
  ·rename_i q
   have q':a=x:=by simpa using q
   subst q';cases h;exact gv
  ·exact m5 _ (ih h)
theorem q19{env:Env}: ∀ {names:List (Str×NameKind)} {x:Str} {k:NameKind},(names.map fun(n,k)=>if(k==NameKind.free&&env.scope.kind == .function&&env.kindOf n==some .cell) then(n,NameKind.cell) else(n,k)).lookup x=some k ->
  (names.lookup x=some k)\/(k=.cell/\names.lookup x=some .free)
 | [],_,_,h=>by cases h
 | (n,k0) :: r,x,k,h=>by
  have ih:=@q19 env r x k;have h':List.lookup x ((if(k0==NameKind.free&&env.scope.kind == .function&&env.kindOf n==some .cell)=true then(n,NameKind.cell) else(n,k0)) :: _)=some k:=h
  by_cases hc:(k0==NameKind.free&&env.scope.kind == .function&&env.kindOf n==some .cell)=true
  ·rw [gz hc,mn] at h'
   have hf:k0=.free:=by
    simp only [m6,g1b] at hc;exact hc.1.1
   cases q:x==n with
   | true=>rw [q] at h';cases h';exact .inr ⟨rfl,by rw [mn,q,hf]⟩
   | false=>rw [q] at h';rw [mn,q];exact ih h'
  ·rw [m4 hc,mn] at h'
   cases q:x==n with
   | true=>rw [q] at h';rw [mn,q];exact .inl h'
   | false=>rw [q] at h';rw [mn,q];exact ih h'
theorem q3q{env:Env}: ∀ {names:List (Str×NameKind)} {x:Str},names.lookup x=some .free ->
  (names.map fun(n,k)=>if(k==NameKind.free&&env.scope.kind == .function&&env.kindOf n==some .cell) then(n,NameKind.cell) else(n,k)).lookup x=some .cell \/
  (names.map fun(n,k)=>if(k==NameKind.free&&env.scope.kind == .function&&env.kindOf n==some .cell) then(n,NameKind.cell) else(n,k)).lookup x=some .free
 | [],_,h=>by cases h
 | (n,k0) :: r,x,h=>by
  have ih:=@q3q env r x;show List.lookup x ((if(k0==NameKind.free&&env.scope.kind == .function&&env.kindOf n==some .cell)=true then(n,NameKind.cell) else(n,k0)) :: _)=_\/List.lookup x ((if(k0==NameKind.free&&env.scope.kind == .function&&env.kindOf n==some .cell)=true then(n,NameKind.cell) else(n,k0)) :: _)=_;rw [mn] at h
  by_cases hc:(k0==NameKind.free&&env.scope.kind == .function&&env.kindOf n==some .cell)=true
  ·rw [gz hc,mn]
   cases q:x==n with
   | true=>exact .inl rfl
   | false=>rw [q] at h;exact ih h
  ·rw [m4 hc,mn]
   cases q:x==n with
   | true=>rw [q] at h;exact .inr h
   | false=>rw [q] at h;exact ih h
section
variable{X:Cx}{pins:List (Addr×Obj)}{σ : St}{H:Hp}{s:Shared}{N':List Str}{scope:Scope}{cap:List (Option Nat)}{cl:List (Str×Addr)}{fp:List Addr}
theorem qhi(I:Inv X pins σ H s)(co:CapOk X N' scope cap)(h1:∀x c,cl.lookup x=some c->X.env.cells.lookup x=some c)(h2:∀y∈scope.names,y.2=.free->∃c,cl.lookup y.1=some c)
  (hf:∀b∈fp,kc X pins H b) (ho:∀b∈fp,∃o,s.heap.get? b=some o) {h':Heap} {t':Nat} {m:Str->Option Value} (hn:h'.Ns s.heap.objs.size m) (hk:∀b o,s.heap.get? b=some o->h'.get? b=some o) :
  Inv (zx X N' scope cl s.heap.objs.size s H fp) [] (q7i cap σ) H {s with heap:=h',toks:=t'}:=by
 have flt:∀b∈fp,b<s.heap.objs.size:=fun b hb=>let⟨o,e⟩:=ho b hb;gh e
 refine⟨⟨I.ok.mod,co.kind,I.ok.glob,I.ok.blt,gp _,fun x y c e1 e2=>I.ok.inj x y c (h1 x c e1) (h1 y c e2),fun x hx=>?_,fun x c z _=>(nomatch z),I.ok.hd,I.ok.frames,.inl rfl,fun b hb=>?_,I.bs,my I.ok.bsz I.sz,fun b o e hb=>?_,fun b hb z=>?_,I.stack,I.stkFree⟩,
  rfl,I.bare,Un.kept hk,⟨m,hn,fun i x v e1 e2 e3=>?_⟩,fun x c e=>?_,I.hok.fresh (gp _),fun x c e=>I.freeC x c (h1 x c e),fun p hp=>(nomatch hp),I.hok.kept hk,?_⟩
 ·have hx':(relabel scope X.env).names.lookup x=some .cell\/(relabel scope X.env).names.lookup x=some .free:=hx
  have hfree:scope.names.lookup x=some .free:=by
   rcases hx' with q|q
   ·rcases q19 q with z|⟨_,z⟩
    ·exact absurd rfl (co.cell _ (lookup_mem z))
    ·exact z
   ·rcases q19 q with z|⟨z,_⟩
    ·exact z
    ·cases z
  exact h2 (x,.free) (lookup_mem hfree) rfl
 ·obtain⟨f0,f1,f2,f3,f4,f5⟩:=hf b hb
  exact⟨gr (flt b hb),fun x c e=>f4 x c (h1 x c e)⟩
 ·obtain⟨f0,f1,f2,f3,f4,f5⟩:=hf b hb
  rcases f3 with z|z
  ·exact I.ok.noex b o e z
  ·exact absurd (gs (gh e) (my I.ok.bsz z)) (ph _)
 ·obtain⟨f0,f1,f2,f3,f4,f5⟩:=hf b hb
  rcases gm.mp (I.stkSub b z) with q|q
  ·exact f1 q
  ·exact f2 q
 ·-- a captured name
  have e2':(cap.map fun o=>o.bind fun j=>(σ[j]?).join)[i]? = some (some v):=e2;rw [gy] at e2';cases q:cap[i]? with
  | none=>rw [q] at e2';cases e2'
  | some o=>
   rw [q] at e2';cases o with
   | none=>cases e2'
   | some j=>
    obtain⟨y,a1,a2,a3⟩:=co.cap i j q;have e1':N'[i]? = some x:=e1;rw [a1] at e1';obtain rfl:y=x:=mh e1';have ej:(σ[j]?).join=some v:=by
     have:=e2';simp only [p6,mf,g1g] at this;exact this
    have ej' : σ[j]? = some (some v):=by
     cases z : σ[j]? with
     | none=>rw [z] at ej;cases ej
     | some u=>rw [z] at ej;simp only [pf] at ej;rw [ej]
    have kd:=co.frees (y,.free) (lookup_mem a3) rfl;obtain⟨m0,hn0,hl0⟩:=I.loc;have vis:Vis X.env.scope y:=by
     rcases kd with k|k
     ·exact .inr (.inl k)
     ·exact .inr (.inr k)
    obtain⟨u,ru,lk⟩:=hl0 j y v a2 ej' vis;refine⟨u,ru,.inr ⟨q3q a3,?_⟩⟩;obtain⟨c,hc⟩:=h2 (y,.free) (lookup_mem a3) rfl;rcases lk with⟨k,_⟩|⟨_,c',hc',z⟩
    ·rcases kd with k'|k'
     ·rw [k] at k';cases k'
     ·rw [k] at k';cases k'
    ·have:=h1 _ _ hc
     rw [hc'] at this;obtain rfl:c'=c:=mh this;obtain⟨o,eo,ed⟩:=z;exact⟨c',hc,o,hk _ _ eo,ed⟩
 ·obtain⟨v,o,eo,ed⟩:=I.cell x c (h1 x c e)
  exact⟨v,o,hk _ _ eo,ed⟩
 ·show(cap.map _).length=N'.length
  rw [mj];exact co.len
theorem qdp{N':List Str}{C:Addr}{H':Hp}{s':Shared}{σ':St}{h':Heap}(I:Inv X pins σ H s)(hf:∀b∈fp,kc X pins H b)(J:Inv (zx X N' scope cl C s H fp) [] σ' H' s')(hs:Heap.SameBut C s'.heap h'):
  Inv X pins σ H' {s' with heap:=h'}:=by
 have hC:s.heap.objs.size<=C:=J.ok.above;have kp:∀b o,b≠C->s'.heap.get? b=some o->h'.get? b=some o:=fun b o hb e=>(hs.2 b hb).trans e;have hC0:H' C=none:=J.free;have un:Un (frs X.stack) fp H H' s.heap h':=by
  have u:Un (frs X.stack) fp H H' s.heap s'.heap:=J.base;have neC:∀b o,s.heap.get? b=some o->b≠C:=fun b o e=>gr (gs (gh e) hC);exact⟨fun b o e n h1 h2=>kp b o (neC b o e) (u.keep b o e n h1 h2),fun b o e n h1 h2=>let⟨sl,q⟩:=u.slot b o e n h1 h2; ⟨sl,kp b _ (neC b o e) q⟩,u.free,fun b o e h=>let⟨o',q⟩:=u.there b o e h; ⟨o',kp b o' (neC b o e) q⟩,u.tups,u.frzs,u.tbls⟩
 have hok:HOk X.prog X.w H' h':=fun b u e=>by
  refine(J.hok b u e).stay (fun c v hc q=>kp c v ?_ q) (fun _ q=>q) fun _ _ q=>q;rcases hc with z|z
  ·rw [z];intro z2;rw [z2,hC0] at e;cases e
  ·intro z2;rw [z2,hC0] at z;cases z
 exact I.call' (s':={s' with heap:=h'}) (ch:=fp) J.os un hok J.bare fun b hb=>by
  obtain⟨f0,f1,f2,f3,f4,f5⟩:=hf b hb;exact⟨f3,f1,f4,f5⟩
end
def qm0(J:It)(cap:List (Option Nat))(g:TG)(tc:TT)(te:TE)(σ : St)(H1:Hp)(p:Addr)(K:Hp->Prop): Prop:=
 ∃ W:Nat->Nat->St->Hp->Prop,(∃m,W 0 m (q7i cap σ) (upd H1 p (.lst [])))/\∀i m σ' H',W i m σ' H' ->
  (J.stop i H'/\K H')\/(J.go i H'/\∀x H'',J.yld i H' x H''->g x σ' H'' fun σ2 H2=>tc σ2 H2 fun b H3=>
   if b=true then te σ2 H3 fun y H4=>∃xs,H4 p=some (.lst xs)/\xs.length<sizeLine/\∃m',m'<m/\W (i+1) m' σ2 (upd H4 p (.lst (xs++[y])))
   else ∃m',m'<m/\W (i+1) m' σ2 H3)
def qdq(wi:TI)(cap:List (Option Nat))(g:TG)(tc:TT)(te:TE): TE:=fun σ H Q=>wi σ H fun J H1=>∀p,H1 p=none->qm0 J cap g tc te σ H1 p (Q (.ref p))
section
variable{X:Cx}{N':List Str}{scope:Scope}{cap:List (Option Nat)}{tg iter elt:Expr}{ifs:List Expr}{wi:TI}{g:TG}{tc:TT}{te:TE}{pos:Pos}
theorem q86{cl:List (Str×Addr)}{pins:List (Addr×Obj)}{s:Shared}{σ : St}{H:Hp}{it:Addr}{fp:List Addr}{tn:Nat->Heap->Prop}{J:It}{E:Value->Shared->Prop}{K:Addr->Hp->Prop}
  {RR:Value->Addr->Result->Shared->Prop} (hc:X.calm=true) (co:CapOk X N' scope cap)
  (h1:∀x c,cl.lookup x=some c->X.env.cells.lookup x=some c) (h2:∀y∈scope.names,y.2=.free->∃c,cl.lookup y.1=some c)
  (hg:∀cl C s₀ H₀ fp,PG (zx X N' scope cl C s₀ H₀ fp) tg g) (hcs:∀cl C s₀ H₀ fp,q0o (zx X N' scope cl C s₀ H₀ fp) ifs tc) (he:∀cl C s₀ H₀ fp,PE (zx X N' scope cl C s₀ H₀ fp) elt te)
  (I:Inv X pins σ H s) (T:Turn X.prog X.w X.K tg J fp it tn) (st:tn 0 s.heap) (hf:∀b∈fp,kc X pins H b) (h:∀p,H p=none->qm0 J cap g tc te σ H p (K p))
  (hRR:∀(D C:Addr) (s':Shared) (H':Hp),s.heap.objs.size<=C->(∃m,s'.heap.Ns C m)->(∀h',Heap.SameBut C s'.heap h'->Inv X pins σ H' {s' with heap:=h'})->H' C=none->K D H'->RR (.ref D) C (.ok .next) s') :
  wpAny (model X.prog X.w) X.A (newList []) (fun acc s₃=>wpAny (model X.prog X.w) X.A (newFunctionEnv scope X.env.globals cl [] X.env.qual none .none (some X.env)) (fun cenv s₄=>
   codeAny (model X.prog X.w) X.A (.compStart (.ListComp elt [⟨tg,iter,ifs,0⟩] scope pos) 0 (.ref it) acc {cenv with scope:=relabel scope X.env}) (RR acc cenv.locals) s₄) E s₃) E s:=by
 refine nt (wpAny_newFunctionEnv co.cell (by intro y hy;simp at hy) (fun hh hns hsb=>?_) co.kind);have hD:H s.heap.objs.size=none:=I.fresh;have I3:Inv X pins σ (upd H s.heap.objs.size (.lst [])) {s with heap:=s.heap.push {cls:=.type "list",dict:=none,data:=.seq ([]:List Value).toArray} }:=I.lnew (ys:=[]) (its:=[]) (t':=s.toks) .nil (t7 _);obtain⟨W,⟨m0,w0⟩,turn⟩:=h s.heap.objs.size hD;have fobj:∀b∈fp,∃o,s.heap.get? b=some o:=fun b hb=>let⟨o,e,_⟩:=T.obj 0 _ st b hb; ⟨o,e⟩
 generalize e3:({s with heap:=s.heap.push {cls:=.type "list",dict:=none,data:=.seq ([]:List Value).toArray} }:Shared)=s3 at I3;have es3:s3.heap=s.heap.push {cls:=.type "list",dict:=none,data:=.seq ([]:List Value).toArray}:=by rw [<- e3]
 have eC:(s.heap.push {cls:=.type "list",dict:=none,data:=.seq ([]:List Value).toArray}).objs.size=s3.heap.objs.size:=by rw [es3]
 have hf3:∀b∈fp,kc X pins (upd H s.heap.objs.size (.lst [])) b:=fun b hb=>by
  obtain⟨f0,f1⟩:=hf b hb;obtain⟨o,e⟩:=fobj b hb;exact⟨by rw [qk (gr (gh e))];exact f0,f1⟩
 have kp:∀b o,s3.heap.get? b=some o->hh.get? b=some o:=fun b o e=>by
  refine hsb.extBut b o ?_ (gc _ (by rw [<- es3];exact e));show b≠(s.heap.push {cls:=.type "list",dict:=none,data:=.seq ([]:List Value).toArray}).objs.size;rw [eC];exact gr (gh e)
 have hle:s.heap.objs.size<=s3.heap.objs.size:=by rw [es3,nc];exact g37 _
 have s3e:∀t:Nat,({s with heap:=hh,toks:=t}:Shared) = {s3 with heap:=hh,toks:=t}:=fun t=>by rw [<- e3]
 have I4:Inv (zx X N' scope cl s3.heap.objs.size s3 (upd H s.heap.objs.size (.lst [])) fp) [] (q7i cap σ) (upd H s.heap.objs.size (.lst [])) {s3 with heap:=hh,toks:=s.toks+([]:List (Str×Value)).length}:=
  qhi I3 co h1 h2 hf3 (fun b hb=>let⟨o,e⟩:=fobj b hb; ⟨o,by rw [es3];exact gc _ e⟩) (by rw [<- eC];exact hns) kp
 have st4:tn 0 hh:=T.keep 0 _ _ st fun b hb o e=>kp b o (by rw [es3];exact gc _ e);have etk:s3.toks+([]:List (Str×Value)).length=s.toks+([]:List (Str×Value)).length:=by rw [<- e3]
 show codeAny (model X.prog X.w) X.A (.compStart (.ListComp elt [⟨tg,iter,ifs,0⟩] scope pos) 0 (.ref it) (.ref s.heap.objs.size) (compEnvC scope cl s3.heap.objs.size X.env)) (RR (.ref s.heap.objs.size) s3.heap.objs.size)
  {s3 with heap:=hh,toks:=s3.toks+([]:List (Str×Value)).length}
 rw [etk];generalize eX:zx X N' scope cl s3.heap.objs.size s3 (upd H s.heap.objs.size (.lst [])) fp=X' at I4;have hg':PG X' tg g:=by rw [<- eX];exact hg _ _ _ _ _
 have hcs':q0o X' ifs tc:=by rw [<- eX];exact hcs _ _ _ _ _
 have he':PE X' elt te:=by rw [<- eX];exact he _ _ _ _ _
 have eenv:X'.env=compEnvC scope cl s3.heap.objs.size X.env:=by rw [<- eX]
 have exe:X'.xe=fun _ _=>False:=by rw [<- eX]
 have eex:X'.ex=fp:=by rw [<- eX]
 have eprog:X'.prog=X.prog:=by rw [<- eX]
 have ew:X'.w=X.w:=by rw [<- eX]
 have eK:X'.K=X.K:=by rw [<- eX]
 have eA:X'.A=X.A:=by rw [<- eX]
 have ecalm:X'.calm=true:=by rw [<- eX];exact hc
 have epn:X'.pn=[]:=by rw [<- eX]
 have eloc:X'.env.locals=s3.heap.objs.size:=by rw [eenv];rfl
 have ok':=I4.ok;have stat:∀ {H':Hp},(∀b∈fp,H' b=none)->∀b∈fp,kc X' [] H' b:=fun hn b hb=>by
  have hbx:b∈X'.ex:=by rw [eex];exact hb
  exact⟨hn b hb,(ok'.exf b hbx).1,ok'.exfs b hbx,.inl hbx,(ok'.exf b hbx).2,fun p hp=>by rw [epn] at hp;cases hp⟩
 have back:∀ {σ':St} {H':Hp} {s':Shared},Inv X' [] σ' H' s'->K s.heap.objs.size H'->RR (.ref s.heap.objs.size) s3.heap.objs.size (.ok .next) s':=fun {σ' H' s'} J' k=>by
  refine hRR _ _ _ H' hle ?_ (fun h' hs'=>?_) ?_ k
  ·obtain⟨m,hm,_⟩:=J'.loc
   exact⟨m,by rw [<- eloc];exact hm⟩
  ·rw [<- eX] at J'
   exact qdp I3 hf3 J' hs'
  ·rw [<- eloc];exact J'.free
 have loop:codeAny (model X.prog X.w) X.A (.compLoop (.ListComp elt [⟨tg,iter,ifs,0⟩] scope pos) 0 (.ref it) (.ref s.heap.objs.size) (compEnvC scope cl s3.heap.objs.size X.env)) (RR (.ref s.heap.objs.size) s3.heap.objs.size)
   {s3 with heap:=hh,toks:=s.toks+([]:List (Str×Value)).length}:=by
  refine qbr (fun n s'=>∃i σ' H',Inv X' [] σ' H' s'/\tn i s'.heap/\(∀b∈fp,H' b=none)/\W i n σ' H') ?_ m0 ⟨0,_,_,I4,st4,fun b hb=>(hf3 b hb).1,w0⟩
  rintro n s5 ⟨i, σ5,H5,I5,st5,fr5,w5⟩
  rw [<- eenv];rcases turn i n σ5 H5 w5 with⟨stop,qn⟩|⟨go,step⟩
  ·have:=T.done X' eprog ew eK ecalm i [] s5 σ5 H5 (fun _ _=>False) I5 (stat fr5) st5 stop
   rw [eA] at this;refine thn this fun r s6 ⟨hr,I6⟩=>?_;subst hr;exact back I6 qn
  ·have:=T.item X' eprog ew eK ecalm i [] s5 σ5 H5 (fun _ _=>False) I5 (stat fr5) st5 go
   rw [eA] at this;refine thn this fun r s6 ⟨u,hr,h6⟩=>?_;subst hr;refine thn h6 fun _ s7 ⟨x,H7,I7,r7,y7,st7,fr7⟩=>?_;have I7':=I7.pinned (stat fr7) (T.obj _ _ st7);have hg2:=hg' _ s7 σ5 H7 x u _ I7' r7 (step x H7 y7);rw [exe,eprog,ew,eA] at hg2;refine thn hg2 fun _ s8 ⟨σ8,H8,I8,q8⟩=>?_;have hc2:=hcs' _ s8 σ8 H8 _ I8 q8;rw [exe,eprog,ew,eA] at hc2;refine thn hc2 fun ok s9 ⟨H9,I9,q9⟩=>?_;have again:∀ {H':Hp} {s':Shared} {m':Nat},Inv X' ([]++q2g fp s7.heap) σ8 H' s'->m'<n->W (i+1) m' σ8 H'->∃m,m<n/\∃i σ' H',Inv X' [] σ' H' s'/\tn i s'.heap/\(∀b∈fp,H' b=none)/\W i m σ' H':=fun {H' s' m'} J' hm w'=>by
    refine⟨m',hm,i+1, σ8,H',J'.unpinned,T.keep _ _ _ st7 fun b hb o e=>(J'.pin (b,o) (mi _ (mi _ (q0v hb e)))).1,fun b hb=>?_,w'⟩;obtain⟨o,e,d⟩:=T.obj _ _ st7 b hb;exact(J'.pin (b,o) (mi _ (mi _ (q0v hb e)))).2.1
   cases ok with
   | false=>
    rw [m4 gj] at q9 ⊢;obtain⟨m',hm,w'⟩:=q9;exact again I9 hm w'
   | true=>
    rw [gz rfl] at q9 ⊢;have he2:=he' _ s9 σ8 H9 _ I9 q9;rw [exe,eprog,ew,eA] at he2;refine thn he2 fun y s10 ⟨yv,H10,I10,r10,xs,hp,hz,m',hm,w'⟩=>?_;have ha2:=q85 (X:=X') ([]++q2g fp s7.heap) s10 σ8 H10 (.ref s.heap.objs.size) [yv] (.ref s.heap.objs.size) [y] (fun _ H'=>H'=upd H10 s.heap.objs.size (.lst (xs++[yv]))) I10 rfl (.cons r10 .nil) ⟨_,xs,yv,rfl,rfl,hp,hz,rfl⟩;rw [exe,eprog,ew,eA] at ha2;refine thn ha2 fun _ s11 ⟨_,H11,I11,_,e11⟩=>?_;subst e11;exact again I11 hm w'
 exact codeAny_compStart_list loop (T.self _ 0 _ _ _ st4 loop)
theorem qjn(hc:X.calm=true)(co:CapOk X N' scope cap)(hi:PI X tg iter wi)
  (hg:∀cl C s₀ H₀ fp,PG (zx X N' scope cl C s₀ H₀ fp) tg g) (hcs:∀cl C s₀ H₀ fp,q0o (zx X N' scope cl C s₀ H₀ fp) ifs tc) (he:∀cl C s₀ H₀ fp,PE (zx X N' scope cl C s₀ H₀ fp) elt te)
  (hs:∀x,foldedSetIterable iter X.env x=pure x:=by intro _;rfl):PE X (.ListComp elt [⟨tg,iter,ifs,0⟩] scope pos) (qdq wi cap g tc te):=by
 intro pins s σ H Q I h;obtain⟨cl,ecl,c1,c2⟩:=q68 (scope:=scope) (env:=X.env) fun y hy hf=>I.ok.has y.1 (co.frees y hy hf);rw [eval_ListComp];refine wpAny_comprehension_free (use:=none) rfl hs ecl co.kind co.names (n9 (hi pins s σ H _ I h) (fun v s1 h1=>n9 h1 (fun itv s2 h2=>?_) fun _ _ e=>e) fun _ _ e=>e);obtain⟨it,fp,tn,J,H2,rfl,I2,T,st2,f2,h2⟩:=h2;refine q86 (K:=fun p=>Q (.ref p)) (RR:=fun acc C=>compPost (model X.prog X.w) X.A X.xe none (EP X pins σ Q) acc C) hc co c1 c2 hg hcs he I2 T st2 f2 h2 ?_;intro D C s' H' hle ⟨m,hm⟩ hI hC q;exact⟨m,hm,fun h' hs'=>⟨.ref D,H',hI h' hs',rfl,q⟩⟩
end
section
variable{X:Cx}{N':List Str}{scope:Scope}{cap:List (Option Nat)}{tg iter elt:Expr}{ifs:List Expr}{wi:TI}{g:TG}{tc:TT}{te:TE}{pos:Pos}
theorem qdr{i:Nat}{x:Str}{px pe:Pos}(hc:X.calm=true)(hN:X.N.Nodup)(hx0:X.N[i]? = some x)(hx:X.env.scope.names.lookup x=some .local)(co:CapOk X N' scope cap)(hi:PI X tg iter wi)
  (hg:∀cl C s₀ H₀ fp,PG (zx X N' scope cl C s₀ H₀ fp) tg g) (hcs:∀cl C s₀ H₀ fp,q0o (zx X N' scope cl C s₀ H₀ fp) ifs tc) (he:∀cl C s₀ H₀ fp,PE (zx X N' scope cl C s₀ H₀ fp) elt te)
  (hsw:swapsWith (.ListComp elt [⟨tg,iter,ifs,0⟩] scope pe) (some (.Name x px)) pos.line X.env=pure true:=by rfl)
  (hs:∀x,foldedSetIterable iter X.env x=pure x:=by intro _;rfl):PS X (.Assign [.Name x px] (.ListComp elt [⟨tg,iter,ifs,0⟩] scope pe) pos) (qlh (qdq wi cap g tc te) (q4u i)):=by
 intro pins s σ H D I h;obtain⟨cl,ecl,c1,c2⟩:=q68 (scope:=scope) (env:=X.env) fun y hy hf=>I.ok.has y.1 (co.frees y hy hf);rw [exec_Assign_Name_used _ _ _ _ hsw];refine g0 (wpAny_standAt (g0 ?_));show wpAny _ X.A (do let _ <- comprehension (.ListComp elt [⟨tg,iter,ifs,0⟩] scope pe) scope X.env _ (newList []) false (eval iter X.env) (some (assign (.Name x px) X.env))) _ _ s;refine g0 (n9 (wpAny_comprehension_free (use:=some (assign (.Name x px) X.env)) (Q:=fun _ s'=>SP X pins D .next s') rfl hs ecl co.kind co.names
  (n9 (hi pins s σ H _ I h) (fun v s1 h1=>n9 h1 (fun itv s2 h2=>?_) fun _ _ e=>e) fun _ _ e=>e)) (fun _ s' hq=>gb (gb hq)) fun _ _ e=>e)
 obtain⟨it,fp,tn,J,H2,rfl,I2,T,st2,f2,h2⟩:=h2;refine q86 (K:=fun p H'=>q4u i (.ref p) σ H' D.nx) (RR:=fun acc C=>compPost (model X.prog X.w) X.A X.xe (some (assign (.Name x px) X.env)) (fun _ s'=>SP X pins D .next s') acc C) hc co c1 c2 hg hcs he I2 T st2 f2 h2 ?_;intro Da C s' H' hle ⟨m,hm⟩ hI hC q;have I':Inv X pins σ H' s':=hI s'.heap (g0g ..);obtain⟨o,es,ep,ho,hd,hk⟩:=id hm;have hCL:C≠X.env.locals:=nk (gs I2.lt hle);have hCf:C∉X.fs:=I2.nofs hle;have I'':Inv X (pins++[(C,o)]) σ H' s':=I'.pins_of fun p hp=>(p5.mp hp).elim (fun z=>I'.pin p (mi _ z)) fun z=>by
  obtain rfl:p=(C,o):=by simpa using z
  exact⟨ho,hC,hCL,hCf,fun v z=>by rw [hd] at z;cases z⟩
 show wpAny (model X.prog X.w) X.A (assign (.Name x px) X.env (.ref Da)) _ _ _;refine wpAny_assign_Name (q2x I'' hN hx0 (.inl hx) (v:=.ref Da) rfl (fun s'' J=>?_) (.inr hx));have hC2:s''.heap.get? C=some o:=(J.pin (C,o) (mi _ (mi _ gv))).1;refine⟨m,⟨o,es,ep,hC2,hd,hk⟩,fun h' hs'=>?_⟩;have J2:Inv X pins (σ.set i (some (.ref Da))) H' {s'' with heap:=h'}:=J.unpinned.turned (t':=s''.toks) (it:=C) (fun b ob hb e=>(hs'.2 b hb).trans e) hC hCL
  (.inr (my I2.sz hle)) (fun y c e z=>by
   obtain⟨v,q2⟩:=I2.cell y c e;exact absurd (gs q2.lt (by rw [z];exact hle)) (ph _)) fun p hp z=>by
   exact absurd (gs (gh (I2.pin p hp).1) (by rw [z];exact hle)) (ph _)
 exact⟨_,H',J2,q⟩
end
end L2
namespace DL
open PySem PySem.Spec PyProof.Rows L2
structure ExcC(K:PySem.W.Frag)(D:Addr): Prop where
 ga:PySem.W.findIn K (.ref D) "__getattribute__" = some (some (.builtin "BaseException.__getattribute__"))
 gk:PySem.W.findIn K (.ref D) "__getattr__" = some none
 cc:PySem.W.findIn K (.ref D) "__class__" = some (some (.builtin "object.__class__"))
 cs:PySem.W.specialIn K (.builtin "object.__class__") "__get__" = some (some (.builtin "getset_descriptor.__get__"))
 ct:PySem.W.takesIn K (.builtin "object.__class__")=some true
 cm:PySem.W.mroIn K D (.type "object")=some true
 cb:PySem.W.mroIn K D (.type "BaseException")=some true
section
variable{prog:Program}{w:World}{A:Around}{E:Value->Shared->Prop}{K:PySem.W.Frag}{s:Shared}{x D:Addr}{ox:Obj}
open PySem.W in
theorem q7j(c:ExcC K D): (clsIn K D).isSome=true:=by
 have:=c.cm;unfold mroIn at this;cases q:clsIn K D with
 | none=>rw [q] at this;cases this
 | some cd=>rfl
def XE(a C:Addr)(h:Heap): Prop:=∃o vs,h.get? a=some o/\o.cls=.ref C/\o.data=.fields vs
open PySem.W in
theorem q13{M:Model}{a C:Addr}{h:Heap}(e:XE a C h): Looks M h (typeOf (.ref a)) (.ref C):=by
 obtain⟨o,vs,e1,e2,e3⟩:=e;exact e2 ▸ (Looks.ld e1).andThen .now
open PySem.W Builtin.ObjectAttr in
theorem qjo{M:Model}{h:Heap}(c:ExcC K D)(X:K.In h): Looks M h (find (.ref x) (.ref D) "__class__") (.bind (.builtin "getset_descriptor.__get__") (.builtin "object.__class__")):=by
 refine(looks_findIn (M:=M) X c.cc).andThen ((looks_specialIn (M:=M) X c.cs).andThen ?_);exact(show Looks M h (dataDescriptor? (some (.builtin "object.__class__")) (some (.builtin "getset_descriptor.__get__"))) (some (.builtin "getset_descriptor.__get__",.builtin "object.__class__")) from(looks_takesIn (M:=M) X c.ct).andThen .now).andThen (Looks.tag .now)
open PySem.W Builtin Builtin.ObjectAttr Builtin.Getset_descriptor in
theorem qm1{tp:Value}{R:Result->Shared->Prop}(c:ExcC K D)(X:K.In s.heap)(I:XE x D s.heap)(h:R (.ok (.ret (.ref D))) s):
  codeAny (model prog w) A (.call (.builtin "getset_descriptor.__get__") ⟨[.builtin "object.__class__",.ref x,tp],[]⟩) R s:=by
 obtain⟨hh,g,dr,t,os⟩:=s;have L0:=q13 (M:=model prog w) I;have L1:=looks_mroIn (M:=model prog w) X c.cm;refine g0t KF.slot_gs.plain KF.entry_gs (KF.slot_gs.check _ _ _ _ _ _ _ _ KF.type_class (KF.args_gs _ _ _) ?_);unfold Builtin.«getset_descriptor.__get__» descrGet;rw [dga_obj];refine g0 (gb ?_);unfold descrGetter descrCheckInstance descrNameAndClass isInstance;simp only [KF.owner_class]
 repeat lk
 refine⟨Code.quiet_builtin _ (by decide +kernel),t5 KF.entry_class ?_⟩;unfold Builtin.«object.__class__» shownTypeOf
 repeat lk
 exact h
open PySem.W in
theorem qhj{tk:Tok}{Q:Fin->Shared->Prop}(c:ExcC K D)(X:K.In s.heap)(I:XE x D s.heap)(hq:Q (.done (.ret (.ref D))) s):
  wpAny (model prog w) A (Builtin.«object.__getattribute__» ⟨[.ref x,.str "__class__" tk],[]⟩) Q E s:=by
 obtain⟨hh,g,dr,t,os⟩:=s;have L0:=q13 (M:=model prog w) I;have L1:=qjo (x:=x) (M:=model prog w) c X;unfold Builtin.«object.__getattribute__»;refine g0 (gb (g0 (gb (g0 (L0.at (g0 (L1.at ?_)))))));show wpAny _ _ (Builtin.ObjectAttr.bindTo _ _ _ _) _ _ _;unfold Builtin.ObjectAttr.bindTo;refine g0 (nv (g1u (qm1 c X I ?_)));exact gb hq
open PySem.W in
theorem qhk{M:Model}{nameV:Value}{Q:Unit->Shared->Prop}(c:ExcC K D)(X:K.In s.heap)(I:XE x D s.heap)(hq:Q () s): wpAny M A (checkBuiltinCall "BaseException.__getattribute__" ⟨[.ref x,nameV],[]⟩) Q E s:=by
 obtain⟨hh,g,dr,t,os⟩:=s;have L0:=q13 (M:=M) I;have L1:=looks_mroIn (M:=M) X c.cb;have hk:builtinKind "BaseException.__getattribute__" = some .slot:=by decide +kernel
 have hsplit:splitId "BaseException.__getattribute__" = some ("BaseException","__getattribute__"):=by decide +kernel
 have ha:=F.args_bexc_ga (.ref x) nameV;simp only [checkBuiltinCall,hk,hsplit];refine g0 ?_;unfold isInstance;refine g0 (L0.at (L1.at ?_))
 repeat (first|wp_step)
 exact hq
open PySem.W in
theorem qhl{Q:Option Value->Shared->Prop}(c:ExcC K D)(X:K.In s.heap)(I:XE x D s.heap)(h:Q (some (.ref D)) {s with toks:=s.toks+1}): wpAny (model prog w) A (getAttr? (.ref x) "__class__") Q E s:=by
 obtain⟨hh,g,dr,t,os⟩:=s;have L0:=q13 (M:=model prog w) I;have L1:=looks_findIn (M:=model prog w) X c.ga;have L2:=looks_findIn (M:=model prog w) X c.gk;have f3:=g2c.ga.bind (.ref x);unfold getAttr? getAttrBy? getAttrBy;refine g0 (wpAny_mkText (g0 (ur (nv (g0 (L0.at (g0 (L1.at ?_))))))));show wpAny _ _ (getAttrByItsOwn _ _ _ _ _ _) _ _ _;unfold getAttrByItsOwn hookBefore;rw [gz (show onTheHeap (Value.ref D)=true from rfl)];refine g0 (L2.at ?_);refine g0 (ur (nv ?_));unfold callGetattribute boundAndCalled;rw [m4 (by decide)];rw [f3];refine g0 (gb ?_);refine g1u (g0t g2c.ga.plain F.entry_bexc_ga (qhk c X I (qhj c X I ?_)));dsimp only;exact handed_on rfl (gb h)
theorem q5k(c:ExcC K D): PySem.W.KitX K (.ref x) (.ref D) (XE x D) where
 ty:=fun M h _ e=>q13 e
 it:=fun _ _ X _=>by
  obtain⟨cdD,hcD⟩:=tf.mp (q7j c);unfold PySem.W.clsIn at hcD
  split at hcD
  ·rename_i c' d' cd' sl' ho
   intro A' Q' E' s' k q;unfold isType loadHead;exact g0 (wpAny_loadPart (k _ _ (X _ _ ho)) (gb q))
  ·cases hcD
 ne:=fun h tp dd its n sl X htp=>by
  obtain⟨cdD,hcD⟩:=tf.mp (q7j c);refine Bool.eq_false_iff.mpr fun q=>?_;have e:D=tp:=Value.ref.inj (g1b.mp q);subst e;unfold PySem.W.clsIn at hcD
  split at hcD
  ·rename_i c' d' cd' sl' ho
   have z:=(X _ _ ho).symm.trans htp;cases z
  ·cases hcD
 ca:=fun X e k=>qhl c X e k
end
def q1a(K:PySem.W.Frag)(C:Addr): Prop:=ExcC K C/\∀T:String,T∈["int","bool","tuple","list","str","dict"]->PySem.W.kitOne K (.ref C) (.type T)=some false
inductive D where
 | non
 | bl (b:Bool)
 | int (i:Int)
 | str (x:Str)
 | tup (ds:List D)
 | lst (ds:List D)
 | dct (ks:List Key) (vs:List D)
 | dtt (ks:List (List Int)) (vs:List D)
 | obj (x:Str)
 | exc (x:Str)
abbrev Frag:=PySem.W.Frag
abbrev St:=L2.St
def qhm(K:Frag)(C:Addr): Prop:=PySem.W.plainGet K C "__class__" = true/\PySem.W.hasDictIn K C=true/\PySem.W.findIn K (.ref C) "__class__" = some (some (.builtin "object.__class__")) /\
 PySem.W.specialIn K (.builtin "object.__class__") "__get__" = some (some (.builtin "getset_descriptor.__get__"))/\PySem.W.takesIn K (.builtin "object.__class__")=some true/\PySem.W.mroIn K C (.type "object")=some true /\
 ∀T:String,T∈["int","bool","tuple","list","str","dict"]->PySem.W.kitOne K (.ref C) (.type T)=some false
def qpa(x:List Int×Addr×Value): DictEntry:=⟨reduceHash (Builtin.Tuple.tupleHashOf (x.1.map hashInt)),.ref x.2.1,x.2.2⟩
def DE(a:Addr)(xs:List (List Int×Addr×Value))(ep:Nat)(h:Heap): Prop:=∃o es,h.get? a=some o/\o.ExactDict/\o.data=.dict es ep/\es.toList=xs.map qpa
mutual
/-- v stands for the datum in the heap H -/
def Rep(K:Frag)(H:Hp): D->V->Prop
 | .non,v=>v=.non
 | .bl b,v=>v=.bl b
 | .int i,v=>v=.int i
 | .str x,v=>v=.str x
 | .tup ds,v=>∃a xs,v=.ref a/\SqT K H a xs/\RepL K H ds xs
 | .lst ds,v=>∃a xs,v=.ref a/\SqL K H a xs/\RepL K H ds xs
 | .dct ks vs,v=>∃a xs,v=.ref a/\H a=some (.dK (ks.zip xs))/\ks.length=xs.length/\RepL K H vs xs
 | .dtt ks vs,v=>∃a xs ys ep,v=.ref a/\H a=some (.ext (DE a xs ep))/\xs.map (·.1)=ks/\ks.Nodup/\xs.length<=sizeLine/\(a==sysModules)=false/\(∀x∈xs,SqT K H x.2.1 (x.1.map V.int))/\Vals ys (xs.map fun x=>x.2.2)/\RepL K H vs ys
 | .obj x,v=>∃a dx C,v=.ref a/\H a=some (.ins C dx [])/\PySem.W.nsIn K mainGlobals x=some (some (.ref C))/\qhm K C
 | .exc x,v=>∃a C,v=.ref a/\H a=some (.ext (XE a C))/\PySem.W.nsIn K mainGlobals x=some (some (.ref C))/\q1a K C
def RepL(K:Frag)(H:Hp): List D->List V->Prop
 | [],xs=>xs=[]
 | d :: ds,xs=>∃x r,xs=x :: r/\Rep K H d x/\RepL K H ds r
end
theorem ql{K:Frag}{H H':Hp}{a:Addr}{xs:List V}(e:Same H H')(h:SqT K H a xs): SqT K H' a xs:=by
 rcases h with(h|⟨o,h⟩)|h
 ·exact .inl (.inl (e _ _ h))
 ·exact .inl (.inr ⟨o,e _ _ h⟩)
 ·exact .inr h
mutual
theorem Rep.mono{K:Frag}{H H':Hp}(e:Same H H'): ∀ {d:D} {v:V},Rep K H d v->Rep K H' d v
 | .non,v,h=>by simpa only [Rep] using h
 | .bl b,v,h=>by simpa only [Rep] using h
 | .int i,v,h=>by simpa only [Rep] using h
 | .str x,v,h=>by simpa only [Rep] using h
 | .tup ds,v,h=>by
  simp only [Rep] at h ⊢;obtain⟨a,xs,e1,e2,e3⟩:=h;exact⟨a,xs,e1,ql e e2,RepL.mono e e3⟩
 | .lst ds,v,h=>by
  simp only [Rep] at h ⊢;obtain⟨a,xs,e1,e2,e3⟩:=h;exact⟨a,xs,e1,e.seq e2,RepL.mono e e3⟩
 | .dct ks vs,v,h=>by
  simp only [Rep] at h ⊢;obtain⟨a,xs,e1,e2,e3,e4⟩:=h;exact⟨a,xs,e1,e _ _ e2,e3,RepL.mono e e4⟩
 | .dtt ks vs,v,h=>by
  simp only [Rep] at h ⊢;obtain⟨a,xs,ys,ep,e1,e2,e3,e4,e5,e6,e7,e8,e9⟩:=h;exact⟨a,xs,ys,ep,e1,e _ _ e2,e3,e4,e5,e6,fun x hx=>ql e (e7 x hx),e8,RepL.mono e e9⟩
 | .obj x,v,h=>by
  simp only [Rep] at h ⊢;obtain⟨a,dx,C,e1,e2,e3⟩:=h;exact⟨a,dx,C,e1,e _ _ e2,e3⟩
 | .exc x,v,h=>by
  simp only [Rep] at h ⊢;obtain⟨a,C,e1,e2,e3⟩:=h;exact⟨a,C,e1,e _ _ e2,e3⟩
theorem RepL.mono{K:Frag}{H H':Hp}(e:Same H H'): ∀ {ds:List D} {xs:List V},RepL K H ds xs->RepL K H' ds xs
 | [],xs,h=>by simpa only [RepL] using h
 | d :: ds,xs,h=>by
  simp only [RepL] at h ⊢;obtain⟨x,r,e1,e2,e3⟩:=h;exact⟨x,r,e1,Rep.mono e e2,RepL.mono e e3⟩
end
section
variable{K:Frag}{H:Hp}
theorem RepL.nil:RepL K H [] []:=by simp only [RepL]
theorem RepL.cons{d:D}{ds:List D}{x:V}{xs:List V}(h:Rep K H d x)(t:RepL K H ds xs): RepL K H (d :: ds) (x :: xs):=by
 simp only [RepL];exact⟨x,xs,rfl,h,t⟩
theorem RepL.nil_inv{xs:List V}(h:RepL K H [] xs): xs=[]:=by simpa only [RepL] using h
theorem RepL.cons_inv{d:D}{ds:List D}{xs:List V}(h:RepL K H (d :: ds) xs): ∃x r,xs=x :: r/\Rep K H d x/\RepL K H ds r:=by simpa only [RepL] using h
theorem RepL.length:∀ {ds:List D} {xs:List V},RepL K H ds xs->ds.length=xs.length
 | [],xs,h=>by rw [h.nil_inv];rfl
 | d :: ds,xs,h=>by
  obtain⟨x,r,rfl,_,t⟩:=h.cons_inv;simp [RepL.length t]
theorem RepL.append:∀ {ds es:List D} {xs ys:List V},RepL K H ds xs->RepL K H es ys->RepL K H (ds++es) (xs++ys)
 | [],es,xs,ys,h,t=>by rw [h.nil_inv];exact t
 | d :: ds,es,xs,ys,h,t=>by
  obtain⟨x,r,rfl,h1,h2⟩:=h.cons_inv;exact .cons h1 (RepL.append h2 t)
theorem RepL.get:∀ {ds:List D} {xs:List V} {i:Nat} {d:D},RepL K H ds xs->ds[i]? = some d->∃x,xs[i]? = some x/\Rep K H d x
 | [],xs,i,d,h,e=>by simp at e
 | d :: ds,xs,0,d',h,e=>by
  obtain⟨x,r,rfl,h1,h2⟩:=h.cons_inv;simp at e;subst e;exact⟨x,rfl,h1⟩
 | d :: ds,xs,i+1,d',h,e=>by
  obtain⟨x,r,rfl,h1,h2⟩:=h.cons_inv;obtain⟨y,e1,e2⟩:=RepL.get (i:=i) h2 (by simpa using e);exact⟨y,by simpa using e1,e2⟩
theorem RepL.take:∀ {ds:List D} {xs:List V} (n:Nat),RepL K H ds xs->RepL K H (ds.take n) (xs.take n)
 | _,_,0,_=>by simp only [List.take_zero];exact .nil
 | [],xs,n+1,h=>by rw [h.nil_inv];exact .nil
 | d :: ds,xs,n+1,h=>by
  obtain⟨x,r,rfl,h1,h2⟩:=h.cons_inv;exact .cons h1 (RepL.take n h2)
theorem RepL.drop:∀ {ds:List D} {xs:List V} (n:Nat),RepL K H ds xs->RepL K H (ds.drop n) (xs.drop n)
 | ds,xs,0,h=>by simpa only [g27] using h
 | [],xs,n+1,h=>by rw [h.nil_inv];exact .nil
 | d :: ds,xs,n+1,h=>by
  obtain⟨x,r,rfl,h1,h2⟩:=h.cons_inv;exact RepL.drop n h2
theorem RepL.ints:∀ {ns:List Int} {xs:List V},RepL K H (ns.map D.int) xs↔xs=ns.map V.int
 | [],xs=>by simp only [g03,RepL]
 | n :: ns,xs=>by
  simp only [gx,RepL]
  constructor
  ·rintro⟨x,r,rfl,h1,h2⟩
   simp only [Rep] at h1;rw [h1,RepL.ints.mp h2]
  ·rintro rfl
   exact⟨_,_,rfl,by simp only [Rep],RepL.ints.mpr rfl⟩
theorem rep_int{i:Int}{v:V}: Rep K H (.int i) v↔v=.int i:=by simp only [Rep]
theorem rep_bl{i:Bool}{v:V}: Rep K H (.bl i) v↔v=.bl i:=by simp only [Rep]
theorem rep_str{i:Str}{v:V}: Rep K H (.str i) v↔v=.str i:=by simp only [Rep]
theorem rep_non{v:V}: Rep K H .non v↔v=.non:=by simp only [Rep]
theorem rep_tup{ds:List D}{v:V}: Rep K H (.tup ds) v↔∃a xs,v=.ref a/\SqT K H a xs/\RepL K H ds xs:=by simp only [Rep]
theorem rep_lst{ds:List D}{v:V}: Rep K H (.lst ds) v↔∃a xs,v=.ref a/\SqL K H a xs/\RepL K H ds xs:=by simp only [Rep]
theorem rep_dct{ks:List Key}{vs:List D}{v:V}: Rep K H (.dct ks vs) v↔∃a xs,v=.ref a/\H a=some (.dK (ks.zip xs))/\ks.length=xs.length/\RepL K H vs xs:=by simp only [Rep]
theorem rep_dtt{ks:List (List Int)}{vs:List D}{v:V}: Rep K H (.dtt ks vs) v↔∃a xs ys ep,v=.ref a/\H a=some (.ext (DE a xs ep))/\xs.map (·.1)=ks/\ks.Nodup/\xs.length<=sizeLine/\(a==sysModules)=false/\(∀x∈xs,SqT K H x.2.1 (x.1.map V.int))/\Vals ys (xs.map fun x=>x.2.2)/\RepL K H vs ys:=by simp only [Rep]
theorem rep_exc{x:Str}{v:V}: Rep K H (.exc x) v↔∃a C,v=.ref a/\H a=some (.ext (XE a C))/\PySem.W.nsIn K mainGlobals x=some (some (.ref C))/\q1a K C:=by simp only [Rep]
theorem rep_obj{x:Str}{v:V}: Rep K H (.obj x) v↔∃a dx C,v=.ref a/\H a=some (.ins C dx [])/\PySem.W.nsIn K mainGlobals x=some (some (.ref C))/\qhm K C:=by simp only [Rep]
end
class Lam where
 tab:List (Addr×Str)
variable[Lam]
def Tab(H:Hp): Prop:=∀p∈Lam.tab,∃ps,H p.1=some (.tbl ps)/\TriplesOk ps.toList/\∀pos cv,codeAmong pos ps.toList=some cv->∃c φ,cv=.ref c/\H c=some (.ext φ)/\∀h, φ h->h.CodeRec (.ref c) p.2
def qhn(F:Hp): Prop:=∀p∈Lam.tab,F p.1=none
theorem Tab.updG{H:Hp}(t:Tab H){p:Addr}{o:HO}(h:∀u,H p=some u->(∀ps,u ≠ .tbl ps)/\∀ φ,u ≠ .ext φ): Tab (upd H p o):=fun q hq=>by
 obtain⟨ps,e,ht,k⟩:=t q hq;refine⟨ps,by rw [qk (fun z=>by subst z;exact(h _ e).1 ps rfl)];exact e,ht,fun pos cv z=>?_⟩;obtain⟨c, φ,e1,e2,e3⟩:=k pos cv z;exact⟨c, φ,e1,by rw [qk (fun z=>by subst z;exact(h _ e2).2 φ rfl)];exact e2,e3⟩
theorem Tab.upd{H:Hp}(t:Tab H){p:Addr}{o:HO}(h:H p=none\/∃xs,H p=some (.lst xs)): Tab (upd H p o):=t.updG fun u e=>by
 rcases h with h|⟨xs,h⟩
 ·rw [h] at e;cases e
 ·rw [h] at e;cases e;exact⟨nofun,nofun⟩
structure Kept(H H':Hp): Prop where
 lst:∀b xs,H b=some (.lst xs)->H' b=some (.lst xs)
 ext:∀b φ,H b=some (.ext φ)->H' b=some (.ext φ)
 free:∀ {b},H' b=none->H b=none
 tb:Tab H->Tab H'
 dk:∀b kvs,H b=some (.dK kvs)->H' b=some (.dK kvs)
theorem Kept.refl(H:Hp): Kept H H:=⟨fun _ _ e=>e,fun _ _ e=>e,fun e=>e,fun t=>t,fun _ _ e=>e⟩
theorem Kept.trans{H H1 H2:Hp}(a:Kept H H1)(b:Kept H1 H2): Kept H H2:=⟨fun c xs e=>b.lst c xs (a.lst c xs e),fun c φ e=>b.ext c φ (a.ext c φ e),fun e=>a.free (b.free e),fun t=>b.tb (a.tb t),fun c kvs e=>b.dk c kvs (a.dk c kvs e)⟩
theorem Kept.new{H:Hp}{p:Addr}{o:HO}(hp:H p=none): Kept H (upd H p o):=⟨fun b xs e=>by rw [qk (zq e hp)];exact e,fun b φ e=>by rw [qk (zq e hp)];exact e,fun {b} e=>by
 by_cases z:b=p
 ·subst z;exact hp
 ·rw [qk z] at e;exact e,fun t=>t.upd (.inl hp),fun b kvs e=>by rw [qk (zq e hp)];exact e⟩
structure SameT(F H:Hp): Prop where
 s:Same F H
 t:Tab H
 f:qhn F
structure Grow(F H F' H':Hp): Prop where
 ff:Same F F'
 hh:Kept H H'
 fh:Same F' H'
 nw:∀b,F' b≠none->F b≠none\/H b=none
theorem Grow.refl{F H:Hp}(h:Same F H): Grow F H F H:=⟨.refl _,.refl _,h,fun _ h=>.inl h⟩
theorem Grow.trans{F H F1 H1 F2 H2:Hp}(a:Grow F H F1 H1)(b:Grow F1 H1 F2 H2): Grow F H F2 H2:=
 ⟨a.ff.trans b.ff,a.hh.trans b.hh,b.fh,fun c h=>(b.nw c h).elim (fun z=>a.nw c z) fun z=>.inr (a.hh.free z)⟩
theorem q2y{H:Hp}{p:Addr}{o:HO}(h:H p=none): Same H (upd H p o):=fun b u q=>by rw [qk (zq q h)];exact q
theorem qfh{F H:Hp}{p:Addr}{o:HO}(h:Same F H): Same (upd F p o) (upd H p o):=fun b u q=>by
 unfold upd at q ⊢
 split
 ·rename_i z;rw [gz z] at q;exact q
 ·rename_i z;rw [m4 z] at q;exact h _ _ q
theorem Grow.new{F H:Hp}{p:Addr}{o:HO}(h:Same F H)(hp:H p=none): Grow F H (upd F p o) (upd H p o):=
 ⟨q2y (h.free hp),.new hp,qfh h,fun b hb=>by
  by_cases e:b=p
  ·subst e;exact .inr hp
  ·rw [qk e] at hb;exact .inl hb⟩
theorem Grow.own{F H:Hp}{p:Addr}{o:HO}(h:Same F H)(hp:H p=none): Grow F H F (upd H p o):=
 ⟨.refl _,.new hp,h.trans (q2y hp),fun _ h=>.inl h⟩
inductive B where
 | fz (d:D)
 | ow (ds:List D)
 | od (kvs:List (Int×List D))
abbrev Rho:=List (Option B)
def qpb(ks:List Int)(bs:List Addr): List (Key×V):=(ks.map Sum.inl).zip (bs.map V.ref)
structure ODt(K:Frag)(F H H0:Hp)(a:Addr)(bs:List Addr)(kvs:List (Int×List D)): Prop where
 h:H a=some (.dK (qpb (kvs.map (·.1)) bs))
 f:F a=none
 z:H0 a=none
 len:bs.length=kvs.length
 nd:bs.Nodup
 b:∀(j:Nat) (b:Addr) (k:Int) (ds:List D),bs[j]? = some b->kvs[j]? = some (k,ds)->∃xs,H b=some (.lst xs)/\F b=none/\H0 b=none/\RepL K F ds xs
structure RS(K:Frag)(F0 H0 F H:Hp)(σ : St)(ρ : Rho): Prop where
 t0:Tab H0/\qhn F0
 g:Grow F0 H0 F H
 len : σ.length = ρ.length
 fz:∀(i:Nat) (d:D), ρ[i]? = some (some (.fz d))->∃v, σ[i]? = some (some v)/\Rep K F d v
 ow:∀(i:Nat) (ds:List D), ρ[i]? = some (some (.ow ds))->∃a xs, σ[i]? = some (some (.ref a))/\H a=some (.lst xs)/\F a=none/\H0 a=none/\RepL K F ds xs
 dj:∀(i j:Nat) (ds es:List D) (a:Addr),i≠j -> ρ[i]? = some (some (.ow ds)) -> ρ[j]? = some (some (.ow es)) -> σ[i]? = some (some (.ref a)) -> σ[j]? ≠ some (some (.ref a))
 od:∀(i:Nat) (kvs:List (Int×List D)), ρ[i]? = some (some (.od kvs))->∃a bs, σ[i]? = some (some (.ref a))/\ODt K F H H0 a bs kvs/\∀(j:Nat) (es:List D) (b:Addr), ρ[j]? = some (some (.ow es))->b∈bs -> σ[j]? ≠ some (some (.ref b))
 o1:∀(i j:Nat) (k1 k2:List (Int×List D)), ρ[i]? = some (some (.od k1)) -> ρ[j]? = some (some (.od k2))->i=j
theorem qcp{F H F' H':Hp}{a:Addr}{o:HO}(g:Grow F H F' H')(h1:F a=none)(h2:H a=some o): F' a=none:=by
 cases q:F' a with
 | none=>rfl
 | some o=>
  rcases g.nw a (by rw [q];simp) with z|z
  ·exact absurd h1 z
  ·rw [h2] at z;cases z
theorem ODt.mem{K:Frag}{F H H0:Hp}{a:Addr}{bs:List Addr}{kvs:List (Int×List D)}(o:ODt K F H H0 a bs kvs){b:Addr}(h:b∈bs): ∃xs,H b=some (.lst xs)/\F b=none/\H0 b=none:=by
 obtain⟨j,hj⟩:=g3c.mp h;have hl:j<kvs.length:=by rw [<- o.len];exact(ma.mp hj).1
 obtain⟨xs,e1,e2,e3,_⟩:=o.b j b _ _ hj (m9 hl);exact⟨xs,e1,e2,e3⟩
theorem ODt.grow{K:Frag}{F H F' H' H0:Hp}{a:Addr}{bs:List Addr}{kvs:List (Int×List D)}(o:ODt K F H H0 a bs kvs)(g:Grow F H F' H'): ODt K F' H' H0 a bs kvs where
 h:=g.hh.dk _ _ o.h
 f:=qcp g o.f o.h
 z:=o.z
 len:=o.len
 nd:=o.nd
 b:=fun j b k ds e1 e2=>by
  obtain⟨xs,z1,z2,z3,z4⟩:=o.b j b k ds e1 e2;exact⟨xs,g.hh.lst _ _ z1,qcp g z2 z1,z3,z4.mono g.ff⟩
theorem ODt.other{K:Frag}{F H H0:Hp}{a p:Addr}{bs:List Addr}{kvs:List (Int×List D)}{u:HO}(o:ODt K F H H0 a bs kvs)(h1:p≠a)(h2:p∉bs): ODt K F (upd H p u) H0 a bs kvs where
 h:=by rw [qk (gw h1)];exact o.h
 f:=o.f
 z:=o.z
 len:=o.len
 nd:=o.nd
 b:=fun j b k ds e1 e2=>by
  obtain⟨xs,z1,z2,z3,z4⟩:=o.b j b k ds e1 e2;have ne:b≠p:=fun q=>h2 (by rw [<- q];exact tm e1);exact⟨xs,by rw [qk ne];exact z1,z2,z3,z4⟩
theorem ODt.otherF{K:Frag}{F H H0:Hp}{a p:Addr}{bs:List Addr}{kvs:List (Int×List D)}{u:HO}(o:ODt K F H H0 a bs kvs)(hs:Same F (upd F p u))(h1:p≠a)(h2:p∉bs): ODt K (upd F p u) H H0 a bs kvs where
 h:=o.h
 f:=by rw [qk (gw h1)];exact o.f
 z:=o.z
 len:=o.len
 nd:=o.nd
 b:=fun j b k ds e1 e2=>by
  obtain⟨xs,z1,z2,z3,z4⟩:=o.b j b k ds e1 e2;have ne:b≠p:=fun q=>h2 (by rw [<- q];exact tm e1);exact⟨xs,z1,by rw [qk ne];exact z2,z3,z4.mono hs⟩
section
variable{K:Frag}{F0 H0 F H F' H':Hp}{σ : St}{ρ : Rho}
theorem RS.fh(r:RS K F0 H0 F H σ ρ): Same F H:=r.g.fh
theorem RS.tab(r:RS K F0 H0 F H σ ρ): Tab H:=r.g.hh.tb r.t0.1
theorem RS.tabF(r:RS K F0 H0 F H σ ρ): qhn F:=fun p hp=>by
 cases q:F p.1 with
 | none=>rfl
 | some o=>
  rcases r.g.nw p.1 (by rw [q];simp) with z|z
  ·exact absurd (r.t0.2 p hp) z
  ·obtain⟨ps,e,_⟩:=r.t0.1 p hp
   rw [e] at z;cases z
theorem RS.grow(r:RS K F0 H0 F H σ ρ)(g:Grow F H F' H'): RS K F0 H0 F' H' σ ρ where
 t0:=r.t0
 g:=r.g.trans g
 len:=r.len
 fz:=fun i d e=>let⟨v,e1,e2⟩:=r.fz i d e; ⟨v,e1,e2.mono g.ff⟩
 ow:=fun i ds e=>by
  obtain⟨a,xs,e1,e2,e3,e4,e5⟩:=r.ow i ds e;refine⟨a,xs,e1,g.hh.lst _ _ e2,?_,e4,e5.mono g.ff⟩;cases q:F' a with
  | none=>rfl
  | some o=>
   rcases g.nw a (by rw [q];simp) with z|z
   ·exact absurd e3 z
   ·rw [e2] at z;cases z
 dj:=r.dj
 od:=fun i kvs e=>let⟨a,bs,e1,e2,e3⟩:=r.od i kvs e; ⟨a,bs,e1,e2.grow g,e3⟩
 o1:=r.o1
theorem RS.sameT(r:RS K F0 H0 F H σ ρ)(g:Grow F H F' H'): SameT F' H':=⟨g.fh,(r.grow g).tab,(r.grow g).tabF⟩
theorem qr{α : Type}{l:List α}{i:Nat}{x y : α}(h:(l.set i x)[i]? = some y): y=x/\i<l.length:=by
 rw [g1h] at h;simp only [pb] at h
 split at h
 ·exact⟨(mh h).symm,by assumption⟩
 ·cases h
theorem RS.set(r:RS K F0 H0 F H σ ρ){d:D}{v:V}(i:Nat)(h:Rep K F d v): RS K F0 H0 F H (σ.set i (some v)) (ρ.set i (some (.fz d))) where
 t0:=r.t0
 g:=r.g
 len:=by rw [t6,t6];exact r.len
 fz:=fun j e h1=>by
  by_cases q:j=i
  ·subst q
   obtain⟨z,l⟩:=qr h1;cases z;exact⟨v,by rw [g1h];simp [r.len,l],h⟩
  ·rw [gd (gw q)] at h1 ⊢
   exact r.fz j e h1
 ow:=fun j ds h1=>by
  by_cases q:j=i
  ·subst q
   obtain⟨z,l⟩:=qr h1;cases z
  ·rw [gd (gw q)] at h1 ⊢
   exact r.ow j ds h1
 dj :=fun j k ds es a hjk h1 h2 h3=>by
  by_cases q:j=i
  ·subst q
   obtain⟨z,l⟩:=qr h1;cases z
  ·by_cases q2:k=i
   ·subst q2
    obtain⟨z,l⟩:=qr h2;cases z
   ·rw [gd (gw q)] at h1 h3
    rw [gd (gw q2)] at h2 ⊢;exact r.dj j k ds es a hjk h1 h2 h3
 od :=fun j kvs h1=>by
  by_cases q:j=i
  ·subst q
   obtain⟨z,l⟩:=qr h1;cases z
  ·rw [gd (gw q)] at h1 ⊢
   obtain⟨a,bs,e1,e2,e3⟩:=r.od j kvs h1;refine⟨a,bs,e1,e2,fun k es b h2 h3=>?_⟩
   by_cases q2:k=i
   ·subst q2
    obtain⟨z,l⟩:=qr h2;cases z
   ·rw [gd (gw q2)] at h2 ⊢
    exact e3 k es b h2 h3
 o1 :=fun j k k1 k2 h1 h2=>by
  by_cases q:j=i
  ·subst q
   obtain⟨z,l⟩:=qr h1;cases z
  ·by_cases q2:k=i
   ·subst q2
    obtain⟨z,l⟩:=qr h2;cases z
   ·rw [gd (gw q)] at h1
    rw [gd (gw q2)] at h2;exact r.o1 j k k1 k2 h1 h2
theorem RS.setO(r:RS K F0 H0 F H σ ρ){ds:List D}{xs:List V}{a:Addr}(i:Nat)(h1:H a=some (.lst xs))(h2:F a=none)(h3:H0 a=none)(h4:RepL K F ds xs)
  (h5:∀(j:Nat) (es:List D), ρ[j]? = some (some (.ow es)) -> σ[j]? ≠ some (some (.ref a)))
  (h6:∀(j:Nat) (kvs:List (Int×List D)), ρ[j]? = some (some (.od kvs))->∃a' bs, σ[j]? = some (some (.ref a'))/\ODt K F H H0 a' bs kvs/\a∉bs/\∀(j':Nat) (es:List D) (b:Addr), ρ[j']? = some (some (.ow es))->b∈bs -> σ[j']? ≠ some (some (.ref b))):RS K F0 H0 F H (σ.set i (some (.ref a))) (ρ.set i (some (.ow ds))) where
 t0:=r.t0
 g:=r.g
 len:=by rw [t6,t6];exact r.len
 fz:=fun j e q1=>by
  by_cases q:j=i
  ·subst q
   obtain⟨z,l⟩:=qr q1;cases z
  ·rw [gd (gw q)] at q1 ⊢
   exact r.fz j e q1
 ow:=fun j es q1=>by
  by_cases q:j=i
  ·subst q
   obtain⟨z,l⟩:=qr q1;cases z;exact⟨a,xs,by rw [g1h];simp [r.len,l],h1,h2,h3,h4⟩
  ·rw [gd (gw q)] at q1 ⊢
   exact r.ow j es q1
 dj :=fun j k ds' es b hjk q1 q2 q3=>by
  by_cases q:j=i
  ·subst q
   have e3:=qr q3;have eb:b=a:=by have:=e3.1;simpa using this
   subst eb;rw [gd hjk] at q2 ⊢;exact h5 k es q2
  ·rw [gd (gw q)] at q1 q3
   by_cases q4:k=i
   ·subst q4
    intro z;have eb:b=a:=by have:=(qr z).1;simpa using this
    subst eb;exact h5 j ds' q1 q3
   ·rw [gd (gw q4)] at q2 ⊢
    exact r.dj j k ds' es b hjk q1 q2 q3
 od :=fun j kvs q1=>by
  by_cases q:j=i
  ·subst q
   obtain⟨z,l⟩:=qr q1;cases z
  ·rw [gd (gw q)] at q1 ⊢
   obtain⟨a',bs,e1,e2,e3,e4⟩:=h6 j kvs q1;refine⟨a',bs,e1,e2,fun k es b p1 p2 p3=>?_⟩
   by_cases q2:k=i
   ·subst q2
    have eb:b=a:=by have:=(qr p3).1;simpa using this
    exact e3 (eb ▸ p2)
   ·rw [gd (gw q2)] at p1 p3
    exact e4 k es b p1 p2 p3
 o1 :=fun j k k1 k2 p1 p2=>by
  by_cases q:j=i
  ·subst q
   obtain⟨z,l⟩:=qr p1;cases z
  ·by_cases q2:k=i
   ·subst q2
    obtain⟨z,l⟩:=qr p2;cases z
   ·rw [gd (gw q)] at p1
    rw [gd (gw q2)] at p2;exact r.o1 j k k1 k2 p1 p2
theorem RS.wrt(r:RS K F0 H0 F H σ ρ){ds es:List D}{ys:List V}{a:Addr}{i:Nat}(h1 : ρ[i]? = some (some (.ow ds)))(h2 : σ[i]? = some (some (.ref a)))(h4:RepL K F es ys):
  RS K F0 H0 F (upd H a (.lst ys)) σ (ρ.set i (some (.ow es))):=by
 obtain⟨a',xs,e1,e2,e3,e4,e5⟩:=r.ow i ds h1;rw [h2] at e1;obtain rfl:a=a':=by simpa using e1
 have nF:∀b o,F b=some o->b≠a:=fun b o e z=>by subst z;rw [e3] at e;cases e
 exact {
  t0:=r.t0
  g :=⟨r.g.ff,⟨fun b o e=>by rw [qk (fun z=>by subst z;rw [e4] at e;cases e)];exact r.g.hh.lst b o e,fun b o e=>by rw [qk (fun z=>by subst z;rw [e4] at e;cases e)];exact r.g.hh.ext b o e,fun {b} e=>by
    by_cases z:b=a
    ·subst z;exact e4
    ·rw [qk z] at e;exact r.g.hh.free e,fun t=>(r.g.hh.tb t).upd (.inr ⟨_,e2⟩),fun b o e=>by rw [qk (fun z=>by subst z;rw [e4] at e;cases e)];exact r.g.hh.dk b o e⟩,fun b o e=>by rw [qk (nF b o e)];exact r.g.fh b o e,r.g.nw⟩
  len:=by rw [t6];exact r.len
  fz:=fun j e q1=>by
   by_cases q:j=i
   ·subst q
    obtain⟨z,l⟩:=qr q1;cases z
   ·rw [gd (gw q)] at q1
    exact r.fz j e q1
  ow :=fun j es' q1=>by
   by_cases q:j=i
   ·subst q
    obtain⟨z,l⟩:=qr q1;cases z;exact⟨a,ys,h2,qt,e3,e4,h4⟩
   ·rw [gd (gw q)] at q1
    obtain⟨b,zs,f1,f2,f3,f4,f5⟩:=r.ow j es' q1;have hb:b≠a:=fun z=>by
     subst z;exact r.dj i j ds es' b (gw q) h1 q1 h2 f1
    exact⟨b,zs,f1,by rw [qk hb];exact f2,f3,f4,f5⟩
  dj:=fun j k ds' es' b hjk q1 q2 q3=>by
   have back:∀(l:Nat) (us:List D),(ρ.set i (some (.ow es)))[l]? = some (some (.ow us))->∃ws, ρ[l]? = some (some (.ow ws)):=fun l us z=>by
    by_cases q:l=i
    ·subst q;exact⟨ds,h1⟩
    ·rw [gd (gw q)] at z;exact⟨us,z⟩
   obtain⟨w1,z1⟩:=back j ds' q1;obtain⟨w2,z2⟩:=back k es' q2;exact r.dj j k w1 w2 b hjk z1 z2 q3
  od:=fun j kvs q1=>by
   by_cases q:j=i
   ·subst q
    obtain⟨z,l⟩:=qr q1;cases z
   ·rw [gd (gw q)] at q1
    obtain⟨a',bs,f1,f2,f3⟩:=r.od j kvs q1;refine⟨a',bs,f1,f2.other (fun z=>by subst z;have:=f2.h;rw [e2] at this;cases this) fun z=>f3 i ds a h1 z h2,fun k es' b p1 p2=>?_⟩
    by_cases q2:k=i
    ·subst q2;exact f3 k ds b h1 p2
    ·rw [gd (gw q2)] at p1;exact f3 k es' b p1 p2
  o1 :=fun j k k1 k2 p1 p2=>by
   have back:∀(l:Nat) (us),(ρ.set i (some (.ow es)))[l]? = some (some (.od us)) -> ρ[l]? = some (some (.od us)):=fun l us z=>by
    by_cases q:l=i
    ·subst q
     obtain⟨z',_⟩:=qr z;cases z'
    ·rw [gd (gw q)] at z;exact z
   exact r.o1 j k k1 k2 (back _ _ p1) (back _ _ p2)}
theorem RS.freeze(r:RS K F0 H0 F H σ ρ){ds:List D}{i:Nat}(h1 : ρ[i]? = some (some (.ow ds))): ∃F',Same F F'/\RS K F0 H0 F' H σ (ρ.set i (some (.fz (.lst ds)))):=by
 obtain⟨a,xs,e1,e2,e3,e4,e5⟩:=r.ow i ds h1;have sF:Same F (upd F a (.lst xs)):=q2y e3;refine⟨upd F a (.lst xs),sF,?_⟩;exact {
  t0:=r.t0
  g :=⟨r.g.ff.trans sF,r.g.hh,fun b o e=>by
    by_cases q:b=a
    ·subst q;rw [qt] at e;cases e;exact e2
    ·rw [qk q] at e;exact r.g.fh b o e,fun b hb=>by
    by_cases q:b=a
    ·subst q;exact .inr e4
    ·rw [qk q] at hb;exact r.g.nw b hb⟩
  len:=by rw [t6];exact r.len
  fz:=fun j e q1=>by
   by_cases q:j=i
   ·subst q
    obtain⟨z,l⟩:=qr q1;cases z;exact⟨_,e1,rep_lst.mpr ⟨a,xs,rfl,SqL.of qt,e5.mono sF⟩⟩
   ·rw [gd (gw q)] at q1
    obtain⟨v,z1,z2⟩:=r.fz j e q1;exact⟨v,z1,z2.mono sF⟩
  ow :=fun j es' q1=>by
   by_cases q:j=i
   ·subst q
    obtain⟨z,l⟩:=qr q1;cases z
   ·rw [gd (gw q)] at q1
    obtain⟨b,zs,f1,f2,f3,f4,f5⟩:=r.ow j es' q1;have hb:b≠a:=fun z=>by
     subst z;exact r.dj i j ds es' b (gw q) h1 q1 e1 f1
    exact⟨b,zs,f1,f2,by rw [qk hb];exact f3,f4,f5.mono sF⟩
  dj :=fun j k ds' es' b hjk q1 q2 q3=>by
   have back:∀(l:Nat) (us:List D),(ρ.set i (some (.fz (.lst ds))))[l]? = some (some (.ow us)) -> ρ[l]? = some (some (.ow us)):=fun l us z=>by
    by_cases q:l=i
    ·subst q
     obtain⟨z',_⟩:=qr z;cases z'
    ·rw [gd (gw q)] at z;exact z
   exact r.dj j k ds' es' b hjk (back _ _ q1) (back _ _ q2) q3
  od:=fun j kvs q1=>by
   by_cases q:j=i
   ·subst q
    obtain⟨z,l⟩:=qr q1;cases z
   ·rw [gd (gw q)] at q1
    obtain⟨a',bs,f1,f2,f3⟩:=r.od j kvs q1;refine⟨a',bs,f1,f2.otherF sF (fun z=>by subst z;have:=f2.h;rw [e2] at this;cases this) fun z=>f3 i ds a h1 z e1,fun k es' b p1 p2=>?_⟩
    by_cases q2:k=i
    ·subst q2;exact f3 k ds b h1 p2
    ·rw [gd (gw q2)] at p1;exact f3 k es' b p1 p2
  o1 :=fun j k k1 k2 p1 p2=>by
   have back:∀(l:Nat) (us),(ρ.set i (some (.fz (.lst ds))))[l]? = some (some (.od us)) -> ρ[l]? = some (some (.od us)):=fun l us z=>by
    by_cases q:l=i
    ·subst q
     obtain⟨z',_⟩:=qr z;cases z'
    ·rw [gd (gw q)] at z;exact z
   exact r.o1 j k k1 k2 (back _ _ p1) (back _ _ p2)}
end
end DL
namespace DL
open PySem PySem.Spec PyProof.Rows L2
variable[Lam]
abbrev lim:Nat:=1000000
theorem x9{n:Nat}(h:n<=lim): n<=sizeLine:=my h (by decide)
theorem q87{n:Nat}(h:n<lim): n<sizeLine:=gs h (by decide)
abbrev FE:=Rho->Option D
abbrev FT:=Rho->Option Bool
abbrev FA:=Rho->Option (List D)
inductive Fl where
 | nx|bk|ct
 | rt (d:D)
abbrev FS:=Rho->Option (Fl×Rho)
def tD(K:Frag)(f:FE): TE:=fun σ H Q=>∃F0 H0 F ρ d,RS K F0 H0 F H σ ρ /\ f ρ = some d/\∀v F' H',Grow F H F' H'->Rep K F' d v->Q v H'
def tL(K:Frag)(f:FA): TE:=fun σ H Q=>∃F0 H0 F ρ ds,RS K F0 H0 F H σ ρ /\ f ρ = some ds/\∀a xs F' H',Grow F H F' H'->F' a=none->H a=none->H' a=some (.lst xs)->RepL K F' ds xs->Q (.ref a) H'
def tDT(K:Frag)(f:FT): TT:=fun σ H Q=>∃F0 H0 F ρ b,RS K F0 H0 F H σ ρ /\ f ρ = some b/\∀F' H',Grow F H F' H'->Q b H'
def tDA(K:Frag)(f:FA): TA:=fun σ H Q=>∃F0 H0 F ρ ds,RS K F0 H0 F H σ ρ /\ f ρ = some ds/\∀vs F' H',Grow F H F' H'->RepL K F' ds vs->Q vs H'
def qds(K:Frag)(F0 H0 F:Hp)(D:Ends)(fl:Fl)(ρ':Rho): Prop:=match fl with
 | .nx=>∀ σ' F' H',Same F F'->RS K F0 H0 F' H' σ' ρ'->D.nx σ' H'
 | .bk=>∀ σ' F' H',Same F F'->RS K F0 H0 F' H' σ' ρ'->D.bk σ' H'
 | .ct=>∀ σ' F' H',Same F F'->RS K F0 H0 F' H' σ' ρ'->D.ct σ' H'
 | .rt d=>∀v F' H',Grow F0 H0 F' H'->Rep K F' d v->D.rt v H'
def tDS(K:Frag)(f:FS): TS:=fun D σ H=>∃F0 H0 F ρ fl ρ',RS K F0 H0 F H σ ρ /\ f ρ = some (fl, ρ')/\qds K F0 H0 F D fl ρ'
section
variable{X:Cx}{e:Expr}{pos:Pos}
theorem za{t t':TE}(h:PE X e t)(i:∀ σ H Q,t' σ H Q->t σ H Q): PE X e t':=fun pins s σ H Q I q=>h pins s σ H Q I (i σ H Q q)
theorem q9r{t t':TT}(h:PT X e t)(i:∀ σ H Q,t' σ H Q->t σ H Q): PT X e t':=fun pins s σ H Q I q=>h pins s σ H Q I (i σ H Q q)
theorem qfi{es:List Expr}{t t':TA}(h:PA X es t)(i:∀ σ H Q,t' σ H Q->t σ H Q): PA X es t':=fun pos pins s σ H Q I q=>h pos pins s σ H Q I (i σ H Q q)
theorem jq{st:Stmt}{t t':TS}(h:PS X st t)(i:∀D σ H,t' D σ H->t D σ H): PS X st t':=fun pins s σ H D I q=>h pins s σ H D I (i D σ H q)
theorem q7k{st:List Stmt}{t t':TS}(h:PSs X st t)(i:∀D σ H,t' D σ H->t D σ H): PSs X st t':=fun pins s σ H D I q=>h pins s σ H D I (i D σ H q)
def eV(i:Nat): FE:=fun ρ =>match ρ[i]? with
 | some (some (.fz d))=>some d
 | _=>none
def eC(d:D): FE:=fun _=>some d
theorem qjp{i:Nat}{ρ : Rho}{d:D}(h:eV i ρ = some d): ρ[i]? = some (some (.fz d)):=by
 unfold eV at h
 split at h
 ·rename_i e;rw [e,mh h]
 ·cases h
theorem qa{K:Frag}{i:Nat}(h:PE X e (q9i i)): PE X e (tD K (eV i)):=za h fun σ H Q ⟨F0,H0,F, ρ,d,r,hf,q⟩=>by
 obtain⟨v,e1,e2⟩:=r.fz i d (qjp hf);exact⟨v,e1,q v F H (.refl r.fh) e2⟩
theorem q2z{K:Frag}{v:V}{d:D}(h:PE X e (tC v))(hd:∀H,Rep K H d v): PE X e (tD K (eC d)):=za h fun σ H Q ⟨F0,H0,F, ρ,d',r,hf,q⟩=>by
 cases hf;exact q v F H (.refl r.fh) (hd F)
theorem qh{K:Frag}{i j}: PE X (.Constant (.int i) j pos) (tD K (eC (.int i))):=q2z ql7 fun _=>rep_int.mpr rfl
theorem vv{K:Frag}{b j}: PE X (.Constant (.bool b) j pos) (tD K (eC (.bl b))):=q2z qnj fun _=>rep_bl.mpr rfl
theorem q0e{K:Frag}{j}: PE X (.Constant .none j pos) (tD K (eC .non)):=q2z ql8 fun _=>rep_non.mpr rfl
theorem qm2{K:Frag}{x j}: PE X (.Constant (.str x) j pos) (tD K (eC (.str x))):=q2z ql9 fun _=>rep_str.mpr rfl
def rD(K:Frag)(op:D->D->Option D): R2:=fun x y H Q=>∃F d1 d2 d,Same F H/\Rep K F d1 x/\Rep K F d2 y/\op d1 d2=some d/\∀v F' H',Grow F H F' H'->Rep K F' d v->Q v H'
def eOp(op:D->D->Option D)(f g:FE): FE:=fun ρ =>(f ρ).bind fun x=>(g ρ).bind fun y=>op x y
theorem two{K:Frag}{f g:FE}{op:D->D->Option D}{σ : St}{H:Hp}{Q:VK}(h:tD K (eOp op f g) σ H Q): tD K f σ H fun x H1=>tD K g σ H1 fun y H2=>rD K op x y H2 Q:=by
 obtain⟨F0,H0,F, ρ,d,r,hf,q⟩:=h;obtain⟨d1,h1,hf⟩:=g9.mp hf;obtain⟨d2,h2,h3⟩:=g9.mp hf;refine⟨F0,H0,F, ρ,d1,r,h1,fun v F1 H1 g1 r1=>⟨F0,H0,F1, ρ,d2,r.grow g1,h2,fun u F2 H2 g2 r2=>?_⟩⟩;exact⟨F2,d1,d2,d,g2.fh,r1.mono g2.ff,r2,h3,fun w F3 H3 g3 r3=>q w F3 H3 (g1.trans (g2.trans g3)) r3⟩
variable{a b:Expr}{f g:FE}
theorem qm{op:Operator}{o:D->D->Option D}(ho:OpR X (binaryOp op) (rD X.K o))(ha:PE X a (tD X.K f))(hb:PE X b (tD X.K g)): PE X (.BinOp a op b pos) (tD X.K (eOp o f g)):=
 za (qj1 ho ha hb) fun σ H Q h=>two h
theorem q14{f:Value->Value->Sem Value}{r r':R2}(h:OpR X f r)(i:∀x y H Q,r' x y H Q->r x y H Q): OpR X f r':=fun pins s σ H x y v u Q I rx ry q=>h pins s σ H x y v u Q I rx ry (i x y H Q q)
theorem q69{f:Value->Value->Sem Value}{K:Frag}{o o':D->D->Option D}(h:OpR X f (rD K o))(h':OpR X f (rD K o')): OpR X f (rD K fun x y=>(o x y).or (o' x y)):=fun pins s σ H x y v u Q I rx ry q=>by
 obtain⟨F,d1,d2,d,q1,q2,q3,q4,q5⟩:=q;have q4:(o d1 d2).or (o' d1 d2)=some d:=q4;cases e:o d1 d2 with
 | some d'=>rw [e] at q4;cases q4;exact h pins s σ H x y v u Q I rx ry ⟨F,d1,d2,_,q1,q2,q3,e,q5⟩
 | none=>rw [e] at q4;exact h' pins s σ H x y v u Q I rx ry ⟨F,d1,d2,d,q1,q2,q3,q4,q5⟩
def oI(C:Int->Int->Bool)(z:Int->Int->Int): D->D->Option D
 | .int i,.int j=>if C i j then some (.int (z i j)) else none
 | _,_=>none
def oB(z:Int->Int->Bool): D->D->Option D
 | .int i,.int j=>some (.bl (z i j))
 | _,_=>none
theorem qcq{C:Int->Int->Bool}{z:Int->Int->Int}{d1 d2 d:D}(h:oI C z d1 d2=some d): ∃i j,d1=.int i/\d2=.int j/\C i j=true/\d=.int (z i j):=by
 cases d1 <;> cases d2 <;> simp only [oI] at h <;> first|(cases h;done)|skip
 split at h
 ·exact⟨_,_,rfl,rfl,by assumption,(mh h).symm⟩
 ·cases h
theorem qjq{z:Int->Int->Bool}{d1 d2 d:D}(h:oB z d1 d2=some d): ∃i j,d1=.int i/\d2=.int j/\d=.bl (z i j):=by
 cases d1 <;> cases d2 <;> simp only [oB] at h <;> first|(cases h;done)|skip
 exact⟨_,_,rfl,rfl,(mh h).symm⟩
theorem q4v{fv:Value->Value->Sem Value}{P:Int->Int->Prop}{C:Int->Int->Bool}{z:Int->Int->Int}(h:OpR X fv (rI P fun i j=>.int (z i j)))(hC:∀i j,C i j=true->P i j): OpR X fv (rD X.K (oI C z)):=
 q14 h fun x y H Q ⟨F,d1,d2,d,q1,q2,q3,q4,q5⟩=>by
  obtain⟨i,j,rfl,rfl,c,rfl⟩:=qcq q4;exact⟨i,j,rep_int.mp q2,rep_int.mp q3,hC i j c,q5 _ F H (.refl q1) (rep_int.mpr rfl)⟩
theorem q9s{fv:Value->Value->Sem Value}{z:Int->Int->Int}(h:OpR X fv (rI0 fun i j=>.int (z i j))): OpR X fv (rD X.K (oI (fun _ _=>true) z)):=
 q14 h fun x y H Q ⟨F,d1,d2,d,q1,q2,q3,q4,q5⟩=>by
  obtain⟨i,j,rfl,rfl,c,rfl⟩:=qcq q4;exact⟨i,j,rep_int.mp q2,rep_int.mp q3,q5 _ F H (.refl q1) (rep_int.mpr rfl)⟩
theorem q6a{fv:Value->Value->Sem Value}{z:Int->Int->Bool}(h:OpR X fv (rI0 fun i j=>.bl (z i j))): OpR X fv (rD X.K (oB z)):=
 q14 h fun x y H Q ⟨F,d1,d2,d,q1,q2,q3,q4,q5⟩=>by
  obtain⟨i,j,rfl,rfl,rfl⟩:=qjq q4;exact⟨i,j,rep_int.mp q2,rep_int.mp q3,q5 _ F H (.refl q1) (rep_bl.mpr rfl)⟩
abbrev oAdd:=oI (fun _ _=>true) fun i j=>i+j
abbrev oSub:=oI (fun _ _=>true) fun i j=>i-j
abbrev oMul:=oI (fun i j=>(decide (-(2 ^ 64)<i)&&decide (i<2 ^ 64)) || (decide (-(2 ^ 64)<j)&&decide (j<2 ^ 64))) fun i j=>i*j
abbrev oDiv:=oI (fun _ j=>decide (0<j)&&decide (j<1073741824)) fun i j=>i / j
abbrev oMod:=oI (fun _ j=>decide (0<j)) fun i j=>i%j
theorem q03{p q:Prop}[Decidable p][Decidable q](h:(decide p&&decide q)=true): p/\q:=by simpa using h
theorem qm3:OpR X (binaryOp .Add) (rD X.K oAdd):=q9s qll
theorem q0f:OpR X (binaryOp .Sub) (rD X.K oSub):=q9s qlm
theorem qm4:OpR X (binaryOp .Mult) (rD X.K oMul):=q4v qln fun i j h=>by
 rcases g11 _ _ ▸ h with z|z
 ·exact .inl (q03 z)
 ·exact .inr (q03 z)
theorem q3r:OpR X (binaryOp .FloorDiv) (rD X.K oDiv):=q4v qjf fun i j h=>q03 h
theorem vd:OpR X (binaryOp .Mod) (rD X.K oMod):=q4v qlo fun i j h=>uz h
abbrev oShl:=oI (fun i j=>decide (0<=j)&&(decide (j<=1000000)&&decide (i.natAbs<2 ^ 64))) fun i j=>i*2 ^ j.toNat
abbrev oPow:=oI (fun i j=>decide (0<=j)&&(decide (j<=1000000)&&decide (i.natAbs<2 ^ 64))) fun i j=>i ^ j.toNat
theorem q9t{p q r:Prop}[Decidable p][Decidable q][Decidable r](h:(decide p&&(decide q&&decide r))=true): p/\q/\r:=by simpa using h
theorem qm5:OpR X (binaryOp .LShift) (rD X.K oShl):=q4v qlq fun i j h=>q9t h
theorem q6b:OpR X (binaryOp .Pow) (rD X.K oPow):=q4v qlp fun i j h=>q9t h
abbrev oLt:=oB fun i j=>decide (i<j)
abbrev oLe:=oB fun i j=>decide (i<=j)
abbrev oGt:=oB fun i j=>decide (j<i)
abbrev oGe:=oB fun i j=>decide (j<=i)
theorem qo5:OpR X (compareOp .Lt) (rD X.K oLt):=q6a qnu
theorem qj4:OpR X (compareOp .LtE) (rD X.K oLe):=q6a qnv
theorem qj5:OpR X (compareOp .Gt) (rD X.K oGt):=q6a qnw
theorem qj6:OpR X (compareOp .GtE) (rD X.K oGe):=q6a qnx
def flD:D->Option V
 | .non=>some .non
 | .bl b=>some (.bl b)
 | .int i=>some (.int i)
 | .str x=>some (.str x)
 | _=>none
theorem q4w{K:Frag}{H:Hp}{d:D}{v u:V}(h:flD d=some u)(r:Rep K H d v): v=u:=by
 cases d <;> simp only [flD] at h <;> first|(cases h;done)|skip
 ·cases h;exact rep_non.mp r
 ·cases h;exact rep_bl.mp r
 ·cases h;exact rep_int.mp r
 ·cases h;exact rep_str.mp r
def qho:D->D->Option D:=fun d e=>(flD d).bind fun x=>(flD e).bind fun y=>if q7f x y then some (.bl (decide (x=y))) else none
def q27:D->D->Option D:=fun d e=>(flD d).bind fun x=>(flD e).bind fun y=>if q7f x y then some (.bl (!decide (x=y))) else none
theorem qm6:OpR X (compareOp .Eq) (rD X.K qho):=q14 qns fun x y H Q ⟨F,d1,d2,d,q1,q2,q3,q4,q5⟩=>by
 obtain⟨u,h1,q4⟩:=g9.mp q4;obtain⟨w,h2,q4⟩:=g9.mp q4;cases q4w h1 q2;cases q4w h2 q3
 split at q4
 ·rename_i z
  cases q4;exact⟨z,q5 _ F H (.refl q1) (rep_bl.mpr rfl)⟩
 ·cases q4
theorem q6c:OpR X (compareOp .NotEq) (rD X.K q27):=q14 qnt fun x y H Q ⟨F,d1,d2,d,q1,q2,q3,q4,q5⟩=>by
 obtain⟨u,h1,q4⟩:=g9.mp q4;obtain⟨w,h2,q4⟩:=g9.mp q4;cases q4w h1 q2;cases q4w h2 q3
 split at q4
 ·rename_i z
  cases q4;exact⟨z,q5 _ F H (.refl q1) (rep_bl.mpr rfl)⟩
 ·cases q4
theorem q3s{op:CmpOp}{o:D->D->Option D}(ho:OpR X (compareOp op) (rD X.K o))(ha:PE X a (tD X.K f))(hb:PE X b (tD X.K g))(hm:behindInMarks op b=false:=by first|exact q9j _ (by decide) (by decide)|rfl):
  PE X (.Compare a [op] [b] pos) (tD X.K (eOp o f g)):=za (qjg ho ha hb hm) fun σ H Q h=>two h
def qdt:D->Option Bool
 | .non=>some false
 | .bl b=>some b
 | .int i=>some (i != 0)
 | .tup ds=>some (!ds.isEmpty)
 | .lst ds=>some (!ds.isEmpty)
 | .str x=>if x.length<=lim then some ((x.length:Int) != 0) else none
 | _=>none
def bT(f:FE): FT:=fun ρ =>(f ρ).bind qdt
theorem qm7{K:Frag}{F H:Hp}{d:D}{b:Bool}{v:V}(h:qdt d=some b)(fh:Same F H)(r:Rep K F d v): qh5 K v H b:=by
 cases d with
 | non=>cases h;rw [rep_non.mp r];rfl
 | bl c=>cases h;rw [rep_bl.mp r];rfl
 | int i=>cases h;rw [rep_int.mp r];rfl
 | str x=>
  simp only [qdt] at h
  split at h
  ·rename_i z
   cases h;rw [rep_str.mp r];exact⟨x9 z,rfl⟩
  ·cases h
 | tup ds=>
  cases h;obtain⟨p,xs,rfl,q1,q2⟩:=rep_tup.mp r;refine .inr (.inl ⟨xs,ql fh q1,?_⟩);cases ds with
  | nil=>rw [q2.nil_inv];rfl
  | cons d ds=>obtain⟨y,r',rfl,_⟩:=q2.cons_inv;rfl
 | lst ds=>
  cases h;obtain⟨p,xs,rfl,q1,q2⟩:=rep_lst.mp r;refine .inl ⟨xs,fh.seq q1,?_⟩;cases ds with
  | nil=>rw [q2.nil_inv];rfl
  | cons d ds=>obtain⟨y,r',rfl,_⟩:=q2.cons_inv;rfl
 | dct _ _=>cases h
 | dtt _ _=>cases h
 | obj _=>cases h
 | exc _=>cases h
theorem ja(ha:PE X a (tD X.K f))(he:∀whole,isTrue a X.env whole=(do let v <- whole;standAt a.pos;holding [v] (truthy v)):=by intro _;rfl): PT X a (tDT X.K (bT f)):=
 q9r (qh6 ha he) fun σ H Q ⟨F0,H0,F, ρ,b,r,hf,q⟩=>by
  obtain⟨d,h1,h2⟩:=g9.mp hf;exact⟨F0,H0,F, ρ,d,r,h1,fun v F' H' g' r'=>⟨b,qm7 h2 g'.fh r',q F' H' g'⟩⟩
def isB:D->Option Bool
 | .bl b=>some b
 | _=>none
def xa(o:D->D->Option D)(f g:FE): FT:=fun ρ =>(eOp o f g ρ).bind isB
theorem xb{op:CmpOp}{o:D->D->Option D}(ho:OpR X (compareOp op) (rD X.K o))(ha:PE X a (tD X.K f))(hb:PE X b (tD X.K g))(hm:behindInMarks op b=false:=by first|exact q9j _ (by decide) (by decide)|rfl):
  PT X (.Compare a [op] [b] pos) (tDT X.K (xa o f g)):=q9r (qjh ho ha hb hm) fun σ H Q ⟨F0,H0,F, ρ,c,r,hf,q⟩=>by
 obtain⟨d,h1,h2⟩:=g9.mp hf;refine two ⟨F0,H0,F, ρ,d,r,h1,fun v F' H' g' r'=>?_⟩;cases d <;> simp only [isB] at h2 <;> first|(cases h2;done)|skip
 cases h2;exact⟨_,rep_bl.mp r',q F' H' g'⟩
def we(t:FT): FT:=fun ρ =>(t ρ).map not
def qpc(t u:FT): FT:=fun ρ =>(t ρ).bind fun c=>if c then u ρ else some false
def bOr(t u:FT): FT:=fun ρ =>(t ρ).bind fun c=>if c then some true else u ρ
variable{t u:FT}{rest:List Expr}
theorem y4(ha:PT X a (tDT X.K t)): PT X (.UnaryOp .Not a pos) (tDT X.K (we t)):=q9r (qlb ha) fun σ H Q ⟨F0,H0,F, ρ,c,r,hf,q⟩=>by
 obtain⟨d,h1,h2⟩:=gq.mp hf;subst h2;exact⟨F0,H0,F, ρ,d,r,h1,fun F' H' g'=>q F' H' g'⟩
theorem qm8{t t':TT}(h:PW X a t)(i:∀ σ H Q,t' σ H Q->t σ H Q): PW X a t':=fun wh pins s σ H Q I q=>h wh pins s σ H Q I (i σ H Q q)
theorem q2h(ha:PT X a (tDT X.K t)): PW X (.BoolOp .Or [a] pos) (tDT X.K t):=qla ha
theorem q30(ha:PT X a (tDT X.K t))(hb:PW X (.BoolOp .Or (b :: rest) pos) (tDT X.K u)): PW X (.BoolOp .Or (a :: b :: rest) pos) (tDT X.K (bOr t u)):=qm8 (qnk ha hb) fun σ H Q ⟨F0,H0,F, ρ,c,r,hf,q⟩=>by
 obtain⟨d,h1,h2⟩:=g9.mp hf;refine⟨F0,H0,F, ρ,d,r,h1,fun F' H' g'=>?_⟩;cases d with
 | false=>rw [m4 gj] at h2 ⊢;exact⟨F0,H0,F', ρ,c,r.grow g',h2,fun F2 H2 g2=>q F2 H2 (g'.trans g2)⟩
 | true=>rw [gz rfl] at h2 ⊢;cases h2;exact q F' H' g'
def q3t(f g:FE): FE:=fun ρ =>(f ρ).bind fun x=>(isB x).bind fun c=>if c then g ρ else some (.bl false)
def eOr(f g:FE): FE:=fun ρ =>(f ρ).bind fun x=>(isB x).bind fun c=>if c then some (.bl true) else g ρ
def q5l(f:FE): FE:=fun ρ =>(f ρ).bind fun x=>(isB x).map fun c=>.bl (!c)
def eIf(t:FT)(f g:FE): FE:=fun ρ =>(t ρ).bind fun c=>if c then f ρ else g ρ
theorem q31{d:D}{c:Bool}(h:isB d=some c): d=.bl c:=by
 cases d <;> simp only [isB] at h <;> first|(cases h;done)|skip
 rw [mh h]
theorem q2i{op}(h:PE X a (tD X.K f)): PE X (.BoolOp op [a] pos) (tD X.K f):=qlc h
theorem q2j(ha:PE X a (tD X.K f))(hb:PE X (.BoolOp .And (b :: rest) pos) (tD X.K g)): PE X (.BoolOp .And (a :: b :: rest) pos) (tD X.K (q3t f g)):=za (qld ha hb) fun σ H Q ⟨F0,H0,F, ρ,d,r,hf,q⟩=>by
 obtain⟨x,h1,hf⟩:=g9.mp hf;obtain⟨c,h2,h3⟩:=g9.mp hf;refine⟨F0,H0,F, ρ,x,r,h1,fun v F' H' g' r'=>?_⟩;rw [q31 h2] at r';refine⟨c,rep_bl.mp r',?_⟩;cases c with
 | true=>rw [gz rfl] at h3 ⊢;exact⟨F0,H0,F', ρ,d,r.grow g',h3,fun w F2 H2 g2 r2=>q w F2 H2 (g'.trans g2) r2⟩
 | false=>rw [m4 gj] at h3 ⊢;cases h3;exact q _ F' H' g' (rep_bl.mpr rfl)
theorem qo6(ha:PE X a (tD X.K f))(hb:PE X (.BoolOp .Or (b :: rest) pos) (tD X.K g)): PE X (.BoolOp .Or (a :: b :: rest) pos) (tD X.K (eOr f g)):=za (qnn ha hb) fun σ H Q ⟨F0,H0,F, ρ,d,r,hf,q⟩=>by
 obtain⟨x,h1,hf⟩:=g9.mp hf;obtain⟨c,h2,h3⟩:=g9.mp hf;refine⟨F0,H0,F, ρ,x,r,h1,fun v F' H' g' r'=>?_⟩;rw [q31 h2] at r';refine⟨c,rep_bl.mp r',?_⟩;cases c with
 | false=>rw [m4 gj] at h3 ⊢;exact⟨F0,H0,F', ρ,d,r.grow g',h3,fun w F2 H2 g2 r2=>q w F2 H2 (g'.trans g2) r2⟩
 | true=>rw [gz rfl] at h3 ⊢;cases h3;exact q _ F' H' g' (rep_bl.mpr rfl)
theorem q3u(ha:PE X a (tD X.K f)): PE X (.UnaryOp .Not a pos) (tD X.K (q5l f)):=za (qle ha) fun σ H Q ⟨F0,H0,F, ρ,d,r,hf,q⟩=>by
 obtain⟨x,h1,hf⟩:=g9.mp hf;obtain⟨c,h2,h3⟩:=gq.mp hf;subst h3;refine⟨F0,H0,F, ρ,x,r,h1,fun v F' H' g' r'=>?_⟩;rw [q31 h2] at r';exact⟨c,rep_bl.mp r',q _ F' H' g' (rep_bl.mpr rfl)⟩
theorem qo7{c:Expr}(hc:PT X c (tDT X.K t))(ha:PE X a (tD X.K f))(hb:PE X b (tD X.K g)): PE X (.IfExp c a b pos) (tD X.K (eIf t f g)):=za (qgy hc ha hb) fun σ H Q ⟨F0,H0,F, ρ,d,r,hf,q⟩=>by
 obtain⟨x,h1,h2⟩:=g9.mp hf;refine⟨F0,H0,F, ρ,x,r,h1,fun F' H' g'=>?_⟩;cases x with
 | true=>rw [gz rfl] at h2 ⊢;exact⟨F0,H0,F', ρ,d,r.grow g',h2,fun w F2 H2 g2 r2=>q w F2 H2 (g'.trans g2) r2⟩
 | false=>rw [m4 gj] at h2 ⊢;exact⟨F0,H0,F', ρ,d,r.grow g',h2,fun w F2 H2 g2 r2=>q w F2 H2 (g'.trans g2) r2⟩
end
section
variable{X:Cx}{e:Expr}{es:List Expr}{pos:Pos}{f g:FE}{fa:FA}
def notStar:Expr->Bool
 | .Starred _ _=>false
 | _=>true
theorem q4x{e:Expr}{es:List Expr}{env:Env}(h:notStar e=true): starEach (e :: es) env=(false,eval e env) :: starEach es env:=by
 cases e <;> first|rfl|cases h
def qf:FA:=fun _=>some []
def qc(f:FE)(fa:FA): FA:=fun ρ =>(f ρ).bind fun d=>(fa ρ).map fun ds=>d :: ds
theorem qe:PA X [] (tDA X.K qf):=qfi y0 fun σ H Q ⟨F0,H0,F, ρ,ds,r,hf,q⟩=>by
 cases hf;exact q [] F H (.refl r.fh) .nil
theorem qcr(ha:PE X e (tD X.K f))(hr:PA X es (tDA X.K fa))(hs:starEach (e :: es) X.env=(false,eval e X.env) :: starEach es X.env:=by first|exact q4x rfl|rfl): PA X (e :: es) (tDA X.K (qc f fa)):=
 qfi (ze ha hr hs) fun σ H Q ⟨F0,H0,F, ρ,ds,r,hf,q⟩=>by
  obtain⟨d,h1,hf⟩:=g9.mp hf;obtain⟨ds',h2,h3⟩:=gq.mp hf;subst h3;refine⟨F0,H0,F, ρ,d,r,h1,fun v F1 H1 g1 r1=>⟨F0,H0,F1, ρ,ds',r.grow g1,h2,fun vs F2 H2 g2 r2=>?_⟩⟩;exact q _ F2 H2 (g1.trans g2) (.cons (r1.mono g2.ff) r2)
def yk(fa:FA): FE:=fun ρ =>(fa ρ).bind fun ds=>if ds.length<=lim then some (.tup ds) else none
def kx(fa:FA): FA:=fun ρ =>(fa ρ).bind fun ds=>if ds.length<=lim then some ds else none
theorem xc{x1}(h:PA X es (tDA X.K fa)): PE X (.Tuple es x1 pos) (tD X.K (yk fa)):=za (qf9 h) fun σ H Q ⟨F0,H0,F, ρ,d,r,hf,q⟩=>by
 obtain⟨ds,h1,h2⟩:=g9.mp hf
 split at h2
 ·rename_i hl
  cases h2;refine⟨F0,H0,F, ρ,ds,r,h1,fun vs F1 H1 g1 r1=>⟨x9 (by rw [<- r1.length];exact hl),fun p hp=>?_⟩⟩;have gn:Grow F1 H1 (upd F1 p (.tup vs)) (upd H1 p (.tup vs)):=Grow.new g1.fh hp;exact q _ _ _ (g1.trans gn) (rep_tup.mpr ⟨p,vs,rfl,SqT.of qt,r1.mono gn.ff⟩)
 ·cases h2
theorem ve(h:PA X es (tDA X.K fa)): PE X (.List es pos) (tL X.K (kx fa)):=za (qlt h) fun σ H Q ⟨F0,H0,F, ρ,ds,r,hf,q⟩=>by
 obtain⟨ds',h1,h2⟩:=g9.mp hf
 split at h2
 ·rename_i hl
  cases h2;refine⟨F0,H0,F, ρ,ds,r,h1,fun vs F1 H1 g1 r1=>⟨x9 (by rw [<- r1.length];exact hl),fun p hp=>?_⟩⟩;exact q p vs F1 (upd H1 p (.lst vs)) (g1.trans (Grow.own g1.fh hp)) (g1.fh.free hp) (g1.hh.free hp) qt r1
 ·cases h2
def eL(fa:FA): FE:=fun ρ =>(fa ρ).map .lst
theorem xl(h:PE X e (tL X.K fa)): PE X e (tD X.K (eL fa)):=za h fun σ H Q ⟨F0,H0,F, ρ,d,r,hf,q⟩=>by
 obtain⟨ds,h1,h2⟩:=gq.mp hf;subst h2;refine⟨F0,H0,F, ρ,ds,r,h1,fun a xs F1 H1 g1 fa' ha' hl r1=>?_⟩;have sF:Same F1 (upd F1 a (.lst xs)):=q2y fa';refine q _ (upd F1 a (.lst xs)) H1 ⟨g1.ff.trans sF,g1.hh,fun b o z=>?_,fun b hb=>?_⟩ (rep_lst.mpr ⟨a,xs,rfl,SqL.of qt,r1.mono sF⟩)
 ·by_cases q':b=a
  ·subst q';rw [qt] at z;cases z;exact hl
  ·rw [qk q'] at z;exact g1.fh b o z
 ·by_cases q':b=a
  ·subst q';exact .inr ha'
  ·rw [qk q'] at hb;exact g1.nw b hb
def rC(K:Frag)(op:List D->Option D): List V->Hp->VK->Prop:=fun xs H Q=>∃F ds d,Same F H/\RepL K F ds xs/\op ds=some d/\∀v F' H',Grow F H F' H'->Rep K F' d v->Q v H'
def qg(op:List D->Option D)(fa:FA): FE:=fun ρ =>(fa ρ).bind op
theorem yo{f:Value}{r r':List V->Hp->VK->Prop}(h:zi X f r)(i:∀xs H Q,r' xs H Q->r xs H Q): zi X f r':=fun pins s σ H xs us Q I rv q=>h pins s σ H xs us Q I rv (i xs H Q q)
theorem qfj{K:Frag}{op:List D->Option D}{σ : St}{H:Hp}{Q:VK}(h:tD K (qg op fa) σ H Q): tDA K fa σ H fun vs H1=>rC K op vs H1 Q:=by
 obtain⟨F0,H0,F, ρ,d,r,hf,q⟩:=h;obtain⟨ds,h1,h2⟩:=g9.mp hf;exact⟨F0,H0,F, ρ,ds,r,h1,fun vs F1 H1 g1 r1=>⟨F1,ds,d,g1.fh,r1,h2,fun v F2 H2 g2 r2=>q v F2 H2 (g1.trans g2) r2⟩⟩
theorem zy{x:Str}{p:Pos}{id:String}{op:List D->Option D}(hc:zi X (.builtin id) (rC X.K op))(hg:Gl X x)(hm:X.mg x=none)(hv:bootBuiltins x=some (.builtin id))(ha:PA X (e :: es) (tDA X.K fa))
  (hn:x≠"__name__" :=by decide) (hdb:(x==("__debug__" : Str))=false:=by decide)
  (he:starEach (e :: es) X.env=(false,eval e X.env) :: starEach es X.env:=by rfl) (hpl:(backTo pos (starEach es X.env)).any (·.1)=false:=by rfl):PE X (.Call (.Name x p) (e :: es) [] pos) (tD X.K (qg op fa)):=
 za (q01 hc hg hm hv ha hn hdb he hpl) fun σ H Q h=>qfj h
theorem j7{x:Str}{p:Pos}{T:String}{op:List D->Option D}(hc:zi X (.type T) (rC X.K op))(hg:Gl X x)(hm:X.mg x=none)(hv:bootBuiltins x=some (.type T))(ha:PA X (e :: es) (tDA X.K fa))
  (hn:x≠"__name__" :=by decide) (hdb:(x==("__debug__" : Str))=false:=by decide)
  (he:starEach (e :: es) X.env=(false,eval e X.env) :: starEach es X.env:=by rfl) (hpl:(backTo pos (starEach es X.env)).any (·.1)=false:=by rfl):PE X (.Call (.Name x p) (e :: es) [] pos) (tD X.K (qg op fa)):=
 za (q1y hc hg hm hv ha hn hdb he hpl) fun σ H Q h=>qfj h
def spD(K:Frag)(ar:Nat)(op:List D->Option D): Sp:=fun vs H Q _=>∃F ds d,SameT F H/\RepL K F ds vs/\ds.length=ar/\op ds=some d/\∀v F' H',Grow F H F' H'->Rep K F' d v->Q v H'
def qp(ar:Nat)(dds:List D)(op:List D->Option D): List D->Option D:=fun ds=>if(ds++dds).length=ar then op (ds++dds) else none
theorem qjr{k ar:Nat}{fn:Addr}{fd:FuncData}{ps:List Str}{op:List D->Option D}{x:Str}{p:Pos}{dvs:List V}{dds:List D}{dv:List Value}(F:FnOk X.prog X.w X.K X.mg X.base CX0 k fn fd ps (spD X.K ar op))(hr:Room k X.A)(hg:Gl X x)(hm:X.mg x=some (.ref fn))(hk:PySem.W.keepIn X.K (.ref fn)=true)
  (hb:Binds X.K fd ps dv) (hd:Vals dvs dv) (hdd:∀H,RepL X.K H dds dvs) (ha:PA X (e :: es) (tDA X.K fa)) (hdb:(x==("__debug__" : Str))=false:=by decide)
  (he:starEach (e :: es) X.env=(false,eval e X.env) :: starEach es X.env:=by rfl) (hpl:(backTo pos (starEach es X.env)).any (·.1)=false:=by rfl) :
  PE X (.Call (.Name x p) (e :: es) [] pos) (tD X.K (qg (qp ar dds op) fa)):=
 za (qcl F hr hg hm hk hb hd qdo ha hdb he hpl) fun σ H Q ⟨F0,H0,Fz, ρ,d,r,hf,q⟩=>by
  obtain⟨ds,h1,h2⟩:=g9.mp hf;unfold qp at h2
  split at h2
  ·rename_i hl
   exact⟨F0,H0,Fz, ρ,ds,r,h1,fun vs F1 H1 g1 r1=>⟨F1,ds++dds,d,r.sameT g1,r1.append (hdd F1),hl,h2,fun v F2 H2 g2 r2=>q v F2 H2 (g1.trans g2) r2⟩⟩
  ·cases h2
end
section
variable{X:Cx}{st:Stmt}{rest:List Stmt}{e:Expr}{pos:Pos}{f:FE}{fa:FA}{t:FT}{u w:FS}
def yp:FS:=fun ρ =>some (.nx, ρ)
def qu(u w:FS): FS:=fun ρ =>(u ρ).bind fun r=>match r with
 | (.nx, ρ')=>w ρ'
 | (fl, ρ')=>some (fl, ρ')
def sIf(t:FT)(u w:FS): FS:=fun ρ =>(t ρ).bind fun c=>if c then u ρ else w ρ
def zh(i:Nat)(f:FE): FS:=fun ρ =>(f ρ).map fun d=>(.nx, ρ.set i (some (.fz d)))
def q0p(i:Nat)(fa:FA): FS:=fun ρ =>(fa ρ).map fun ds=>(.nx, ρ.set i (some (.ow ds)))
def zb(f:FE): FS:=fun ρ =>(f ρ).map fun d=>(.rt d, ρ)
def qo8:FS:=fun ρ =>some (.rt .non, ρ)
def qpd:FS:=fun ρ =>some (.bk, ρ)
def qpe:FS:=fun ρ =>some (.ct, ρ)
def q9a(f:FE): FS:=fun ρ =>(f ρ).map fun _=>(.nx, ρ)
theorem xf:PSs X [] (tDS X.K yp):=q7k qjc fun D σ H ⟨F0,H0,F, ρ,fl, ρ',r,hf,q⟩=>by
 cases hf;exact q σ F H (.refl _) r
theorem q32{K:Frag}{F0 H0 F F':Hp}{D:Ends}{fl:Fl}{ρ':Rho}(s:Same F F')(h:qds K F0 H0 F D fl ρ'): qds K F0 H0 F' D fl ρ':=by
 cases fl with
 | nx=>exact fun σ' F2 H2 s2 r=>h σ' F2 H2 (s.trans s2) r
 | bk=>exact fun σ' F2 H2 s2 r=>h σ' F2 H2 (s.trans s2) r
 | ct=>exact fun σ' F2 H2 s2 r=>h σ' F2 H2 (s.trans s2) r
 | rt d=>exact h
theorem qi(h1:PS X st (tDS X.K u))(h2:PSs X rest (tDS X.K w)): PSs X (st :: rest) (tDS X.K (qu u w)):=q7k (qgz h1 h2) fun D σ H ⟨F0,H0,F, ρ,fl, ρ',r,hf,q⟩=>by
 obtain⟨⟨fl1, ρ1⟩,h3,h4⟩:=g9.mp hf;refine⟨F0,H0,F, ρ,fl1, ρ1,r,h3,?_⟩;cases fl1 with
 | nx=>exact fun σ' F' H' s r'=>⟨F0,H0,F', ρ1,fl, ρ',r',h4,q32 s q⟩
 | bk=>cases h4;exact q
 | ct=>cases h4;exact q
 | rt d=>cases h4;exact q
theorem qj(h1:PS X st (tDS X.K u)): PSs X [st] (tDS X.K u):=qcg h1
theorem va{c:Expr}{a b:List Stmt}(hc:PT X c (tDT X.K t))(ha:PSs X a (tDS X.K u))(hb:PSs X b (tDS X.K w)): PS X (.If c a b pos) (tDS X.K (sIf t u w)):=jq (qdf hc ha hb) fun D σ H ⟨F0,H0,F, ρ,fl, ρ',r,hf,q⟩=>by
 obtain⟨c,h1,h2⟩:=g9.mp hf;refine⟨F0,H0,F, ρ,c,r,h1,fun F' H' g'=>?_⟩;cases c with
 | true=>rw [gz rfl] at h2 ⊢;exact⟨F0,H0,F', ρ,fl, ρ',r.grow g',h2,q32 g'.ff q⟩
 | false=>rw [m4 gj] at h2 ⊢;exact⟨F0,H0,F', ρ,fl, ρ',r.grow g',h2,q32 g'.ff q⟩
theorem qv(he:PE X e (tD X.K f)): PS X (.Return (some e) pos) (tDS X.K (zb f)):=jq (qlf he) fun D σ H ⟨F0,H0,F, ρ,fl, ρ',r,hf,q⟩=>by
 obtain⟨d,h1,h2⟩:=gq.mp hf;cases h2;exact⟨F0,H0,F, ρ,d,r,h1,fun v F' H' g' r'=>q v F' H' (r.g.trans g') r'⟩
theorem qcs(he:PE X e (tD X.K f))(hs:swapsWith e none pos.line X.env=pure false:=by rfl): PS X (.Expr e pos) (tDS X.K (q9a f)):=jq (q4t he hs) fun D σ H ⟨F0,H0,F, ρ,fl, ρ',r,hf,q⟩=>by
 obtain⟨d,h1,h2⟩:=gq.mp hf;cases h2;exact⟨F0,H0,F, ρ,d,r,h1,fun v F' H' g' r'=>q σ F' H' g'.ff (r.grow g')⟩
theorem qo9{K:Frag}{i:Nat}{D:Ends}{σ : St}{H:Hp}(h:tDS K (zh i f) D σ H): tD K f σ H fun x H1=>q4u i x σ H1 D.nx:=by
 obtain⟨F0,H0,F, ρ,fl, ρ',r,hf,q⟩:=h;obtain⟨d,h1,h2⟩:=gq.mp hf;cases h2;exact⟨F0,H0,F, ρ,d,r,h1,fun v F' H' g' r'=>q _ F' H' g'.ff ((r.grow g').set i r')⟩
theorem qj7{K:Frag}{i:Nat}{D:Ends}{σ : St}{H:Hp}(h:tDS K (q0p i fa) D σ H): tL K fa σ H fun x H1=>q4u i x σ H1 D.nx:=by
 obtain⟨F0,H0,F, ρ,fl, ρ',r,hf,q⟩:=h;obtain⟨ds,h1,h2⟩:=gq.mp hf;cases h2;refine⟨F0,H0,F, ρ,ds,r,h1,fun a xs F' H' g' fa' ha' hl r'=>q _ F' H' g'.ff ((r.grow g').setO i hl fa' (r.g.hh.free ha') r' (fun j es z1 z2=>?_) fun j kvs z1=>?_)⟩
 ·obtain⟨b,ys,e1,e2,_⟩:=r.ow j es z1
  rw [z2] at e1;obtain rfl:a=b:=by simpa using e1
  rw [ha'] at e2;cases e2
 ·obtain⟨b,bs,e1,e2,e3⟩:=r.od j kvs z1
  refine⟨b,bs,e1,e2.grow g',fun z=>?_,e3⟩;obtain⟨xs,f,_⟩:=e2.mem z;rw [ha'] at f;cases f
theorem z6{i:Nat}{x:Str}{px:Pos}(hN:X.N.Nodup)(hi:X.N[i]? = some x)(hx:Loc X.env.scope x)(he:PE X e (tD X.K f))(hs:swapsWith e (some (.Name x px)) pos.line X.env=pure false:=by rfl)(hf:X.fn x=true\/X.env.scope.names.lookup x=some .local:=by first|exact .inl rfl|exact .inr rfl|assumption):
  PS X (.Assign [.Name x px] e pos) (tDS X.K (zh i f)):=jq (q9k hN hi hx he hs hf) fun D σ H h=>qo9 h
theorem q1b{i:Nat}{x:Str}{px:Pos}(hN:X.N.Nodup)(hi:X.N[i]? = some x)(hx:Loc X.env.scope x)(he:PE X e (tL X.K fa))(hs:swapsWith e (some (.Name x px)) pos.line X.env=pure false:=by rfl)(hf:X.fn x=true\/X.env.scope.names.lookup x=some .local:=by first|exact .inl rfl|exact .inr rfl|assumption):
  PS X (.Assign [.Name x px] e pos) (tDS X.K (q0p i fa)):=jq (q9k hN hi hx he hs hf) fun D σ H h=>qj7 h
def q5m(i:Nat)(ρ : Rho): Option (List D):=match ρ[i]? with
 | some (some (.ow ds))=>some ds
 | _=>none
theorem q88{i:Nat}{ρ : Rho}{ds:List D}(h:q5m i ρ = some ds): ρ[i]? = some (some (.ow ds)):=by
 unfold q5m at h
 split at h
 ·rename_i e;rw [e,mh h]
 ·cases h
def ky(i:Nat)(f:FE): FS:=fun ρ =>(q5m i ρ).bind fun ds=>(f ρ).bind fun d=>if ds.length<lim then some (.nx, ρ.set i (some (.ow (ds++[d])))) else none
theorem q1c{i:Nat}{x:Str}{px apos cpos:Pos}(hv:PE X (.Name x px) (q9i i))(he:PE X e (tD X.K f))
  (hbase:attributeBase (.Name x px) "append" X.env (eval (.Name x px) X.env)=eval (.Name x px) X.env:=by rfl)
  (hfew:((backTo cpos (starEach [e] X.env)).all (fun x=> !x.1)&&(backToKw cpos (keywordEach [] X.env)).all (fun x=>x.1.isSome)&&decide ([e].length+([]:List Keyword).length+(if([]:List Keyword).isEmpty then 0 else 1)<30))=true:=by rfl)
  (hline:(apos.endLine==cpos.line)=true:=by rfl) (hse:starEach [e] X.env=(false,eval e X.env) :: starEach [] X.env:=by rfl)
  (hs:swapsWith (.Call (.Attribute (.Name x px) "append" apos) [e] [] cpos) none pos.line X.env=pure false:=by rfl):PS X (.Expr (.Call (.Attribute (.Name x px) "append" apos) [e] [] cpos) pos) (tDS X.K (ky i f)):=
 jq (q4t (qj3 g2z PySem.F.slot_list_append PySem.F.type_list_append q85 hv (ze he y0 hse) hbase hfew hline hse rfl) hs) fun D σ H ⟨F0,H0,F, ρ,fl, ρ',r,hf,q⟩=>by
  obtain⟨ds,h1,hf⟩:=g9.mp hf;obtain⟨d,h2,h3⟩:=g9.mp hf;have h1:=q88 h1
  split at h3
  ·rename_i hl
   cases h3;obtain⟨a,xs,e1,e2,e3,e4,e5⟩:=r.ow i ds h1;refine⟨.ref a,e1,.inl ⟨rfl,xs,SqL.of e2⟩,F0,H0,F, ρ,d,r,h2,fun v F' H' g' r'=>?_⟩;have r2:=r.grow g';refine⟨a,xs,v,rfl,rfl,g'.hh.lst _ _ e2,q87 (by rw [<- e5.length];exact hl),?_⟩;exact q _ F' _ g'.ff (r2.wrt h1 e1 ((e5.mono g'.ff).append (.cons r' .nil)))
  ·cases h3
def frz(i:Nat)(ρ : Rho): Rho:=match ρ[i]? with
 | some (some (.ow ds))=> ρ.set i (some (.fz (.lst ds)))
 | _=> ρ
def q1d(i:Nat)(u:FS): FS:=fun ρ =>u (frz i ρ)
theorem qm9{K:Frag}{F0 H0 F H:Hp}{σ : St}{ρ : Rho}(i:Nat)(r:RS K F0 H0 F H σ ρ): ∃F',Same F F'/\RS K F0 H0 F' H σ (frz i ρ):=by
 unfold frz
 split
 ·rename_i ds h
  exact r.freeze h
 ·exact⟨F,.refl _,r⟩
theorem wg(i:Nat){sts:List Stmt}(h:PSs X sts (tDS X.K u)): PSs X sts (tDS X.K (q1d i u)):=q7k h fun D σ H ⟨F0,H0,F, ρ,fl, ρ',r,hf,q⟩=>by
 obtain⟨F',s',r'⟩:=qm9 i r;exact⟨F0,H0,F',frz i ρ,fl, ρ',r',hf,q32 s' q⟩
end
def z5(n:Nat)(u:FS)(ds:List D): Option D:=match u (ds.map (fun d=>some (.fz d))++List.replicate (n-ds.length) none) with
 | some (.rt d,_)=>some d
 | some (.nx,_)=>some .non
 | _=>none
theorem q89{N:List Str}{vs:List V}{i:Nat}{v:V}(h:vs[i]? = some v): (L2.start N vs)[i]? = some (some v):=by
 unfold L2.start;have hi:i<vs.length:=(ma.mp h).1;rw [n8 (by simpa using hi),gy,h];rfl
theorem qma{P:Program}{w:World}{K:Frag}{H:Hp}{vs:List V}{Q:VK}{N:List Str}{u:FS}{ar:Nat}{E:XK}(hl:ar<=N.length)(h:spD K ar (z5 N.length u) vs H Q E): tDS K u {nx:=fun _ H'=>Q .non H',rt:=Q} (L2.start N vs) H:=by
 obtain⟨F,ds,d,fh,rl,el,hd,q⟩:=h;have hlen:=rl.length;have r:RS K F H F H (L2.start N vs) (ds.map (fun d=>some (.fz d))++List.replicate (N.length-ds.length) none):={
  t0:=⟨fh.t,fh.f⟩
  g:=.refl fh.s
  len:=by unfold L2.start;simp only [m8,mj,g1p];omega
  fz :=fun i e h1=>by
   by_cases hi:i<ds.length
   ·rw [n8 (by simpa using hi),gy] at h1
    cases z:ds[i]? with
    | none=>rw [z] at h1;cases h1
    | some d'=>
     rw [z] at h1;cases h1;obtain⟨v,e1,e2⟩:=rl.get z;exact⟨v,q89 e1,e2⟩
   ·rw [mv (by simpa using hi),p7] at h1
    split at h1 <;> cases h1
  ow:=fun i es h1=>by
   by_cases hi:i<ds.length
   ·rw [n8 (by simpa using hi),gy] at h1
    cases z:ds[i]? with
    | none=>rw [z] at h1;cases h1
    | some d'=>rw [z] at h1;cases h1
   ·rw [mv (by simpa using hi),p7] at h1
    split at h1 <;> cases h1
  dj:=fun i j us es a _ h1=>by
   by_cases hi:i<ds.length
   ·rw [n8 (by simpa using hi),gy] at h1
    cases z:ds[i]? with
    | none=>rw [z] at h1;cases h1
    | some d'=>rw [z] at h1;cases h1
   ·rw [mv (by simpa using hi),p7] at h1
    split at h1 <;> cases h1
  od:=fun i kvs h1=>by
   by_cases hi:i<ds.length
   ·rw [n8 (by simpa using hi),gy] at h1
    cases z:ds[i]? with
    | none=>rw [z] at h1;cases h1
    | some d'=>rw [z] at h1;cases h1
   ·rw [mv (by simpa using hi),p7] at h1
    split at h1 <;> cases h1
  o1:=fun i j k1 k2 h1=>by
   by_cases hi:i<ds.length
   ·rw [n8 (by simpa using hi),gy] at h1
    cases z:ds[i]? with
    | none=>rw [z] at h1;cases h1
    | some d'=>rw [z] at h1;cases h1
   ·rw [mv (by simpa using hi),p7] at h1
    split at h1 <;> cases h1}
 unfold z5 at hd;cases z:u (ds.map (fun d=>some (.fz d))++List.replicate (N.length-ds.length) none) with
 | none=>rw [z] at hd;cases hd
 | some p=>
  obtain⟨fl, ρ'⟩:=p;rw [z] at hd;refine⟨F,H,F,_,fl, ρ',r,z,?_⟩;cases fl with
  | nx=>cases hd;exact fun σ' F' H' s' r'=>q .non F' H' r'.g (rep_non.mpr rfl)
  | bk=>cases hd
  | ct=>cases hd
  | rt d'=>cases hd;exact fun v F' H' g' r'=>q v F' H' g' r'
theorem qoa{P:Program}{w:World}{K:Frag}{mg:Str->Option Value}{base:Heap}{k:Nat}{f:Addr}{name qual:Str}{params:Arguments}{body:List Stmt}{scope:Scope}{dV kV doc pm cdv ct oc:Value}{an od:Option Addr}
  {osl:Array (Option Value)} {N ps:List Str} {u:FS} (lk:K.lookup f=some ⟨oc,od,.func (PySem.W.fnOf name qual params body scope dV kV doc pm an cdv ct),osl⟩) (hcd:PySem.W.codeIn K cdv qual=true) (S:FnScope N ps scope)
  (hb:∀(A:Around) (outer:List Env) (s:Shared) (H:Hp) (E:XK),Room k (A.deeper (envOfC qual scope s.heap.objs.size f cdv))->PSs (qw CX0 P w K mg base N qual scope f cdv A outer s H E).nox body (tDS K u)) :
  FnOk P w K mg base CX0 (k+1) f (PySem.W.fnOf name qual params body scope dV kV doc pm an cdv ct) ps (spD K ps.length (z5 N.length u)):=by
 have hpl:ps.length<=N.length:=by have:=pw List.length S.pre;rw [p8] at this;omega
 refine qj2 lk hcd S (fun vs H Q E h=>?_) fun A outer s H vs Q E hr hsp=>⟨_,(hb A outer s H E hr).nox,qma (P:=P) (w:=w) hpl hsp⟩
 obtain⟨F,ds,d,_,rl,el,_⟩:=h;rw [<- rl.length];exact el
structure ItD(K:Frag)(F:Hp)(ds:List D)(J:It): Prop where
 go:∀(i:Nat) (F' H:Hp),Same F F'->Same F' H->i<ds.length->J.go i H
 yld:∀(i:Nat) (d:D) (F' H:Hp) (x:V) (H':Hp),Same F F'->Same F' H->ds[i]? = some d->J.yld i H x H'->∃F'',Grow F' H F'' H'/\Rep K F'' d x
 stop:∀(i:Nat) (F' H:Hp),Same F F'->Same F' H->ds.length<=i->J.stop i H
def tDI(K:Frag)(f:FA): TI:=fun σ H R=>∃F0 H0 F ρ ds,RS K F0 H0 F H σ ρ /\ f ρ = some ds/\∀J F' H',Grow F H F' H'->ItD K F' ds J->R J H'
abbrev FB:=D->Rho->Option Rho
abbrev FBs:=List D->Rho->Option Rho
def tDG(K:Frag)(b:FB): TG:=fun v σ H Q=>∃F0 H0 F ρ d ρ',RS K F0 H0 F H σ ρ /\ Rep K F d v/\b d ρ = some ρ'/\∀ σ',RS K F0 H0 F H σ' ρ'->Q σ' H
def qdu(K:Frag)(b:FBs): TGs:=fun vs σ H Q=>∃F0 H0 F ρ ds ρ',RS K F0 H0 F H σ ρ /\ RepL K F ds vs/\b ds ρ = some ρ'/\∀ σ',RS K F0 H0 F H σ' ρ'->Q σ' H
section
variable{X:Cx}{tg e:Expr}{es:List Expr}{pos:Pos}
theorem q3v{t t':TI}(h:PI X tg e t)(i:∀ σ H R,t' σ H R->t σ H R): PI X tg e t':=fun pins s σ H R I q=>h pins s σ H R I (i σ H R q)
theorem qfk{t t':TG}(h:PG X e t)(i:∀v σ H Q,t' v σ H Q->t v σ H Q): PG X e t':=fun pins s σ H v u Q I r q=>h pins s σ H v u Q I r (i v σ H Q q)
theorem qct{t t':TGs}(h:PGs X es t)(i:∀v σ H Q,t' v σ H Q->t v σ H Q): PGs X es t':=fun pins s σ H v u Q I r q=>h pins s σ H v u Q I r (i v σ H Q q)
def bN(i:Nat): FB:=fun d ρ =>some (ρ.set i (some (.fz d)))
def wj:FBs:=fun ds ρ =>if ds.isEmpty then some ρ else none
def ji(b:FB)(bs:FBs): FBs:=fun ds ρ =>match ds with
 | d :: r=>(b d ρ).bind fun ρ'=>bs r ρ'
 | []=>none
def wk(n:Nat)(bs:FBs): FB:=fun d ρ =>match d with
 | .tup ds=>if ds.length=n then bs ds ρ else none
 | _=>none
theorem qx{i:Nat}{x:Str}(hN:X.N.Nodup)(hi:X.N[i]? = some x)(hx:Loc X.env.scope x)(hf:X.fn x=true\/X.env.scope.names.lookup x=some .local:=by first|exact .inl rfl|exact .inr rfl|assumption): PG X (.Name x pos) (tDG X.K (bN i)):=
 qfk (qjd hN hi hx hf) fun v σ H Q ⟨F0,H0,F, ρ,d, ρ',r,hr,hb,q⟩=>by
  cases hb;exact q _ (r.set i hr)
theorem q3w:PGs X [] (qdu X.K wj):=qct qje fun vs σ H Q ⟨F0,H0,F, ρ,ds, ρ',r,hr,hb,q⟩=>by
 unfold wj at hb
 split at hb
 ·rename_i z
  cases hb;have z':ds=[]:=by simpa using z
  subst z';exact⟨hr.nil_inv,q σ r⟩
 ·cases hb
theorem ye{b:FB}{bs:FBs}(h1:PG X e (tDG X.K b))(h2:PGs X es (qdu X.K bs))(hs:(assignEach (e :: es) X.env).map (·.2)=assign e X.env :: (assignEach es X.env).map (·.2):=by rfl): PGs X (e :: es) (qdu X.K (ji b bs)):=
 qct (qh0 h1 h2 hs) fun vs σ H Q ⟨F0,H0,F, ρ,ds, ρ',r,hr,hb,q⟩=>by
  cases ds with
  | nil=>cases hb
  | cons d ds=>
   obtain⟨v,vr,rfl,h3,h4⟩:=hr.cons_inv;obtain⟨ρ1,h5,h6⟩:=g9.mp hb;exact⟨v,vr,rfl,F0,H0,F, ρ,d, ρ1,r,h3,h5,fun σ' r'=>⟨F0,H0,F, ρ1,ds, ρ',r',h4,h6,q⟩⟩
theorem q3x{k n:Nat}{bs:FBs}(hc:X.calm=true)(h:PGs X es (qdu X.K bs))(hn:(assignEach es X.env).length=n:=by rfl)(hst:(assignEach es X.env).findIdx? (·.1)=none:=by rfl): PG X (.Tuple es k pos) (tDG X.K (wk n bs)):=
 qfk (qlg hc h hn hst) fun v σ H Q ⟨F0,H0,F, ρ,d, ρ',r,hr,hb,q⟩=>by
  cases d <;> simp only [wk] at hb <;> first|(cases hb;done)|skip
  rename_i ds
  split at hb
  ·rename_i hl
   obtain⟨a,xs,rfl,h1,h2⟩:=rep_tup.mp hr;exact⟨a,xs,rfl,ql r.fh h1,by rw [<- h2.length];exact hl,F0,H0,F, ρ,ds, ρ',r,h2,hb,q⟩
  ·cases hb
def qob(f:FE)(b:FB): FS:=fun ρ =>(f ρ).bind fun d=>(b d ρ).map fun ρ'=>(.nx, ρ')
theorem qhp{K:Frag}{F:Hp}{a:Addr}{xs:List V}{ds:List D}(h:SqL K F a xs)(hd:RepL K F ds xs): ItD K F ds (Itl K a) where
 go:=fun i F' H s1 s2 hi=>⟨xs,xs[i]'(by rw [<- hd.length];exact hi),(s1.trans s2).seq h,by simp⟩
 yld:=fun i d F' H x H' s1 s2 hi ⟨e,y⟩=>by
  subst e;obtain⟨z,h1,h2⟩:=hd.get hi;have:=y xs ((s1.trans s2).seq h);rw [h1] at this;cases this;exact⟨F',.refl s2,h2.mono s1⟩
 stop:=fun i F' H s1 s2 hi=>⟨xs,(s1.trans s2).seq h,by rw [<- hd.length];exact hi⟩
theorem qjs{K:Frag}{F:Hp}{a:Addr}{xs:List V}{ds:List D}(h:SqT K F a xs)(hd:RepL K F ds xs): ItD K F ds (Itt K a) where
 go:=fun i F' H s1 s2 hi=>⟨xs,xs[i]'(by rw [<- hd.length];exact hi),ql (s1.trans s2) h,by simp⟩
 yld:=fun i d F' H x H' s1 s2 hi ⟨e,y⟩=>by
  subst e;obtain⟨z,h1,h2⟩:=hd.get hi;have:=y xs (ql (s1.trans s2) h);rw [h1] at this;cases this;exact⟨F',.refl s2,h2.mono s1⟩
 stop:=fun i F' H s1 s2 hi=>⟨xs,ql (s1.trans s2) h,by rw [<- hd.length];exact hi⟩
def qz(lo:Int)(n:Nat): List D:=(List.range n).map fun i:Nat=>.int (lo+i)
theorem q8a{K:Frag}{F:Hp}(lo:Int)(n:Nat): ItD K F (qz lo n) (Itr lo n) where
 go:=fun i F' H s1 s2 hi=>by show i<n;simpa [qz] using hi
 yld:=fun i d F' H x H' s1 s2 hi ⟨e,y⟩=>by
  subst e y;simp only [qz,gy] at hi;cases q:(List.range n)[i]? with
  | none=>rw [q] at hi;cases hi
  | some j=>
   rw [q] at hi;cases hi;have:j=i:=by
    have h2:=ma.mp q;obtain⟨h3,h4⟩:=h2;rw [List.getElem_range] at h4;exact h4.symm
   subst this;exact⟨F',.refl s2,rep_int.mpr rfl⟩
 stop:=fun i F' H s1 s2 hi=>by show n<=i;simpa [qz] using hi
def q3y:D->Option (List D)
 | .tup ds=>some ds
 | .lst ds=>some ds
 | _=>none
def vf(f:FE): FA:=fun ρ =>(f ρ).bind q3y
theorem qoc{l:Expr}{tl:TE}(hl:PE X l tl): PI X tg l (fun σ H R=>tl σ H fun x H1=>(∃a,x=.ref a/\(∃xs,SqL X.K H1 a xs)/\R (Itl X.K a) H1)\/(∃a,x=.ref a/\(∃xs,SqT X.K H1 a xs)/\R (Itt X.K a) H1)):=by
 intro pins s σ H R I h;refine thn (hl pins s σ H _ I h) fun v s1 ⟨x,H1,I1,r1,q1⟩=>?_;rcases q1 with⟨a,e,⟨xs,hq⟩,q⟩|⟨a,e,⟨xs,hq⟩,q⟩
 ·subst e
  cases r1;obtain⟨its,rv,p,hz⟩:=I1.list hq;refine g1i p.isList ?_;refine⟨s1.heap.objs.size,[s1.heap.objs.size],_,_,H1,rfl,I1.kept (t':=s1.toks) fun b o e=>gc _ e,qez a _,⟨_,gi _ rfl,rfl,rfl⟩,fun b hb=>?_,q⟩;have e:b=s1.heap.objs.size:=by simpa using hb
  subst e;exact I1.fpOk (gp _) (I1.hok.fresh (gp _))
 ·subst e
  cases r1;obtain⟨its,rv,p,hz⟩:=I1.tuple hq;refine g2d (show s1.heap.IsTuple a its.toArray from p) ?_;refine⟨s1.heap.objs.size,[s1.heap.objs.size],_,_,H1,rfl,I1.kept (t':=s1.toks) fun b o e=>gc _ e,qdh a _,⟨_,gi _ rfl,rfl,rfl⟩,fun b hb=>?_,q⟩;have e:b=s1.heap.objs.size:=by simpa using hb
  subst e;exact I1.fpOk (gp _) (I1.hok.fresh (gp _))
theorem jb{f:FE}(h:PE X e (tD X.K f)): PI X tg e (tDI X.K (vf f)):=q3v (qoc h) fun σ H R ⟨F0,H0,F, ρ,ds,r,hf,q⟩=>by
 obtain⟨d,h1,h2⟩:=g9.mp hf;refine⟨F0,H0,F, ρ,d,r,h1,fun v F' H' g' r'=>?_⟩;cases d <;> simp only [q3y] at h2 <;> first|(cases h2;done)|skip
 ·cases h2
  obtain⟨a,xs,rfl,h3,h4⟩:=rep_tup.mp r';exact .inr ⟨a,rfl,⟨xs,ql g'.fh h3⟩,q _ F' H' g' (qjs h3 h4)⟩
 ·cases h2
  obtain⟨a,xs,rfl,h3,h4⟩:=rep_lst.mp r';exact .inl ⟨a,rfl,⟨xs,g'.fh.seq h3⟩,q _ F' H' g' (qhp h3 h4)⟩
def iR1(fa:FA): FA:=fun ρ =>(fa ρ).bind fun ds=>match ds with
 | [.int j]=>if decide (-(2 ^ 62)<=j)&&decide (j<2 ^ 62) then some (qz 0 j.toNat) else none
 | _=>none
def iR2(fa:FA): FA:=fun ρ =>(fa ρ).bind fun ds=>match ds with
 | [.int i,.int j]=>if(decide (-(2 ^ 62)<=i)&&decide (i<2 ^ 62))&&(decide (-(2 ^ 62)<=j)&&decide (j<2 ^ 62)) then some (qz i (j-i).toNat) else none
 | _=>none
theorem w6{a:Expr}{fa:FA}{p:Pos}(hg:Gl X "range")(hm:X.mg "range" = none)(ha:PA X [a] (tDA X.K fa))(hs:starEach [a] X.env=[(false,eval a X.env)]:=by rfl): PI X tg (.Call (.Name "range" p) [a] [] pos) (tDI X.K (iR1 fa)):=
 q3v (qf0 hg hm ha hs) fun σ H R ⟨F0,H0,F, ρ,ds,r,hf,q⟩=>by
  obtain⟨es,h1,h2⟩:=g9.mp hf;refine⟨F0,H0,F, ρ,es,r,h1,fun vs F' H' g' r'=>?_⟩
  split at h2
  ·rename_i j
   split at h2
   ·rename_i z
    cases h2;obtain⟨x,t,rfl,h3,h4⟩:=r'.cons_inv;cases h4.nil_inv;obtain⟨z1,z2⟩:=q03 z;exact⟨j,by rw [rep_int.mp h3],z1,z2,q _ F' H' g' (q8a 0 _)⟩
   ·cases h2
  ·cases h2
theorem qfl{a b:Expr}{fa:FA}{p:Pos}(hg:Gl X "range")(hm:X.mg "range" = none)(ha:PA X [a,b] (tDA X.K fa))(hs:starEach [a,b] X.env=[(false,eval a X.env),(false,eval b X.env)]:=by rfl)(hs2:starEach [b] X.env=[(false,eval b X.env)]:=by rfl):
  PI X tg (.Call (.Name "range" p) [a,b] [] pos) (tDI X.K (iR2 fa)):=
 q3v (qf1 hg hm ha hs hs2) fun σ H R ⟨F0,H0,F, ρ,ds,r,hf,q⟩=>by
  obtain⟨es,h1,h2⟩:=g9.mp hf;refine⟨F0,H0,F, ρ,es,r,h1,fun vs F' H' g' r'=>?_⟩
  split at h2
  ·rename_i i j
   split at h2
   ·rename_i z
    cases h2;obtain⟨x,t,rfl,h3,h4⟩:=r'.cons_inv;obtain⟨x2,t2,rfl,h5,h6⟩:=h4.cons_inv;cases h6.nil_inv;rw [m6] at z;obtain⟨z1,z2⟩:=q03 z.1;obtain⟨z3,z4⟩:=q03 z.2;exact⟨i,j,by rw [rep_int.mp h3,rep_int.mp h5],⟨z1,z2,z3,z4⟩,q _ F' H' g' (q8a _ _)⟩
   ·cases h2
  ·cases h2
def runFor(b:FB)(body:FS): List D->Rho->Option (Fl×Rho)
 | [], ρ =>some (.nx, ρ)
 | d :: ds, ρ =>(b d ρ).bind fun ρ1=>(body ρ1).bind fun r=>match r with
  | (.nx, ρ2)=>runFor b body ds ρ2
  | (.ct, ρ2)=>runFor b body ds ρ2
  | (.bk, ρ2)=>some (.nx, ρ2)
  | (.rt v, ρ2)=>some (.rt v, ρ2)
def xg(it:FA)(b:FB)(body:FS): FS:=fun ρ =>(it ρ).bind fun ds=>runFor b body ds ρ
theorem y8{iter:Expr}{body:List Stmt}{it:FA}{b:FB}{u:FS}(hp:PassesOwn (model X.prog X.w) X.A X.env X.xe)(hc:X.calm=true)(hi:PI X tg iter (tDI X.K it))(hg:PG X tg (tDG X.K b))(hb:PSs X body (tDS X.K u))
  (hs:∀x,foldedSetIterable iter X.env x=pure x:=by intro _;rfl):PS X (.For tg iter body [] pos) (tDS X.K (xg it b u)):=jq (qlj hp hc hi hg hb hs) fun D σ H ⟨F0,H0,F, ρ,fl, ρ',r,hf,q⟩=>by
 obtain⟨ds,h1,h2⟩:=g9.mp hf;refine⟨F0,H0,F, ρ,ds,r,h1,fun J F1 H1 g1 itd=>?_⟩;refine⟨fun i m σ H=>m=ds.length-i/\i<=ds.length/\∃F' ρi,Same F1 F'/\RS X.K F0 H0 F' H σ ρi/\runFor b u (ds.drop i) ρi=some (fl, ρ'),⟨ds.length,by simp,t7 _,F1, ρ,.refl _,r.grow g1,by simpa using h2⟩,?_⟩
 rintro i m σ H ⟨rfl,hi,F', ρi,s1,r1,h3⟩
 by_cases hlt:i<ds.length
 ·have hd:ds.drop i=ds[i] :: ds.drop (i+1):=g12 hlt
  rw [hd] at h3;obtain⟨ρ1,h4,h5⟩:=g9.mp h3;obtain⟨⟨fl1, ρ2⟩,h6,h7⟩:=g9.mp h5;refine .inr ⟨itd.go i F' H s1 r1.fh hlt,fun σ' H'=>∃F',Same F1 F'/\RS X.K F0 H0 F' H' σ' ρ2/\runFor b u (ds.drop (i+1)) ρ2=some (fl, ρ'),fun σ' H' ⟨F',z1,z2,z3⟩=>⟨ds.length-(i+1),by omega,rfl,hlt,F', ρ2,z1,z2,z3⟩,fun x H' y=>?_⟩;obtain⟨F2,g2,r2⟩:=itd.yld i ds[i] F' H x H' s1 r1.fh (by simp [hlt]) y;refine⟨F0,H0,F2, ρi,ds[i], ρ1,r1.grow g2,r2,h4,fun σ' r3=>⟨F0,H0,F2, ρ1,fl1, ρ2,r3,h6,?_⟩⟩;cases fl1 with
  | nx=>exact fun σ2 F3 H3 s3 r4=>⟨F3,(s1.trans g2.ff).trans s3,r4,h7⟩
  | ct=>exact fun σ2 F3 H3 s3 r4=>⟨F3,(s1.trans g2.ff).trans s3,r4,h7⟩
  | bk=>cases h7;exact fun σ2 F3 H3 s3 r4=>q σ2 F3 H3 ((g1.ff.trans (s1.trans g2.ff)).trans s3) r4
  | rt d=>cases h7;exact q
 ·have e:i=ds.length:=by omega
  subst e;rw [g2t] at h3;cases h3;exact .inl ⟨itd.stop _ F' H s1 r1.fh (gp _),q σ F' H (g1.ff.trans s1) r1⟩
def jd(t:FT)(body:FS): Nat->Rho->Option (Fl×Rho)
 | 0,_=>none
 | n+1, ρ =>(t ρ).bind fun c=>if c then(body ρ).bind fun r=>match r with
   | (.nx, ρ2)=>jd t body n ρ2
   | (.ct, ρ2)=>jd t body n ρ2
   | (.bk, ρ2)=>some (.nx, ρ2)
   | (.rt v, ρ2)=>some (.rt v, ρ2)
  else some (.nx, ρ)
theorem q9u{c:Expr}{body:List Stmt}{t:FT}{u:FS}(n:Nat)(hp:PassesOwn (model X.prog X.w) X.A X.env X.xe)(hc:PT X c (tDT X.K t))(hb:PSs X body (tDS X.K u)): PS X (.While c body [] pos) (tDS X.K (jd t u n)):=
 jq (qh1 hp hc hb) fun D σ H ⟨F0,H0,F, ρ,fl, ρ',r,hf,q⟩=>by
  refine⟨fun m σ H=>∃F' ρi,Same F F'/\RS X.K F0 H0 F' H σ ρi/\jd t u m ρi=some (fl, ρ'),⟨n,F, ρ,.refl _,r,hf⟩,?_⟩
  rintro m σ H ⟨F', ρi,s1,r1,h1⟩
  cases m with
  | zero=>cases h1
  | succ m=>
   obtain⟨c,h2,h3⟩:=g9.mp h1;refine⟨F0,H0,F', ρi,c,r1,h2,fun F2 H2 g2=>?_⟩;cases c with
   | false=>rw [m4 gj] at h3 ⊢;cases h3;exact q σ F2 H2 (s1.trans g2.ff) (r1.grow g2)
   | true=>
    rw [gz rfl] at h3 ⊢;obtain⟨⟨fl1, ρ2⟩,h6,h7⟩:=g9.mp h3;refine⟨fun σ' H'=>∃F',Same F F'/\RS X.K F0 H0 F' H' σ' ρ2/\jd t u m ρ2=some (fl, ρ'),fun σ' H' ⟨F',z1,z2,z3⟩=>⟨m,t9 _,F', ρ2,z1,z2,z3⟩,F0,H0,F2, ρi,fl1, ρ2,r1.grow g2,h6,?_⟩;cases fl1 with
    | nx=>exact fun σ2 F3 H3 s3 r4=>⟨F3,(s1.trans g2.ff).trans s3,r4,h7⟩
    | ct=>exact fun σ2 F3 H3 s3 r4=>⟨F3,(s1.trans g2.ff).trans s3,r4,h7⟩
    | bk=>cases h7;exact fun σ2 F3 H3 s3 r4=>q σ2 F3 H3 ((s1.trans g2.ff).trans s3) r4
    | rt d=>cases h7;exact q
end
def qmb:Option B->Option B
 | some (.fz d)=>some (.fz d)
 | _=>none
def ke(cap:List (Option Nat))(ρ : Rho): Rho:=cap.map fun o=>o.bind fun j=>qmb (ρ[j]?).join
structure Sub(ρ ρ':Rho): Prop where
 len : ρ.length = ρ'.length
 sub:∀(i:Nat) (b:B), ρ[i]? = some (some b) -> ρ'[i]? = some (some b)
theorem RS.weak{K:Frag}{F0 H0 F H:Hp}{σ : St}{ρ ρ':Rho}(r:RS K F0 H0 F H σ ρ')(s:Sub ρ ρ'): RS K F0 H0 F H σ ρ where
 t0:=r.t0
 g:=r.g
 len:=by rw [s.len];exact r.len
 fz:=fun i d e=>r.fz i d (s.sub i _ e)
 ow:=fun i ds e=>r.ow i ds (s.sub i _ e)
 dj:=fun i j ds es a h e1 e2=>r.dj i j ds es a h (s.sub i _ e1) (s.sub j _ e2)
 od:=fun i kvs e=>let⟨a,bs,e1,e2,e3⟩:=r.od i kvs (s.sub i _ e); ⟨a,bs,e1,e2,fun j es b h=>e3 j es b (s.sub j _ h)⟩
 o1:=fun i j k1 k2 e1 e2=>r.o1 i j k1 k2 (s.sub i _ e1) (s.sub j _ e2)
def q0w(ρ : Rho): Prop:=∀(i:Nat) (b:B), ρ[i]? = some (some b)->∃d,b=.fz d
theorem q33{ρ : Rho}(no:q0w ρ){i:Nat}{ds:List D}(h : ρ[i]? = some (some (.ow ds))): False:=let⟨_,e⟩:=no i _ h;nomatch e
theorem q34{ρ : Rho}(no:q0w ρ){i:Nat}{ds}(h : ρ[i]? = some (some (.od ds))): False:=let⟨_,e⟩:=no i _ h;nomatch e
theorem vm(cap:List (Option Nat))(ρ : Rho): q0w (ke cap ρ):=fun i ds h=>by
 unfold ke at h;rw [gy] at h;cases q:cap[i]? with
 | none=>rw [q] at h;cases h
 | some o=>
  rw [q] at h;cases o with
  | none=>cases h
  | some j=>
   simp only [p6,mf,g1g] at h;generalize (ρ[j]?).join=z at h;cases z with
   | none=>cases h
   | some b=>cases b with
    | fz d=>cases h;exact⟨d,rfl⟩
    | ow _=>cases h
    | od _=>cases h
theorem qmc{K:Frag}{F0 H0 F H:Hp}{σ : St}{ρ : Rho}(cap:List (Option Nat))(r:RS K F0 H0 F H σ ρ): RS K F H F H (q7i cap σ) (ke cap ρ) where
 t0:=⟨r.tab,r.tabF⟩
 g:=.refl r.fh
 len:=by unfold q7i ke;rw [mj,mj]
 fz := fun i d h=>by
  unfold ke at h;rw [gy] at h;cases q:cap[i]? with
  | none=>rw [q] at h;cases h
  | some o=>
   rw [q] at h;cases o with
   | none=>cases h
   | some j=>
    simp only [p6,mf,g1g] at h;have e : ρ[j]? = some (some (.fz d)):=by
     cases z : ρ[j]? with
     | none=>rw [z] at h;cases h
     | some b=>
      rw [z] at h;cases b with
      | none=>cases h
      | some b=>cases b with
       | fz d'=>cases h;rfl
       | ow _=>cases h
       | od _=>cases h
    obtain⟨v,e1,e2⟩:=r.fz j d e;refine⟨v,?_,e2⟩;unfold q7i;rw [gy,q];simp only [p6,mf,e1,pf]
 ow:=fun i ds h=>(q33 (vm cap ρ) h).elim
 dj:=fun i j ds es a _ h=>(q33 (vm cap ρ) h).elim
 od:=fun i ds h=>(q34 (vm cap ρ) h).elim
 o1:=fun i j ds es h=>(q34 (vm cap ρ) h).elim
theorem RS.other{K:Frag}{F0 H0 F H:Hp}{σ : St}{ρ : Rho}(r:RS K F0 H0 F H σ ρ)(no:q0w ρ){p:Addr}{o:HO}(h1:F p=none)(h2:H0 p=none)(h3:H p=none\/∃xs,H p=some (.lst xs)): RS K F0 H0 F (upd H p o) σ ρ where
 t0:=r.t0
 g :=⟨r.g.ff,⟨fun b u e=>by rw [qk (fun z=>by subst z;rw [h2] at e;cases e)];exact r.g.hh.lst b u e,fun b u e=>by rw [qk (fun z=>by subst z;rw [h2] at e;cases e)];exact r.g.hh.ext b u e,fun {b} e=>by
   by_cases z:b=p
   ·subst z;exact h2
   ·rw [qk z] at e;exact r.g.hh.free e,fun t=>(r.g.hh.tb t).upd h3,fun b u e=>by rw [qk (fun z=>by subst z;rw [h2] at e;cases e)];exact r.g.hh.dk b u e⟩,fun b u e=>by rw [qk (fun z=>by subst z;rw [h1] at e;cases e)];exact r.g.fh b u e,r.g.nw⟩
 len:=r.len
 fz:=r.fz
 ow:=fun i ds h=>(q33 no h).elim
 dj:=fun i j ds es a _ h=>(q33 no h).elim
 od:=fun i ds h=>(q34 no h).elim
 o1:=fun i j ds es h=>(q34 no h).elim
theorem q3z{F H F' H':Hp}{p:Addr}(g:Grow F H F' H')(h1:F p=none){o:HO}(h2:H p=some o): F' p=none:=by
 cases q:F' p with
 | none=>rfl
 | some u=>
  rcases g.nw p (by rw [q];simp) with z|z
  ·exact absurd h1 z
  ·rw [h2] at z;cases z
def z8(b:FB)(c:FT)(f:FE)(ρ : Rho): List D->Option (List D)
 | []=>some []
 | d :: ds=>(b d ρ).bind fun ρ1=>(c ρ1).bind fun t=>if t then(f ρ1).bind fun y=>(z8 b c f ρ ds).map fun ys=>y :: ys else z8 b c f ρ ds
def zw:FT:=fun _=>some true
def zc(it:FA)(cap:List (Option Nat))(b:FB)(c:FT)(f:FE): FA:=fun ρ =>(it ρ).bind fun ds=>if ds.length<=lim then z8 b c f (ke cap ρ) ds else none
def q6d(b:FB)(cap:List (Option Nat)): Prop:=∀ ρ d ρ',b d (ke cap ρ)=some ρ'->Sub (ke cap ρ) ρ'/\q0w ρ'
section
variable{X:Cx}
theorem qhq{ifs:List Expr}{t t':TT}(h:q0o X ifs t)(i:∀ σ H Q,t' σ H Q->t σ H Q): q0o X ifs t':=fun pins s σ H Q I q=>h pins s σ H Q I (i σ H Q q)
theorem kg:q0o X [] (tDT X.K zw):=qhq qhg fun σ H Q ⟨F0,H0,F, ρ,b,r,hf,q⟩=>by cases hf;exact q F H (.refl r.fh)
theorem q40{c:Expr}{t:FT}(h:PT X c (tDT X.K t)): q0o X [c] (tDT X.K t):=qhh h
theorem qfm{K:Frag}{it:FA}{cap:List (Option Nat)}{b:FB}{c:FT}{f:FE}{σ : St}{H:Hp}{Q:VK}(fr:q6d b cap)(h:tL K (zc it cap b c f) σ H Q): qdq (tDI K it) cap (tDG K b) (tDT K c) (tD K f) σ H Q:=by
 obtain⟨F0,H0,F, ρ,zs,r,hf,q⟩:=h;obtain⟨ds,h1,h2⟩:=g9.mp hf;have hlim:ds.length<=lim:=Decidable.byContradiction fun z=>by rw [m4 z] at h2;cases h2
 rw [gz hlim] at h2;refine⟨F0,H0,F, ρ,ds,r,h1,fun J F1 H1 g1 itd p hp=>?_⟩;have rc:=qmc cap (r.grow g1);have hF1:F1 p=none:=g1.fh.free hp;refine⟨fun i m σ H=>m=ds.length-i/\i<=ds.length/\∃F' xs ys us,Same F1 F'/\RS K F1 H1 F' H σ (ke cap ρ)/\H p=some (.lst xs)/\F' p=none/\RepL K F' ys xs/\z8 b c f (ke cap ρ) (ds.drop i)=some us/\ys++us=zs/\ys.length<=i,
  ⟨ds.length,by simp,t7 _,F1,[],[],zs,.refl _,rc.other (vm cap ρ) hF1 hp (.inl hp),qt,hF1,.nil,by simpa using h2,rfl,gp _⟩,?_⟩
 rintro i m σ' H' ⟨rfl,hi,F',xs,ys,us,s1,r1,hl,hn,ry,h3,h4,hyi⟩
 by_cases hlt:i<ds.length
 ·have hd:ds.drop i=ds[i] :: ds.drop (i+1):=g12 hlt
  rw [hd] at h3;obtain⟨ρ1,h5,h3⟩:=g9.mp h3;obtain⟨t,h6,h3⟩:=g9.mp h3;obtain⟨sb,no1⟩:=fr ρ _ _ h5;refine .inr ⟨itd.go i F' H' s1 r1.fh hlt,fun x H'' y=>?_⟩;obtain⟨F2,g2,r2⟩:=itd.yld i ds[i] F' H' x H'' s1 r1.fh (by simp [hlt]) y;refine⟨F1,H1,F2,ke cap ρ,ds[i], ρ1,r1.grow g2,r2,h5,fun σ2 r3=>⟨F1,H1,F2, ρ1,t,r3,h6,fun F3 H3 g3=>?_⟩⟩;have r4:=r3.grow g3;have hl2:=g2.hh.lst _ _ hl;have hn2:=q3z g2 hn hl;have hl3:=g3.hh.lst _ _ hl2;have hn3:=q3z g3 hn2 hl2;cases t with
  | false=>
   rw [m4 gj] at h3;exact qhe ⟨ds.length-(i+1),by omega,rfl,hlt,F3,xs,ys,us,(s1.trans g2.ff).trans g3.ff,r4.weak sb,hl3,hn3,ry.mono (g2.ff.trans g3.ff),h3,h4,Nat.le_succ_of_le hyi⟩
  | true=>
   rw [gz rfl] at h3;obtain⟨yd,h7,h3⟩:=g9.mp h3;obtain⟨us',h8,h9⟩:=gq.mp h3;refine qhf ⟨F1,H1,F3, ρ1,yd,r4,h7,fun v F4 H4 g4 r5=>?_⟩;have hl4:=g4.hh.lst _ _ hl3;have hn4:=q3z g4 hn3 hl3;have ss:Same F' F4:=(g2.ff.trans g3.ff).trans g4.ff;refine⟨xs,hl4,q87 (by have:=ry.length;omega),ds.length-(i+1),by omega,rfl,hlt,F4,xs++[v],ys++[yd],us',(s1.trans ss),?_,qt,hn4,(ry.mono ss).append (.cons r5 .nil),h8,?_,?_⟩
   ·exact((r4.grow g4).weak sb).other (vm cap ρ) hn4 hp (.inr ⟨_,hl4⟩)
   ·rw [g00,g3d,h9];exact h4
   ·rw [m8,g3b];omega
 ·have e:i=ds.length:=by omega
  subst e;rw [g2t] at h3;cases h3;rw [uo] at h4;subst h4;have gg:Grow F1 H1 F' H':=r1.g;exact .inl ⟨itd.stop _ F' H' s1 r1.fh (gp _),q p xs F' H' (g1.trans gg) hn (g1.hh.free hp) hl ry⟩
variable{N':List Str}{scope:Scope}{cap:List (Option Nat)}{tg iter elt:Expr}{ifs:List Expr}{it:FA}{b:FB}{c:FT}{f:FE}{pos:Pos}
theorem jk(hc:X.calm=true)(co:CapOk X N' scope cap)(fr:q6d b cap)(hi:PI X tg iter (tDI X.K it))
  (hg:∀cl C s₀ H₀ fp,PG (zx X N' scope cl C s₀ H₀ fp) tg (tDG X.K b)) (hcs:∀cl C s₀ H₀ fp,q0o (zx X N' scope cl C s₀ H₀ fp) ifs (tDT X.K c)) (he:∀cl C s₀ H₀ fp,PE (zx X N' scope cl C s₀ H₀ fp) elt (tD X.K f))
  (hs:∀x,foldedSetIterable iter X.env x=pure x:=by intro _;rfl):PE X (.ListComp elt [⟨tg,iter,ifs,0⟩] scope pos) (tL X.K (zc it cap b c f)):=
 za (qjn hc co hi hg hcs he hs) fun σ H Q h=>qfm fr h
theorem qjt{i:Nat}{x:Str}{px pe:Pos}(hc:X.calm=true)(hN:X.N.Nodup)(hx0:X.N[i]? = some x)(hx:X.env.scope.names.lookup x=some .local)(co:CapOk X N' scope cap)(fr:q6d b cap)(hi:PI X tg iter (tDI X.K it))
  (hg:∀cl C s₀ H₀ fp,PG (zx X N' scope cl C s₀ H₀ fp) tg (tDG X.K b)) (hcs:∀cl C s₀ H₀ fp,q0o (zx X N' scope cl C s₀ H₀ fp) ifs (tDT X.K c)) (he:∀cl C s₀ H₀ fp,PE (zx X N' scope cl C s₀ H₀ fp) elt (tD X.K f))
  (hsw:swapsWith (.ListComp elt [⟨tg,iter,ifs,0⟩] scope pe) (some (.Name x px)) pos.line X.env=pure true:=by rfl)
  (hs:∀x,foldedSetIterable iter X.env x=pure x:=by intro _;rfl):PS X (.Assign [.Name x px] (.ListComp elt [⟨tg,iter,ifs,0⟩] scope pe) pos) (tDS X.K (q0p i (zc it cap b c f))):=
 jq (qdr hc hN hx0 hx co hi hg hcs he hsw hs) fun D σ H h=>qfm fr (qj7 h)
end
theorem q9v{cap:List (Option Nat)}{ρ : Rho}{i:Nat}(h:cap[i]? = some none): (ke cap ρ)[i]? = some none:=by
 unfold ke;rw [gy,h];rfl
theorem qcu{ρ ρ':Rho}{i:Nat}{b:Option B}(s:Sub ρ ρ')(h : ρ[i]? = some none): Sub ρ (ρ'.set i b):=
 ⟨by rw [t6];exact s.len,fun j c e=>by
  by_cases q:j=i
  ·subst q;rw [h] at e;cases e
  ·rw [gd (gw q)];exact s.sub j c e⟩
theorem q8b{ρ : Rho}{i:Nat}{d:D}(h:q0w ρ): q0w (ρ.set i (some (.fz d))):=fun j ds e=>by
 by_cases q:j=i
 ·subst q
  obtain⟨z,_⟩:=qr e;cases z;exact⟨d,rfl⟩
 ·rw [gd (gw q)] at e;exact h j ds e
theorem Sub.refl(ρ : Rho): Sub ρ ρ :=⟨rfl,fun _ _ h=>h⟩
theorem j0{cap:List (Option Nat)}{i:Nat}(h:cap[i]? = some none): q6d (bN i) cap:=fun ρ d ρ' e=>by
 cases e;exact⟨qcu (.refl _) (q9v h),q8b (vm cap ρ)⟩
def q6e(bs:FBs)(cap:List (Option Nat)): Prop:=∀ ρ ds ρ1 ρ',Sub (ke cap ρ) ρ1->q0w ρ1->bs ds ρ1=some ρ'->Sub (ke cap ρ) ρ'/\q0w ρ'
theorem q0x{cap:List (Option Nat)}: q6e wj cap:=fun ρ ds ρ1 ρ' s n e=>by
 unfold wj at e
 split at e
 ·cases e;exact⟨s,n⟩
 ·cases e
theorem ju{cap:List (Option Nat)}{i:Nat}{bs:FBs}(h:cap[i]? = some none)(t:q6e bs cap): q6e (ji (bN i) bs) cap:=fun ρ ds ρ1 ρ' s n e=>by
 cases ds with
 | nil=>cases e
 | cons d ds=>exact t ρ ds _ ρ' (qcu s (q9v h)) (q8b n) e
theorem q1z{cap:List (Option Nat)}{n:Nat}{bs:FBs}(t:q6e bs cap): q6d (wk n bs) cap:=fun ρ d ρ' e=>by
 cases d <;> simp only [wk] at e <;> first|(cases e;done)|skip
 split at e
 ·exact t ρ _ _ ρ' (.refl _) (vm cap ρ) e
 ·cases e
def qmd (outer:List (Str×NameKind)) (N N':List Str) (scope:Scope) (cap:List (Option Nat)):Bool:=
 scope.names.all (fun y=> !(y.2 == .cell))&&(scope.names.all (fun y=> !(y.2 == .local) || (scope.names.lookup y.1==some .local))&&(scope.names.all (fun y=> !(y.2 == .free) || (outer.lookup y.1==some .cell) || (outer.lookup y.1==some .free)) &&
  (cap.length==N'.length&&(List.range cap.length).all fun i=>match(cap[i]?).join with
   | none=>true
   | some j=>match N'[i]? with
    | none=>false
    | some x=>N[j]? == some x&&scope.names.lookup x==some .free)))
theorem zt{X:Cx}{N':List Str}{scope:Scope}{cap:List (Option Nat)}(hk:scope.kind=.function)(h:qmd X.env.scope.names X.N N' scope cap=true): CapOk X N' scope cap:=by
 unfold qmd at h;simp only [m6,g2u] at h;obtain⟨h1,h2,h3,h4,h5⟩:=h;refine⟨hk,fun y hy e=>?_,fun y hy e=>?_,fun y hy e=>?_,by simpa using h4,fun i j e=>?_⟩
 ·have:=h1 y hy;rw [e] at this;cases this
 ·have:=h2 y hy;rw [e] at this;simpa using this
 ·have:=h3 y hy
  rw [e] at this;simp only [beq_self_eq_true,g07,Bool.false_or,g11,g1b] at this;exact this
 ·have hi:i<cap.length:=(ma.mp e).1
  have:=h5 i (pj.mpr hi);rw [e] at this;simp only [pf] at this
  split at this
  ·cases this
  ·rename_i x hx
   simp only [m6,g1b] at this;exact⟨x,hx,this.1,this.2⟩
section
variable{X:Cx}{e:Expr}{es:List Expr}{pos:Pos}{f g:FE}{fa:FA}
inductive Ty where
 | int|bool|tuple|list|str|dict
def Ty.name:Ty->String
 | .int=>"int" | .bool=>"bool" | .tuple=>"tuple" | .list=>"list" | .str=>"str" | .dict=>"dict"
def z0:Ty->D->Bool
 | .int,.int _=>true
 | .int,.bl _=>true
 | .bool,.bl _=>true
 | .tuple,.tup _=>true
 | .list,.lst _=>true
 | .str,.str _=>true
 | .dict,.dct _ _=>true
 | .dict,.dtt _ _=>true
 | _,_=>false
theorem qhr{prog:Program}{w:World}{A:Around}{E:Value->Shared->Prop}{s:Shared}{Q:Value->Shared->Prop}{K:Frag}{T:String}{b:Bool}(hk:K.In s.heap)(h:∀tk,Q (.bool b) {s with toks:=tk})(hT:PySem.W.kitOne K (.type "NoneType") (.type T)=some b):
  wpAny (model prog w) A (call (.builtin "isinstance") [.none,.type T]) Q E s:=g1w PySem.W.kitx_none hk True.intro hT (fun z=>nomatch z) h
theorem qhs(T:Ty): zi X (.builtin "isinstance") (fun xs H Q=>∃x F d,xs=[x,.ty T.name]/\Same F H/\Rep X.K F d x/\Q (.bl (z0 T d)) H):=by
 intro pins s σ H xs us Q I r h;obtain⟨x,F,d,rfl,fh,rd,q⟩:=h;obtain⟨u,w',rfl,rx,rt⟩:=r.two;obtain rfl:w'=Value.type T.name:=rt;have fin:∀ {b:Bool},Q (.bl b) H->EP X pins σ Q (.bool b) s:=fun q=>⟨.bl _,H,I,rfl,q⟩
 have fin1:∀ {b:Bool},Q (.bl b) H->EP X pins σ Q (.bool b) {s with toks:=s.toks+1}:=fun q=>⟨.bl _,H,I.tok _,rfl,q⟩
 cases d with
 | non=>
  cases rep_non.mp rd;cases rx;cases T <;> exact qhr I.kIn (fun tk=>⟨.bl _,H,I.tok _,rfl,q⟩) (by rfl)
 | bl b=>
  cases rep_bl.mp rd;cases rx;cases T
  ·exact IsiPair.bool_int (fin q)
  ·exact IsiPair.bool_bool (fin q)
  ·exact IsiPair.bool_tuple (fin1 q)
  ·exact IsiPair.bool_list (fin1 q)
  ·exact IsiPair.bool_str (fin1 q)
  ·exact IsiPair.bool_dict (fin1 q)
 | int i=>
  cases rep_int.mp rd;obtain⟨t,rfl⟩:=rx;cases T
  ·exact IsiPair.int_int (fin q)
  ·exact IsiPair.int_bool (fin1 q)
  ·exact IsiPair.int_tuple (fin1 q)
  ·exact IsiPair.int_list (fin1 q)
  ·exact IsiPair.int_str (fin1 q)
  ·exact IsiPair.int_dict (fin1 q)
 | str z=>
  cases rep_str.mp rd;obtain⟨t,rfl⟩:=rx;cases T
  ·exact IsiPair.str_int (fin1 q)
  ·exact IsiPair.str_bool (fin1 q)
  ·exact IsiPair.str_tuple (fin1 q)
  ·exact IsiPair.str_list (fin1 q)
  ·exact IsiPair.str_str (fin q)
  ·exact IsiPair.str_dict (fin1 q)
 | tup ds=>
  obtain⟨a,ys,rfl,h1,h2⟩:=rep_tup.mp rd;cases rx;obtain⟨its,_,⟨o,ho,hc,_⟩,_⟩:=I.tuple (ql fh h1);cases T
  ·exact IsiPair.tuple_int ho hc (fin1 q)
  ·exact IsiPair.tuple_bool ho hc (fin1 q)
  ·exact IsiPair.tuple_tuple ho hc (fin q)
  ·exact IsiPair.tuple_list ho hc (fin1 q)
  ·exact IsiPair.tuple_str ho hc (fin1 q)
  ·exact IsiPair.tuple_dict ho hc (fin1 q)
 | lst ds=>
  obtain⟨a,ys,rfl,h1,h2⟩:=rep_lst.mp rd;cases rx;obtain⟨its,_,⟨o,n,ho,hc,_⟩,_⟩:=I.list (fh.seq h1);cases T
  ·exact IsiPair.list_int ho hc (fin1 q)
  ·exact IsiPair.list_bool ho hc (fin1 q)
  ·exact IsiPair.list_tuple ho hc (fin1 q)
  ·exact IsiPair.list_list ho hc (fin q)
  ·exact IsiPair.list_str ho hc (fin1 q)
  ·exact IsiPair.list_dict ho hc (fin1 q)
 | dct ks vs=>
  obtain⟨a,ys,rfl,h1,h2,h3⟩:=rep_dct.mp rd;cases rx;obtain⟨_,_,vs',_,o,es',ep,ho,hc,_⟩:=(show ObjOk X.prog X.w H s.heap a _ from I.hok a _ (fh _ _ h1))
  cases T
  ·exact IsiPair.dict_int ho hc.1 (fin1 q)
  ·exact IsiPair.dict_bool ho hc.1 (fin1 q)
  ·exact IsiPair.dict_tuple ho hc.1 (fin1 q)
  ·exact IsiPair.dict_list ho hc.1 (fin1 q)
  ·exact IsiPair.dict_str ho hc.1 (fin1 q)
  ·exact IsiPair.dict_dict ho hc.1 (fin q)
 | dtt ks vs=>
  obtain⟨a,xs',ys,ep,rfl,h1,_⟩:=rep_dtt.mp rd;cases rx;obtain⟨⟨o,es',ho,hc,_⟩,_,_⟩:=(show ObjOk X.prog X.w H s.heap a _ from I.hok a _ (fh _ _ h1))
  cases T
  ·exact IsiPair.dict_int ho hc.1 (fin1 q)
  ·exact IsiPair.dict_bool ho hc.1 (fin1 q)
  ·exact IsiPair.dict_tuple ho hc.1 (fin1 q)
  ·exact IsiPair.dict_list ho hc.1 (fin1 q)
  ·exact IsiPair.dict_str ho hc.1 (fin1 q)
  ·exact IsiPair.dict_dict ho hc.1 (fin q)
 | obj x=>
  obtain⟨a,dx,C,rfl,h1,_,c1,c2,c3,c4,c5,c6,c7⟩:=rep_obj.mp rd;cases rx;obtain⟨mA,O,_⟩:=qck I.hok (fh _ _ h1);obtain⟨od,J,_⟩:=O.look;cases T <;> exact g1w (PySem.W.kitx_own c1 c2 c3 c4 c5 c6) I.kIn J (c7 _ (by decide)) (fun z=>nomatch z) (fun tk=>⟨.bl _,H,I.tok _,rfl,q⟩)
 | exc x=>
  obtain⟨a,C,rfl,h1,_,c1,c2⟩:=rep_exc.mp rd;cases rx;obtain⟨J,_,_⟩:=(show ObjOk X.prog X.w H s.heap a _ from I.hok a _ (fh _ _ h1))
  cases T <;> exact g1w (q5k c1) I.kIn J (c2 _ (by decide)) (fun z=>nomatch z) (fun tk=>⟨.bl _,H,I.tok _,rfl,q⟩)
def q41(T:Ty)(f:FE): FE:=fun ρ =>(f ρ).map fun d=>.bl (z0 T d)
theorem q35:bootBuiltins "isinstance" = some (.builtin "isinstance"):=by decide +kernel
theorem q2k{x:Str}{p px:Pos}(T:Ty)(hg:Gl X "isinstance")(hm:X.mg "isinstance" = none)(hgT:Gl X x)(hmT:X.mg x=none)(hvT:bootBuiltins x=some (.type T.name))(ha:PE X e (tD X.K f))
  (hnT:x≠"__name__" :=by decide) (hdT:(x==("__debug__" : Str))=false:=by decide) (he2:starEach [e,.Name x px] X.env=(false,eval e X.env) :: starEach [.Name x px] X.env:=by rfl) :
  PE X (.Call (.Name "isinstance" p) [e,.Name x px] [] pos) (tD X.K (q41 T f)):=
 za (q01 (qhs T) hg hm q35 (ze ha (ze (qcf (v:=.ty T.name) hgT hmT hvT rfl hnT hdT) y0) he2) (by decide) (by decide) he2 rfl) fun σ H Q ⟨F0,H0,F, ρ,d,r,hf,q⟩=>by
  obtain⟨d',h1,h2⟩:=gq.mp hf;subst h2;exact⟨F0,H0,F, ρ,d',r,h1,fun v F' H' g' r'=>⟨v,F',d',rfl,g'.fh,r',q _ F' H' g' (rep_bl.mpr rfl)⟩⟩
def q0y:List D->Option (List Int)
 | []=>some []
 | .int i :: r=>(q0y r).map fun is=>i :: is
 | _ :: _=>none
def q2l:List D->Option (List Bool)
 | []=>some []
 | .bl i :: r=>(q2l r).map fun is=>i :: is
 | _ :: _=>none
theorem q6f:∀ {ds:List D} {ns:List Int},q0y ds=some ns->ds=ns.map D.int
 | [],ns,h=>by cases h;rfl
 | d :: r,ns,h=>by
  cases d <;> simp only [q0y] at h <;> first|(cases h;done)|skip
  obtain⟨is,h1,h2⟩:=gq.mp h;subst h2;rw [q6f h1];rfl
omit [Lam] in
theorem q8c:∀(ns:List Int),q0y (ns.map D.int)=some ns
 | []=>rfl
 | n :: r=>by simp only [gx,q0y,q8c r,p6]
theorem q58:∀ {ds:List D} {bs:List Bool},q2l ds=some bs->ds=bs.map D.bl
 | [],ns,h=>by cases h;rfl
 | d :: r,ns,h=>by
  cases d <;> simp only [q2l] at h <;> first|(cases h;done)|skip
  obtain⟨is,h1,h2⟩:=gq.mp h;subst h2;rw [q58 h1];rfl
omit [Lam] in
theorem q6g:∀(ns:List Bool),q2l (ns.map D.bl)=some ns
 | []=>rfl
 | n :: r=>by simp only [gx,q2l,q6g r,p6]
theorem RepL.bools{K:Frag}{H:Hp}: ∀ {bs:List Bool} {xs:List V},RepL K H (bs.map D.bl) xs->xs=bs.map V.bl
 | [],xs,h=>h.nil_inv
 | b :: bs,xs,h=>by
  obtain⟨x,r,rfl,h1,h2⟩:=h.cons_inv;rw [rep_bl.mp h1,RepL.bools h2];rfl
def o1L(z:List D->Option D): List D->Option D
 | [.lst ds]=>z ds
 | _=>none
theorem q9w{z:List D->Option D}{es:List D}{d:D}(h:o1L z es=some d): ∃ds,es=[.lst ds]/\z ds=some d:=by
 unfold o1L at h
 split at h
 ·exact⟨_,rfl,h⟩
 ·cases h
theorem rep1{K:Frag}{F:Hp}{d:D}{xs:List V}(h:RepL K F [d] xs): ∃x,xs=[x]/\Rep K F d x:=by
 obtain⟨x,r,rfl,h1,h2⟩:=h.cons_inv;cases h2.nil_inv;exact⟨x,rfl,h1⟩
abbrev q9x:List D->Option D:=o1L fun ds=>(q0y ds).map fun ns=>.int ns.sum
abbrev q9y:List D->Option D:=o1L fun ds=>(q2l ds).map fun bs=>.bl (bs.all id)
theorem qfn(hc:X.calm=true): zi X (.builtin "sum") (rC X.K q9x):=by
 intro pins s σ H xs us Q I r h;obtain⟨F,ds,d,fh,rl,ho,q⟩:=h;obtain⟨es,rfl,h1⟩:=q9w ho;obtain⟨ns,h2,h3⟩:=gq.mp h1;subst h3;cases q6f h2;obtain⟨x,rfl,rx⟩:=rep1 rl;obtain⟨u,rfl,ru⟩:=r.one;obtain⟨a,ys,rfl,k1,k2⟩:=rep_lst.mp rx;cases ru;cases RepL.ints.mp k2;obtain⟨its,rv,pl,_⟩:=I.list (fh.seq k1);have hi:=intsAre_of rv;obtain⟨zs,hz⟩:=hi.allInts.items;have hl:s.heap.IsList a (intItems zs):=hz ▸ pl.isList;refine sum_intListG (I.ok.hd hc) hl fun h' tk t' hk=>?_;have e1:ns=zs.toList.map (·.1):=by
  rw [<- nums_intItems, <- hz];exact(show numsOf its.toArray.toList=ns from hi.numsOf).symm
 have e2:preSum (numAt zs) zs.size=ns.sum:=by
  rw [preSum_eq,g0e (by simp),e1]
 rw [e2];exact⟨.int ns.sum,H,I.kept hk,⟨_,rfl⟩,q _ F H (.refl fh) (rep_int.mpr rfl)⟩
theorem q6h:∀ {bs:List Bool} {us:List Value},Vals (bs.map V.bl) us->us=bs.map Value.bool
 | [],us,h=>by cases h;rfl
 | b :: bs,us,h=>by
  rw [gx] at h;cases h with
  | cons r t=>
   cases(show _=Value.bool b from r);rw [q6h t];rfl
theorem qfo(hc:X.calm=true): zi X (.builtin "all") (rC X.K q9y):=by
 intro pins s σ H xs us Q I r h;obtain⟨F,ds,d,fh,rl,ho,q⟩:=h;obtain⟨es,rfl,h1⟩:=q9w ho;obtain⟨bs,h2,h3⟩:=gq.mp h1;subst h3;cases q58 h2;obtain⟨x,rfl,rx⟩:=rep1 rl;obtain⟨u,rfl,ru⟩:=r.one;obtain⟨a,ys,rfl,k1,k2⟩:=rep_lst.mp rx;cases ru;cases k2.bools;obtain⟨its,rv,pl,_⟩:=I.list (fh.seq k1);cases q6h rv;have hlt:a<s.heap.objs.size:=by obtain⟨_,e,_⟩:=pl.isList;exact gh e
 refine call_all_walk (g1i pl.isList ?_);refine⟨s.heap.objs.size,[s.heap.objs.size,a],[s.heap.objs.size],(bs.map Value.bool).toArray.size,_,_,fun i=>(bs[i]?).getD true,rfl,Walks.list (A:=X.A.in1) (I.ok.hd hc) _ a (gr hlt) (bs.map Value.bool).toArray,
  ⟨⟨_,gi _ rfl,rfl,rfl⟩,pl.isList.push _⟩,fun i v s' Q' E' hP hQ=>?_,fun h' tk hk=>?_⟩
 ·have hP':(bs.map Value.bool)[i]? = some v:=by simpa using hP
  rw [gy] at hP';cases z:bs[i]? with
  | none=>rw [z] at hP';cases hP'
  | some b=>
   rw [z] at hP';cases hP';simp only [z,Option.getD_some] at hQ;exact tw hQ
 ·have e:((List.range (bs.map Value.bool).toArray.size).all fun i=>(bs[i]?).getD true)=bs.all id:=by
   rw [gf,mj];exact LSm.range_all bs
  rw [e];exact⟨.bl _,H,I.kept (LSm.kept_iter hk),rfl,q _ F H (.refl fh) (rep_bl.mpr rfl)⟩
theorem boot_sum:bootBuiltins "sum" = some (.builtin "sum"):=by decide +kernel
theorem boot_all:bootBuiltins "all" = some (.builtin "all"):=by decide +kernel
theorem boot_min:bootBuiltins "min" = some (.builtin "min"):=by decide +kernel
theorem boot_max:bootBuiltins "max" = some (.builtin "max"):=by decide +kernel
theorem vn:bootBuiltins "len" = some (.builtin "len"):=by decide +kernel
theorem boot_tuple:bootBuiltins "tuple" = some (.type "tuple"):=by decide +kernel
theorem boot_list:bootBuiltins "list" = some (.type "list"):=by decide +kernel
theorem boot_int:bootBuiltins "int" = some (.type "int"):=by decide +kernel
theorem boot_bool:bootBuiltins "bool" = some (.type "bool"):=by decide +kernel
theorem boot_str:bootBuiltins "str" = some (.type "str"):=by decide +kernel
theorem boot_dict:bootBuiltins "dict" = some (.type "dict"):=by decide +kernel
def o2I(z:Int->Int->Int): List D->Option D
 | [.int i,.int j]=>some (.int (z i j))
 | _=>none
theorem q9z{z:Int->Int->Int}{es:List D}{d:D}(h:o2I z es=some d): ∃i j,es=[.int i,.int j]/\d=.int (z i j):=by
 unfold o2I at h
 split at h
 ·cases h;exact⟨_,_,rfl,rfl⟩
 ·cases h
theorem qj8{K:Frag}{F:Hp}{i j:Int}{xs:List V}(h:RepL K F [.int i,.int j] xs): xs=[.int i,.int j]:=RepL.ints (ns:=[i,j]).mp h
abbrev oMin:=o2I fun i j=>if j<i then j else i
abbrev oMax:=o2I fun i j=>if j>i then j else i
theorem qme(hc:X.calm=true): zi X (.builtin "min") (rC X.K oMin):=yo (qf6 hc) fun xs H Q ⟨F,ds,d,fh,rl,ho,q⟩=>by
 obtain⟨i,j,rfl,rfl⟩:=q9z ho;exact⟨i,j,qj8 rl,q _ F H (.refl fh) (rep_int.mpr rfl)⟩
theorem qmf(hc:X.calm=true): zi X (.builtin "max") (rC X.K oMax):=yo (qf5 hc) fun xs H Q ⟨F,ds,d,fh,rl,ho,q⟩=>by
 obtain⟨i,j,rfl,rfl⟩:=q9z ho;exact⟨i,j,qj8 rl,q _ F H (.refl fh) (rep_int.mpr rfl)⟩
def wm:List D->Option D
 | [.tup ds]=>some (.int ds.length)
 | [.lst ds]=>some (.int ds.length)
 | [.str x]=>if x.length<=lim then some (.int x.length) else none
 | _=>none
theorem q0g:zi X (.builtin "len") (rC X.K wm):=yo qh7 fun xs H Q ⟨F,ds,d,fh,rl,ho,q⟩=>by
 unfold wm at ho
 split at ho
 ·cases ho
  obtain⟨x,rfl,rx⟩:=rep1 rl;obtain⟨a,ys,rfl,k1,k2⟩:=rep_tup.mp rx;exact⟨_,ys.length,rfl,.inr ⟨ys,ql fh k1,rfl⟩,by rw [<- k2.length];exact q _ F H (.refl fh) (rep_int.mpr rfl)⟩
 ·cases ho
  obtain⟨x,rfl,rx⟩:=rep1 rl;obtain⟨a,ys,rfl,k1,k2⟩:=rep_lst.mp rx;exact⟨_,ys.length,rfl,.inl ⟨ys,fh.seq k1,rfl⟩,by rw [<- k2.length];exact q _ F H (.refl fh) (rep_int.mpr rfl)⟩
 ·split at ho
  ·rename_i z
   cases ho;obtain⟨x,rfl,rx⟩:=rep1 rl;cases rep_str.mp rx;exact⟨_,_,rfl,⟨x9 z,rfl⟩,q _ F H (.refl fh) (rep_int.mpr rfl)⟩
  ·cases ho
 ·cases ho
def vg:List D->Option D
 | [.tup ds]=>some (.tup ds)
 | [.lst ds]=>some (.tup ds)
 | _=>none
theorem vw:zi X (.type "tuple") (rC X.K vg):=yo q91 fun xs H Q ⟨F,ds,d,fh,rl,ho,q⟩=>by
 unfold vg at ho
 split at ho
 ·cases ho
  obtain⟨x,rfl,rx⟩:=rep1 rl;obtain⟨a,ys,rfl,k1,k2⟩:=rep_tup.mp rx;exact⟨a,ys,rfl,.inr ⟨ql fh k1,q _ F H (.refl fh) rx⟩⟩
 ·cases ho
  obtain⟨x,rfl,rx⟩:=rep1 rl;obtain⟨a,ys,rfl,k1,k2⟩:=rep_lst.mp rx;refine⟨a,ys,rfl,.inl ⟨fh.seq k1,fun l hl=>?_⟩⟩;have gn:Grow F H (upd F l (.tup ys)) (upd H l (.tup ys)):=Grow.new fh hl;exact q _ _ _ gn (rep_tup.mpr ⟨l,ys,rfl,SqT.of qt,k2.mono gn.ff⟩)
 ·cases ho
def qa0:List D->Option D
 | [.int i]=>some (.int i)
 | [.bl b]=>some (.int (if b then 1 else 0))
 | _=>none
theorem qmg:zi X (.type "int") (rC X.K qa0):=yo qf7 fun xs H Q ⟨F,ds,d,fh,rl,ho,q⟩=>by
 unfold qa0 at ho
 split at ho
 ·cases ho
  obtain⟨x,rfl,rx⟩:=rep1 rl;exact .inl ⟨_,by rw [rep_int.mp rx],q _ F H (.refl fh) (rep_int.mpr rfl)⟩
 ·cases ho
  obtain⟨x,rfl,rx⟩:=rep1 rl;exact .inr ⟨_,by rw [rep_bl.mp rx],q _ F H (.refl fh) (rep_int.mpr rfl)⟩
 ·cases ho
def rCL(K:Frag)(op:List D->Option (List D)): List V->Hp->VK->Prop:=fun xs H Q=>∃F ds es,Same F H/\RepL K F ds xs/\op ds=some es/\∀a ys F' H',Grow F H F' H'->F' a=none->H a=none->H' a=some (.lst ys)->RepL K F' es ys->Q (.ref a) H'
def q9b(op:List D->Option (List D))(fa:FA): FA:=fun ρ =>(fa ρ).bind op
theorem qju{K:Frag}{op:List D->Option (List D)}{σ : St}{H:Hp}{Q:VK}(h:tL K (q9b op fa) σ H Q): tDA K fa σ H fun vs H1=>rCL K op vs H1 Q:=by
 obtain⟨F0,H0,F, ρ,d,r,hf,q⟩:=h;obtain⟨ds,h1,h2⟩:=g9.mp hf;exact⟨F0,H0,F, ρ,ds,r,h1,fun vs F1 H1 g1 r1=>⟨F1,ds,d,g1.fh,r1,h2,fun a ys F2 H2 g2 k1 k2 k3 k4=>q a ys F2 H2 (g1.trans g2) k1 (g1.hh.free k2) k3 k4⟩⟩
theorem qfp{x:Str}{p:Pos}{T:String}{op:List D->Option (List D)}(hc:zi X (.type T) (rCL X.K op))(hg:Gl X x)(hm:X.mg x=none)(hv:bootBuiltins x=some (.type T))(ha:PA X (e :: es) (tDA X.K fa))
  (hn:x≠"__name__" :=by decide) (hdb:(x==("__debug__" : Str))=false:=by decide)
  (he:starEach (e :: es) X.env=(false,eval e X.env) :: starEach es X.env:=by rfl) (hpl:(backTo pos (starEach es X.env)).any (·.1)=false:=by rfl):PE X (.Call (.Name x p) (e :: es) [] pos) (tL X.K (q9b op fa)):=
 za (q1y hc hg hm hv ha hn hdb he hpl) fun σ H Q h=>qju h
def q6i:List D->Option (List D)
 | [.tup ds]=>some ds
 | [.lst ds]=>some ds
 | _=>none
theorem qjv:zi X (.type "list") (rCL X.K q6i):=yo q9q fun xs H Q ⟨F,ds,d,fh,rl,ho,q⟩=>by
 unfold q6i at ho
 split at ho
 ·cases ho
  obtain⟨x,rfl,rx⟩:=rep1 rl;obtain⟨a,ys,rfl,k1,k2⟩:=rep_tup.mp rx;exact⟨a,ys,rfl,.inr (ql fh k1),fun l hl=>q l ys F _ (Grow.own fh hl) (fh.free hl) hl qt k2⟩
 ·cases ho
  obtain⟨x,rfl,rx⟩:=rep1 rl;obtain⟨a,ys,rfl,k1,k2⟩:=rep_lst.mp rx;exact⟨a,ys,rfl,.inl (fh.seq k1),fun l hl=>q l ys F _ (Grow.own fh hl) (fh.free hl) hl qt k2⟩
 ·cases ho
theorem qcv{K:Frag}{H:Hp}{ds:List D}{xs:List V}{i:Int}{d:D}(h:RepL K H ds xs)(e:atI ds i=some d): ∃x,atI xs i=some x/\Rep K H d x:=by
 unfold atI at e ⊢;rw [<- h.length];cases q:ixN ds.length i with
 | none=>rw [q] at e;cases e
 | some j=>
  rw [q] at e;exact h.get e
def oIx:D->D->Option D
 | .tup ds,.int i=>atI ds i
 | .lst ds,.int i=>atI ds i
 | _,_=>none
theorem xq{a b:Expr}(ha:PE X a (tD X.K f))(hb:PE X b (tD X.K g))(hs:qco b:=by intro _ _;rfl): PE X (.Subscript a b pos) (tD X.K (eOp oIx f g)):=za (qo4 qly ha hb hs) fun σ H Q h=>by
 have h':=two h;obtain⟨F0,H0,F, ρ,d,r,hf,q⟩:=h';refine⟨F0,H0,F, ρ,d,r,hf,fun v F1 H1 g1 r1=>?_⟩;obtain⟨F0',H0',F', ρ',d',r',hf',q'⟩:=q v F1 H1 g1 r1;refine⟨F0',H0',F', ρ',d',r',hf',fun v2 F2 H2 g2 r2=>?_⟩;obtain⟨F3,d1,d2,d3,fh,k1,k2,k3,k4⟩:=q' v2 F2 H2 g2 r2;unfold oIx at k3
 split at k3
 ·obtain⟨p,ys,rfl,z1,z2⟩:=rep_tup.mp k1
  obtain⟨y,z3,z4⟩:=qcv z2 k3;exact .inr (.inl ⟨p,ys,_,y,rfl,rep_int.mp k2,ql fh z1,z3,k4 y F3 H2 (.refl fh) z4⟩)
 ·obtain⟨p,ys,rfl,z1,z2⟩:=rep_lst.mp k1
  obtain⟨y,z3,z4⟩:=qcv z2 k3;exact .inl ⟨p,ys,_,y,rfl,rep_int.mp k2,fh.seq z1,z3,k4 y F3 H2 (.refl fh) z4⟩
 ·cases k3
def eUn(o:D->Option D)(f:FE): FE:=fun ρ =>(f ρ).bind o
end
section
variable{prog:Program}{w:World}{A:Around}{E:Value->Shared->Prop}{s:Shared}
theorem q92{t sl:Addr}{items:Array Value}{vl vu:Value}{lo hi:Option Int}{Q:Value->Shared->Prop}(ht:IsTup s.heap t items)(hs:s.heap.IsSliceOf sl vl vu .none)
  (pl:IsPart vl lo) (pu:IsPart vu hi) (w1:HT.sIx items.size 0 lo=0) (w2:HT.sIx items.size items.size hi=items.size) (h:Q (.ref t) s) :
  wpAny (model prog w) A (getItem (.ref t) (.ref sl)) Q E s:=by
 obtain⟨os,hos,hcs,hds⟩:=id hs;have hTs:s.TypeIs (.ref sl) "slice" :=⟨os,hos,hcs⟩
 unfold getItem
 try with_reducible refine nv ?_
 first|refine g0 (gb ?_)|skip
 refine g0 (wpAny_sequenceKey ht.typeIs (by decide) (g0 (mx (name:=Str.ofString "__getitem__") ht.typeIs nu
  (mm nu ht.typeIs entry_tuple_getitem ?_ (args_tuple_getitem _ _)))))
 show wpAny _ _ (Builtin.Tuple.tupleItemsOf (.ref t) >>= _) _ _ s;refine g0 (tupleItemsOf_ ht (g0 (g0k hTs ?_)));rw [gz (by decide)];refine g0 (HT.sliceApplied_gen hs pl pu ?_);rw [w1,w2];show wpAny _ _ (if(((0:Nat):Int)==0&&(1:Int)==1&&(items.size-0)==items.size)=true then _ else _) _ _ s;rw [gz (by simp)];refine g0 ?_;unfold Builtin.Tuple.tupleIsExact;refine g0 (g0k ht.typeIs (gb ?_))
 first
  | rw [gz (by decide)]
  | skip
 first
  | exact g0 (ud (g0 (gb (gb ⟨_,rfl,gb h⟩))))
  | exact g0 (ud (gb ⟨_,rfl,gb h⟩))
  | exact g0 (g0 (ud (gb (gb ⟨_,rfl,gb h⟩))))
end
section
variable{X:Cx}{e:Expr}{es:List Expr}{pos:Pos}{f g:FE}{fa:FA}
def qpf(K:Frag): V->Option Int->Option Int->Hp->VK->Prop:=fun x lo hi H Q=>∃a xs,x=.ref a/\SqT K H a xs/\HT.sIx xs.length 0 lo=0/\HT.sIx xs.length xs.length hi=xs.length/\Q (.ref a) H
theorem qht:SlR X (qpf X.K):=by
 intro pins s σ H x v vl vu lo hi sl Q I rx hs pl pu h;obtain⟨a,xs,rfl,hx,w1,w2,q⟩:=h;cases rx;obtain⟨its,r,ht,hz⟩:=I.tuple hx;have hlen:its.toArray.size=xs.length:=by rw [gf];exact r.length.symm
 exact⟨"tuple",_,nu.lookup,ht.typeIs,q92 ht hs pl pu (by rw [hlen];exact w1) (by rw [hlen];exact w2) ⟨.ref a,H,I,rfl,q⟩⟩
def cutD(ds:List D)(lo hi:Option Int): List D:=(ds.drop (HT.sIx ds.length 0 lo)).take (HT.sIx ds.length ds.length hi-HT.sIx ds.length 0 lo)
def oSl:D->Option Int->Option Int->Option D
 | .tup ds,lo,hi=>some (.tup (cutD ds lo hi))
 | .lst ds,lo,hi=>some (.lst (cutD ds lo hi))
 | _,_,_=>none
abbrev FO:=Rho->Option (Option Int)
def oNo:FO:=fun _=>some none
def oAt(f:FE): FO:=fun ρ =>(f ρ).bind fun d=>match d with
 | .int i=>some (some i)
 | _=>none
def tDO(K:Frag)(f:FO): TO:=fun σ H Q=>∃F0 H0 F ρ i,RS K F0 H0 F H σ ρ /\ f ρ = some i/\∀F' H',Grow F H F' H'->Q i H'
theorem qfq{o:Option Expr}{t t':TO}(h:PO X o t)(i:∀ σ H Q,t' σ H Q->t σ H Q): PO X o t':=fun pins s σ H Q I q=>h pins s σ H Q I (i σ H Q q)
theorem q1e:PO X none (tDO X.K oNo):=qfq qji fun σ H Q ⟨F0,H0,F, ρ,i,r,hf,q⟩=>by cases hf;exact q F H (.refl r.fh)
theorem q1f(h:PE X e (tD X.K f)): PO X (some e) (tDO X.K (oAt f)):=qfq (qjj h) fun σ H Q ⟨F0,H0,F, ρ,i,r,hf,q⟩=>by
 obtain⟨d,h1,h2⟩:=g9.mp hf;cases d <;> simp only at h2 <;> first|(cases h2;done)|skip
 cases h2;exact⟨F0,H0,F, ρ,_,r,h1,fun v F' H' g' r'=>⟨_,rep_int.mp r',q F' H' g'⟩⟩
def eSl(f:FE)(lo hi:FO): FE:=fun ρ =>(f ρ).bind fun d=>(lo ρ).bind fun l=>(hi ρ).bind fun h=>oSl d l h
theorem q1g{a:Expr}{lo hi:Option Expr}{fl fh:FO}{p2:Pos}(ha:PE X a (tD X.K f))(hl:PO X lo (tDO X.K fl))(hh:PO X hi (tDO X.K fh)): PE X (.Subscript a (.Slice lo hi none p2) pos) (tD X.K (eSl f fl fh)):=
 za (qha (sl_list.or (sl_tup.or qht)) ha hl hh) fun σ H Q ⟨F0,H0,F, ρ,d,r,hf,q⟩=>by
  obtain⟨x,h1,hf⟩:=g9.mp hf;obtain⟨l,h2,hf⟩:=g9.mp hf;obtain⟨u,h3,h4⟩:=g9.mp hf;refine⟨F0,H0,F, ρ,x,r,h1,fun v F1 H1 g1 r1=>⟨F0,H0,F1, ρ,l,r.grow g1,h2,fun F2 H2 g2=>⟨F0,H0,F2, ρ,u,(r.grow g1).grow g2,h3,fun F3 H3 g3=>?_⟩⟩⟩;have gg:=g1.trans (g2.trans g3);have r3:Rep X.K F3 x v:=r1.mono (g2.ff.trans g3.ff);cases x with
  | tup ds=>
   cases h4;obtain⟨p,xs,rfl,k1,k2⟩:=rep_tup.mp r3;have hlen:=k2.length
   by_cases wh:HT.sIx xs.length 0 l=0/\HT.sIx xs.length xs.length u=xs.length
   ·refine .inr (.inr ⟨p,xs,rfl,ql g3.fh k1,wh.1,wh.2,q _ F3 H3 gg ?_⟩)
    have e:cutD ds l u=ds:=by
     unfold cutD;rw [hlen,wh.1,wh.2,g27,Nat.sub_zero, <- hlen,List.take_length]
    rw [e];exact r3
   ·refine .inr (.inl ⟨p,xs,rfl,ql g3.fh k1,wh,fun p' hp=>?_⟩)
    have gn:Grow F3 H3 (upd F3 p' (.tup (q0n xs l u))) (upd H3 p' (.tup (q0n xs l u))):=Grow.new g3.fh hp;refine q _ _ _ (gg.trans gn) (rep_tup.mpr ⟨p',_,rfl,SqT.of qt,?_⟩);unfold cutD q0n;rw [hlen];exact((k2.mono gn.ff).drop _).take _
  | lst ds=>
   cases h4;obtain⟨p,xs,rfl,k1,k2⟩:=rep_lst.mp r3;have hlen:=k2.length;refine .inl ⟨p,xs,rfl,g3.fh.seq k1,fun p' hp=>?_⟩;have gn:Grow F3 H3 (upd F3 p' (.lst (q0n xs l u))) (upd H3 p' (.lst (q0n xs l u))):=Grow.new g3.fh hp;refine q _ _ _ (gg.trans gn) (rep_lst.mpr ⟨p',_,rfl,SqL.of qt,?_⟩);unfold cutD q0n;rw [hlen];exact((k2.mono gn.ff).drop _).take _
  | _=>cases h4
def q5n:D->D->Option D
 | .tup xs,.tup ys=>if xs.length+ys.length<=lim then some (.tup (xs++ys)) else none
 | .lst xs,.lst ys=>if xs.length+ys.length<=lim then some (.lst (xs++ys)) else none
 | _,_=>none
theorem qmh:OpR X (binaryOp .Add) (rD X.K q5n):=by
 intro pins s σ H x y v u Q I rx ry h;obtain⟨F,d1,d2,d,fh,r1,r2,ho,q⟩:=h;unfold q5n at ho
 split at ho
 ·rename_i ds es
  split at ho
  ·rename_i hl
   cases ho;obtain⟨a,xs,rfl,k1,k2⟩:=rep_tup.mp r1;obtain⟨b,ys,rfl,k3,k4⟩:=rep_tup.mp r2
   by_cases hd:ds=[]
   ·subst hd
    cases k2.nil_inv;cases rx;cases ry;obtain⟨i1,v1,⟨⟨c1,dd1,dt1,sl1⟩,o1,e1,n1,t1⟩,_⟩:=I.tuple (ql fh k1);obtain⟨i2,v2,⟨⟨c2,dd2,dt2,sl2⟩,o2,e2,n2,t2⟩,_⟩:=I.tuple (ql fh k3);simp only at e1 t1 e2 t2;subst e1 t1 e2 t2;cases v1;exact g2r ⟨_,o1,rfl⟩ ⟨_,o2,rfl⟩ g2s seq_tuple_add g1m g1e (g15 _ _)
     (tuple_addW0 a b #[] i2.toArray n1 n2 dd1 dd2 sl1 sl2 rfl) ⟨o1,o2,⟨.ref b,H,I,rfl,q _ F H (.refl fh) (by simpa using r2)⟩⟩
   ·refine qjk pins s σ H _ _ v u Q I rx ry ⟨a,b,xs,ys,rfl,rfl,ql fh k1,ql fh k3,fun z=>hd ?_,x9 (by rw [<- k2.length, <- k4.length];exact hl),fun z=>?_,fun z p hp=>?_⟩
    ·have:=k2.length;rw [z] at this;exact g23 this
    ·have e:es=[]:=by have:=k4.length;rw [z] at this;exact g23 this
     subst e;rw [uo] at q;exact q _ F H (.refl fh) r1
    ·have gn:Grow F H (upd F p (.tup (xs++ys))) (upd H p (.tup (xs++ys))):=Grow.new fh hp
     exact q _ _ _ gn (rep_tup.mpr ⟨p,_,rfl,SqT.of qt,(k2.mono gn.ff).append (k4.mono gn.ff)⟩)
  ·cases ho
 ·rename_i ds es
  split at ho
  ·rename_i hl
   cases ho;obtain⟨a,xs,rfl,k1,k2⟩:=rep_lst.mp r1;obtain⟨b,ys,rfl,k3,k4⟩:=rep_lst.mp r2;cases rx;cases ry;obtain⟨i1,v1,⟨⟨c1,dd1,dt1,sl1⟩,n1,o1,e1,g1,t1⟩,_⟩:=I.list (fh.seq k1);obtain⟨i2,v2,⟨⟨c2,dd2,dt2,sl2⟩,n2,o2,e2,g2,t2⟩,_⟩:=I.list (fh.seq k3);simp only at e1 t1 e2 t2;subst e1 t1 e2 t2;have hz:xs.length+ys.length<=sizeLine:=x9 (by rw [<- k2.length, <- k4.length];exact hl);refine g2r ⟨_,o1,rfl⟩ ⟨_,o2,rfl⟩ noFill_list_add seq_list_add PySem.F.slot_list_add PySem.F.entry_list_add (PySem.F.args_list_add_2 _ _)
    (list_addW a b i1.toArray i2.toArray n1 n2 dd1 dd2 sl1 sl2 (by rw [gf,gf, <- v1.length, <- v2.length];exact hz)) ⟨o1,o2,?_⟩
   have ea:i1.toArray++i2.toArray=(i1++i2).toArray:=by simp
   rw [ea];have gn:Grow F H (upd F s.heap.objs.size (.lst (xs++ys))) (upd H s.heap.objs.size (.lst (xs++ys))):=Grow.new fh I.fresh;exact⟨.ref _,_,I.lnew (t':=s.toks) (v1.append v2) (by rw [m8];exact hz),rfl,q _ _ _ gn (rep_lst.mpr ⟨_,_,rfl,SqL.of qt,(k2.mono gn.ff).append (k4.mono gn.ff)⟩)⟩
  ·cases ho
 ·cases ho
abbrev zm:D->D->Option D:=fun x y=>(oAdd x y).or (q5n x y)
theorem zf:OpR X (binaryOp .Add) (rD X.K zm):=q69 qm3 qmh
def flat(d:D): Bool:=(flD d).isSome
def eqF:D->D->Bool
 | .non,.non=>true
 | .bl a,.bl b=>a==b
 | .bl a,.int b=>(if a then 1 else 0)==b
 | .int a,.bl b=>a==(if b then 1 else 0)
 | .int a,.int b=>a==b
 | .str a,.str b=>a==b
 | _,_=>false
def inF(d:D)(ds:List D): Bool:=ds.any fun e=>eqF e d
theorem q9c{K:Frag}{H:Hp}{d e:D}{x y:V}(h1:flat d=true)(h2:flat e=true)(r1:Rep K H d x)(r2:Rep K H e y): eqV x y=eqF d e/\ku x=true/\ku y=true:=by
 cases d <;> first|(cases h1;done)|skip
 all_goals (cases e <;> first|(cases h2;done)|skip)
 all_goals (first|(cases rep_non.mp r1)|(cases rep_bl.mp r1)|(cases rep_int.mp r1)|(cases rep_str.mp r1))
 all_goals (first|(cases rep_non.mp r2)|(cases rep_bl.mp r2)|(cases rep_int.mp r2)|(cases rep_str.mp r2))
 all_goals exact⟨rfl,rfl,rfl⟩
theorem qdv{K:Frag}{H:Hp}{d:D}{x:V}(h1:flat d=true)(r1:Rep K H d x): ∀ {ds:List D} {xs:List V},ds.all flat=true->RepL K H ds xs->inV x xs=inF d ds/\ku x=true/\xs.all ku=true
 | [],xs,_,r=>by cases r.nil_inv;exact⟨rfl,(q9c h1 h1 r1 r1).2.1,rfl⟩
 | e :: ds,xs,h2,r=>by
  obtain⟨y,ys,rfl,k1,k2⟩:=r.cons_inv;rw [g1n,m6] at h2;obtain⟨z1,z2,z3⟩:=qdv h1 r1 h2.2 k2;obtain⟨w1,w2,w3⟩:=q9c h2.1 h1 k1 r1;refine⟨?_,z2,?_⟩
  ·show(eqV y x || inV x ys)=(eqF e d || inF d ds)
   rw [w1,z1]
  ·rw [g1n,w2,z3];rfl
def oIn(neg:Bool): D->D->Option D
 | d,.tup ds=>if flat d&&ds.all flat then some (.bl (if neg then !inF d ds else inF d ds)) else none
 | d,.lst ds=>if flat d&&ds.all flat then some (.bl (if neg then !inF d ds else inF d ds)) else none
 | _,_=>none
theorem qod{K:Frag}{neg:Bool}{x y:V}{H:Hp}{Q:VK}(h:rD K (oIn neg) x y H Q): rIn K neg x y H Q:=by
 obtain⟨F,d1,d2,d,fh,r1,r2,ho,q⟩:=h;cases d2 <;> simp only [oIn] at ho <;> first|(cases ho;done)|skip
 ·split at ho
  ·rename_i hc
   cases ho;rw [m6] at hc;obtain⟨p,xs,rfl,k1,k2⟩:=rep_tup.mp r2;obtain⟨z1,z2,z3⟩:=qdv hc.1 r1 hc.2 k2;exact⟨p,xs,rfl,.inr (ql fh k1),z2,z3,by rw [z1];exact q _ F H (.refl fh) (rep_bl.mpr rfl)⟩
  ·cases ho
 ·split at ho
  ·rename_i hc
   cases ho;rw [m6] at hc;obtain⟨p,xs,rfl,k1,k2⟩:=rep_lst.mp r2;obtain⟨z1,z2,z3⟩:=qdv hc.1 r1 hc.2 k2;exact⟨p,xs,rfl,.inl (fh.seq k1),z2,z3,by rw [z1];exact q _ F H (.refl fh) (rep_bl.mpr rfl)⟩
  ·cases ho
theorem qa1:OpR X (compareOp .NotIn) (rD X.K (oIn true)):=q14 q9p fun x y H Q h=>qod h
end
mutual
def eqD:D->D->Bool
 | .tup ds,.tup es=>eqL ds es
 | .lst ds,.lst es=>eqL ds es
 | d,e=>eqF d e
def eqL:List D->List D->Bool
 | [],[]=>true
 | d :: ds,e :: es=>eqD d e&&eqL ds es
 | _,_=>false
end
mutual
def okE:D->D->Bool
 | .tup ds,.tup es=>vx ds es
 | .lst ds,.lst es=>vx ds es
 | d,e=>flat d&&flat e
def vx:List D->List D->Bool
 | d :: ds,e :: es=>okE d e&&vx ds es
 | _,_=>true
end
mutual
def q5o:D->Nat
 | .tup ds=>yl ds+1
 | .lst ds=>yl ds+1
 | _=>0
def yl:List D->Nat
 | []=>0
 | d :: ds=>max (q5o d) (yl ds)
end
def eqJ(ds es:List D)(j:Nat): Bool:=match ds[j]?,es[j]? with
 | some d,some e=>eqD d e
 | _,_=>true
theorem vp:∀(ds es:List D),((List.range (min ds.length es.length)).all (eqJ ds es)&&ds.length==es.length)=eqL ds es
 | [],[]=>by simp [eqL]
 | [],e :: es=>by simp [eqL]
 | d :: ds,[]=>by simp [eqL]
 | d :: ds,e :: es=>by
  have ih:=vp ds es;have e1:min (d :: ds).length (e :: es).length=min ds.length es.length+1:=by simp only [ml];lia
  rw [e1,g0f,g1n,g3m];have e2:(eqJ (d :: ds) (e :: es) ∘ Nat.succ)=eqJ ds es:=by funext j;simp [eqJ]
  have e3:eqJ (d :: ds) (e :: es) 0=eqD d e:=by simp [eqJ]
  have e4:((d :: ds).length==(e :: es).length)=(ds.length==es.length):=by simp
  rw [e2,e3,e4,Bool.and_assoc,ih];simp only [eqL]
theorem qa2{d e:D}(h1:flat d=true)(h2:flat e=true): eqD d e=eqF d e:=by
 cases d <;> first|(cases h1;done)|skip
 all_goals (cases e <;> first|(cases h2;done)|skip)
 all_goals simp only [eqD]
section
variable{X:Cx}{pins:List (Addr×Obj)}{σ : St}{F H:Hp}{s:Shared}
theorem qfr{A:Around}{d e:D}{x y:V}{u v:Value}(h1:flat d=true)(h2:flat e=true)(r1:Rep X.K F d x)(r2:Rep X.K F e y)(q1:RelV x u)(q2:RelV y v): SeqAt.EqAt A s u v (eqD d e):=by
 obtain⟨z1,z2,z3⟩:=q9c h1 h2 r1 r2;rw [qa2 h1 h2, <- z1];exact qfc q1 q2 z2 z3
theorem qa3{d e:D}(h:okE d e=true): (∃ds es,d=.tup ds/\e=.tup es/\vx ds es=true)\/(∃ds es,d=.lst ds/\e=.lst es/\vx ds es=true)\/(flat d=true/\flat e=true):=by
 cases d <;> cases e <;> simp only [okE,m6] at h <;> first
  | exact .inl ⟨_,_,rfl,rfl,h⟩
  | exact .inr (.inl ⟨_,_,rfl,rfl,h⟩)
  | exact .inr (.inr h)
theorem qcw(I:Inv X pins σ H s)(fh:Same F H): ∀ {d e:D} {x:V},okE d e=true->Rep X.K F d x->Rep X.K F e x->eqD d e=true:=by
 suffices hh:∀n,(∀d e x,sizeOf d<n->okE d e=true->Rep X.K F d x->Rep X.K F e x->eqD d e=true) from fun {d e x}=>hh (sizeOf d+1) d e x (t9 _)
 intro n
 induction n with
 | zero=>intro d e x h;exact absurd h (tq _)
 | succ n ih=>
  intro d e x hn ok r1 r2;have seq:∀(ds es:List D) (xs:List V),sizeOf ds<n->vx ds es=true->RepL X.K F ds xs->RepL X.K F es xs->eqL ds es=true:=by
   intro ds
   induction ds with
   | nil=>
    intro es xs _ _ k1 k2;cases k1.nil_inv;cases es with
    | nil=>simp only [eqL]
    | cons e es=>obtain⟨_,_,z,_⟩:=k2.cons_inv;cases z
   | cons d ds ihd=>
    intro es xs hs ho k1 k2;obtain⟨x,r,rfl,a1,a2⟩:=k1.cons_inv;cases es with
    | nil=>cases k2.nil_inv
    | cons e es=>
     obtain⟨x',r',z,b1,b2⟩:=k2.cons_inv;cases z;simp only [vx,m6] at ho;have hs1:sizeOf d<n:=by simp only [g0l] at hs;lia
     have hs2:sizeOf ds<n:=by simp only [g0l] at hs;lia
     simp only [eqL,m6];exact⟨ih d e x hs1 ho.1 a1 b1,ihd es r hs2 ho.2 a2 b2⟩
  rcases qa3 ok with⟨ds,es,rfl,rfl,ho⟩|⟨ds,es,rfl,rfl,ho⟩|⟨h1,h2⟩
  ·obtain⟨a,xs,rfl,k1,k2⟩:=rep_tup.mp r1
   obtain⟨b,ys,z,k3,k4⟩:=rep_tup.mp r2;cases z;cases I.tuple_inj (ql fh k1) (ql fh k3);simp only [eqD];exact seq ds es xs (by simp only [D.tup.sizeOf_spec] at hn;lia) ho k2 k4
  ·obtain⟨a,xs,rfl,k1,k2⟩:=rep_lst.mp r1
   obtain⟨b,ys,z,k3,k4⟩:=rep_lst.mp r2;cases z;cases I.list_inj (fh.seq k1) (fh.seq k3);simp only [eqD];exact seq ds es xs (by simp only [D.lst.sizeOf_spec] at hn;lia) ho k2 k4
  ·obtain⟨z1,_⟩:=q9c h1 h2 r1 r2
   rw [qa2 h1 h2, <- z1];cases d <;> first|(cases h1;done)|skip
   ·cases rep_non.mp r1;rfl
   ·cases rep_bl.mp r1;simp [eqV]
   ·cases rep_int.mp r1;simp [eqV]
   ·cases rep_str.mp r1;simp [eqV]
theorem qfs (I:Inv X pins σ H s) (fh:Same F H):∀ {d e:D} {x y:V} {u v:Value} (A:Around),okE d e=true->A.units+q5o d<cLine->Rep X.K F d x->Rep X.K F e y->RelV x u->RelV y v->SeqAt.EqAt A s u v (eqD d e):=by
 suffices hh:∀n,(∀d e x y u v (A:Around),sizeOf d<n->okE d e=true->A.units+q5o d<cLine->Rep X.K F d x->Rep X.K F e y->RelV x u->RelV y v->SeqAt.EqAt A s u v (eqD d e)) from
  fun {d e x y u v} A=>hh (sizeOf d+1) d e x y u v A (t9 _)
 intro n
 induction n with
 | zero=>intro d e x y u v A h;exact absurd h (tq _)
 | succ n ih=>
  intro d e x y u v A hn ok hu r1 r2 q1 q2;have seq:∀(ds es:List D) (xs ys:List V) (us vs:List Value) (A:Around),sizeOf ds<n->vx ds es=true->A.units+yl ds<cLine->RepL X.K F ds xs->RepL X.K F es ys->Vals xs us->Vals ys vs ->
    ∀j (h1:j<us.length) (h2:j<vs.length),SeqAt.EqAt A s us[j] vs[j] (eqJ ds es j):=by
   intro ds
   induction ds with
   | nil=>
    intro es xs ys us vs A _ _ _ k1 _ w1 _ j h1;cases k1.nil_inv;cases w1;exact absurd h1 (tq _)
   | cons d ds ihd=>
    intro es xs ys us vs A hs ho hu k1 k2 w1 w2 j h1 h2;obtain⟨x,r,rfl,a1,a2⟩:=k1.cons_inv;cases w1 with
    | cons p1 p2=>
     cases es with
     | nil=>cases k2.nil_inv;cases w2;exact absurd h2 (tq _)
     | cons e es=>
      obtain⟨y,r',rfl,b1,b2⟩:=k2.cons_inv;cases w2 with
      | cons p3 p4=>
       simp only [vx,m6] at ho;have hs1:sizeOf d<n:=by simp only [g0l] at hs;lia
       have hs2:sizeOf ds<n:=by simp only [g0l] at hs;lia
       simp only [yl] at hu;cases j with
       | zero=>
        have e0:eqJ (d :: ds) (e :: es) 0=eqD d e:=by simp [eqJ]
        rw [e0];exact ih d e x y _ _ A hs1 ho.1 (by lia) a1 b1 p1 p3
       | succ j=>
        have e0:eqJ (d :: ds) (e :: es) (j+1)=eqJ ds es j:=by simp [eqJ]
        rw [e0];exact ihd es r r' _ _ A hs2 ho.2 (by lia) a2 b2 p2 p4 j (by simpa using h1) (by simpa using h2)
  rcases qa3 ok with⟨ds,es,rfl,rfl,ho⟩|⟨ds,es,rfl,rfl,ho⟩|⟨h1,h2⟩
  ·have rr:=qcw I fh ok r1
   obtain⟨a,xs,rfl,k1,k2⟩:=rep_tup.mp r1;obtain⟨b,ys,rfl,k3,k4⟩:=rep_tup.mp r2;cases q1;cases q2
   by_cases hab:a=b
   ·subst hab
    rw [rr r2];exact g33 _
   ·obtain⟨i1,v1,t1,_⟩:=I.tuple (ql fh k1)
    obtain⟨i2,v2,t2,_⟩:=I.tuple (ql fh k3);simp only [q5o] at hu;refine SeqAt.EqAt.of_refs hab ?_;have hq:=seq ds es xs ys i1 i2 A.in1 (by simp only [D.tup.sizeOf_spec] at hn;lia) ho (by show A.units+1+yl ds<cLine;lia) k2 k4 v1 v2;have:=SeqAt.RcAt.tuples (A:=A) (e:=eqJ ds es) (show s.heap.IsTuple a i1.toArray from t1) (show s.heap.IsTuple b i2.toArray from t2) (by lia) (fun j h1 h2=>by simpa using hq j (by simpa using h1) (by simpa using h2));simp only [gf, <- v1.length, <- v2.length, <- k2.length, <- k4.length,vp] at this
    simpa only [eqD] using this
  ·have rr:=qcw I fh ok r1
   obtain⟨a,xs,rfl,k1,k2⟩:=rep_lst.mp r1;obtain⟨b,ys,rfl,k3,k4⟩:=rep_lst.mp r2;cases q1;cases q2
   by_cases hab:a=b
   ·subst hab
    rw [rr r2];exact g33 _
   ·obtain⟨i1,v1,t1,_⟩:=I.list (fh.seq k1)
    obtain⟨i2,v2,t2,_⟩:=I.list (fh.seq k3);simp only [q5o] at hu;refine SeqAt.EqAt.of_refs hab ?_;have hq:=seq ds es xs ys i1 i2 A.in1 (by simp only [D.lst.sizeOf_spec] at hn;lia) ho (by show A.units+1+yl ds<cLine;lia) k2 k4 v1 v2;have hl1:i1.length=ds.length:=by rw [<- v1.length, <- k2.length]
    have hl2:i2.length=es.length:=by rw [<- v2.length, <- k4.length]
    simp only [eqD]
    by_cases hl:ds.length=es.length
    ·have:=SeqAt.RcAt.lists (A:=A) (e:=eqJ ds es) t1.isList t2.isList (by rw [gf,gf,hl1,hl2];exact hl) (by lia) (fun j h1 h2=>by simpa using hq j (by simpa using h1) (by simpa using h2))
     have e1:(List.range i1.toArray.size).all (eqJ ds es)=eqL ds es:=by
      rw [<- vp,gf,hl1, <- hl,Nat.min_self];simp
     rw [e1] at this;exact this
    ·have e1:eqL ds es=false:=by rw [<- vp];simp [hl]
     rw [e1];exact SeqAt.RcAt.lists_lengths t1.isList t2.isList (by rw [gf,gf,hl1,hl2];simpa using hl) (by lia)
  ·exact qfr h1 h2 r1 r2 q1 q2
def qhu:D->D->Option D
 | .tup ds,.tup es=>if vx ds es&&decide (yl ds<=60) then some (.bl (eqL ds es)) else none
 | .lst ds,.lst es=>if vx ds es&&decide (yl ds<=60) then some (.bl (eqL ds es)) else none
 | _,_=>none
theorem qmi(hu:X.A.units+64<cLine): OpR X (compareOp .Eq) (rD X.K qhu):=by
 intro pins s σ H x y v u Q I rx ry h;obtain⟨F,d1,d2,d,fh,r1,r2,ho,q⟩:=h;have part:∀ {ds es:List D} {xs ys:List V} {us vs:List Value},vx ds es=true->yl ds<=60->RepL X.K F ds xs->RepL X.K F es ys->Vals xs us->Vals ys vs ->
   ∀j (h1:j<us.length) (h2:j<vs.length),SeqAt.EqAt X.A.in1 s us[j] vs[j] (eqJ ds es j):=by
  intro ds
  induction ds with
  | nil=>
   intro es xs ys us vs _ _ k1 _ w1 _ j h1;cases k1.nil_inv;cases w1;exact absurd h1 (tq _)
  | cons d ds ihd=>
   intro es xs ys us vs ho hd k1 k2 w1 w2 j h1 h2;obtain⟨x,r,rfl,a1,a2⟩:=k1.cons_inv;cases w1 with
   | cons p1 p2=>
    cases es with
    | nil=>cases k2.nil_inv;cases w2;exact absurd h2 (tq _)
    | cons e es=>
     obtain⟨y,r',rfl,b1,b2⟩:=k2.cons_inv;cases w2 with
     | cons p3 p4=>
      simp only [vx,m6] at ho;simp only [yl] at hd;cases j with
      | zero=>
       have e0:eqJ (d :: ds) (e :: es) 0=eqD d e:=by simp [eqJ]
       rw [e0];exact qfs I fh _ ho.1 (by show X.A.units+1+q5o d<cLine;lia) a1 b1 p1 p3
      | succ j=>
       have e0:eqJ (d :: ds) (e :: es) (j+1)=eqJ ds es j:=by simp [eqJ]
       rw [e0];exact ihd ho.2 (by lia) a2 b2 p2 p4 j (by simpa using h1) (by simpa using h2)
 unfold qhu at ho
 split at ho
 ·rename_i ds es
  split at ho
  ·rename_i hc
   cases ho;rw [m6] at hc;obtain⟨a,xs,rfl,k1,k2⟩:=rep_tup.mp r1;obtain⟨b,ys,rfl,k3,k4⟩:=rep_tup.mp r2;cases rx;cases ry;obtain⟨i1,v1,t1,_⟩:=I.tuple (ql fh k1);obtain⟨i2,v2,t2,_⟩:=I.tuple (ql fh k3);have hq:=part hc.1 (uz hc.2) k2 k4 v1 v2;refine SeqAt.eq_tupleAt (e:=eqJ ds es) (show s.heap.IsTuple a i1.toArray from t1) (show s.heap.IsTuple b i2.toArray from t2) (by lia) (fun j h1 h2=>by simpa using hq j (by simpa using h1) (by simpa using h2)) ?_;simp only [gf, <- v1.length, <- v2.length, <- k2.length, <- k4.length,vp];exact⟨.bl _,H,I,rfl,q _ F H (.refl fh) (rep_bl.mpr rfl)⟩
  ·cases ho
 ·rename_i ds es
  split at ho
  ·rename_i hc
   cases ho;rw [m6] at hc;obtain⟨a,xs,rfl,k1,k2⟩:=rep_lst.mp r1;obtain⟨b,ys,rfl,k3,k4⟩:=rep_lst.mp r2;cases rx;cases ry;obtain⟨i1,v1,t1,_⟩:=I.list (fh.seq k1);obtain⟨i2,v2,t2,_⟩:=I.list (fh.seq k3);have hq:=part hc.1 (uz hc.2) k2 k4 v1 v2;have hl1:i1.length=ds.length:=by rw [<- v1.length, <- k2.length]
   have hl2:i2.length=es.length:=by rw [<- v2.length, <- k4.length]
   by_cases hl:ds.length=es.length
   ·refine SeqAt.eq_listAt (e:=eqJ ds es) t1.isList t2.isList (by rw [gf,gf,hl1,hl2];exact hl) (by lia) (fun j h1 h2=>by simpa using hq j (by simpa using h1) (by simpa using h2)) ?_
    have e1:(List.range i1.toArray.size).all (eqJ ds es)=eqL ds es:=by
     rw [<- vp,gf,hl1, <- hl,Nat.min_self];simp
    rw [e1];exact⟨.bl _,H,I,rfl,q _ F H (.refl fh) (rep_bl.mpr rfl)⟩
   ·have e1:eqL ds es=false:=by rw [<- vp];simp [hl]
    rw [e1] at q;exact SeqAt.eq_list_lengthsAt t1.isList t2.isList (by rw [gf,gf,hl1,hl2];simpa using hl) (by lia) ⟨.bl _,H,I,rfl,q _ F H (.refl fh) (rep_bl.mpr rfl)⟩
  ·cases ho
 ·cases ho
abbrev oEq:D->D->Option D:=fun x y=>(qho x y).or (qhu x y)
theorem q6j(hu:X.A.units+64<cLine): OpR X (compareOp .Eq) (rD X.K oEq):=q69 qm6 (qmi hu)
end
def itN:Bool->String
 | true=>"list_iterator"
 | false=>"tuple_iterator"
def sqN:Bool->String
 | true=>"list"
 | false=>"tuple"
def SI(b:Bool)(h:Heap)(it l:Addr)(k:Nat): Prop:=∃o,h.get? it=some o/\o.cls=.type (itN b)/\o.data=.fields #[.ref l,.int k 0]
def SO(b:Bool)(h:Heap)(l:Addr)(xs:Array Value): Prop:=∃o,h.get? l=some o/\o.cls=.type (sqN b)/\∃n,o.data=.seq xs n
theorem SI.ext{b:Bool}{h h':Heap}{it l c:Addr}{k:Nat}(x:SI b h it l k)(e:Heap.ExtBut c h h')(n:it≠c): SI b h' it l k:=let⟨o,ho,r⟩:=x; ⟨o,e it o n ho,r⟩
theorem SO.ext{b:Bool}{h h':Heap}{l c:Addr}{xs:Array Value}(x:SO b h l xs)(e:Heap.ExtBut c h h')(n:l≠c): SO b h' l xs:=let⟨o,ho,r⟩:=x; ⟨o,e l o n ho,r⟩
theorem SI.keep{b:Bool}{h h':Heap}{it l:Addr}{k:Nat}(x:SI b h it l k)(e:∀o,h.get? it=some o->h'.get? it=some o): SI b h' it l k:=let⟨o,ho,r⟩:=x; ⟨o,e o ho,r⟩
section
variable{prog:Program}{w:World}{A:Around}{E:Value->Shared->Prop}{s:Shared}
theorem q4y{b:Bool}{it l:Addr}{k:Nat}{xs:Array Value}{x:Value}{Q:Value->Shared->Prop}(hi:SI b s.heap it l k)(ho:SO b s.heap l xs)(hx:xs[k]? = some x)
  (h:∀h',SI b h' it l (k+1)->Heap.SameBut it s.heap h'->Q x {s with heap:=h'}):wpAny (model prog w) A (Builtin.SmallTypes.nextOf (.ref it)) Q E s:=by
 cases b with
 | true=>exact wpAny_nextOf_list_item hi ho hx h
 | false=>
  obtain⟨o,e1,e2,e3⟩:=id hi;obtain⟨o2,f1,f2,n,f3⟩:=id ho;have ty:s.TypeIs (.ref it) "tuple_iterator" :=⟨o,e1,e2⟩
  unfold Builtin.SmallTypes.nextOf;refine g0 (mx (name:=Str.ofString "__next__") ty uw (mm uw ty g2e ?_ (g28 _)));show wpAny _ _ (field (.ref it) 0 >>= _) _ _ s;refine g0 (mw e1 e3 (x:=.ref l) rfl ?_);show wpAny _ _ (if(Value.ref l==Value.none)=true then _ else _) _ _ s;rw [m4 (fun z:(Value.ref l==Value.none)=true=>gj z)];show wpAny _ _ (field (.ref it) 1 >>= _) _ _ s;refine g0 (mw e1 e3 (x:=.int k 0) rfl ?_);show wpAny _ _ (seqItems? (.ref l) >>= _) _ _ s;refine g0 (td f1 f3 ?_);simp only [uy,hx];refine g0 (g1c e1 e3 (by simp) (gb ⟨x,rfl,gb (h _ ⟨_,uq _ e1 (Obj.isFreed_of_fields (g17 e3 _)),(Obj.cls_mapFields ..).trans e2,?_⟩ (nr ..))⟩));rw [g17 e3];simp [rawInt]
theorem q7l{b:Bool}{it l:Addr}{k:Nat}{xs:Array Value}{Q:Value->Shared->Prop}(hh:A.handled=none)(hi:SI b s.heap it l k)(ho:SO b s.heap l xs)(hx:xs[k]? = none)
  (h:∀h' e,Heap.ExtBut it s.heap h'->(∃o,h'.get? e=some o/\o.cls=.type "StopIteration")->E (.ref e) {s with heap:=h'}):wpAny (model prog w) A (Builtin.SmallTypes.nextOf (.ref it)) Q E s:=by
 cases b with
 | true=>exact wpAny_nextOf_list_end hh hi ho hx h
 | false=>
  obtain⟨o,e1,e2,e3⟩:=id hi;obtain⟨o2,f1,f2,n,f3⟩:=id ho;have ty:s.TypeIs (.ref it) "tuple_iterator" :=⟨o,e1,e2⟩
  unfold Builtin.SmallTypes.nextOf;refine g0 (mx (name:=Str.ofString "__next__") ty uw (mm uw ty g2e ?_ (g28 _)));show wpAny _ _ (field (.ref it) 0 >>= _) _ _ s;refine g0 (mw e1 e3 (x:=.ref l) rfl ?_);show wpAny _ _ (if(Value.ref l==Value.none)=true then _ else _) _ _ s;rw [m4 (fun z:(Value.ref l==Value.none)=true=>gj z)];show wpAny _ _ (field (.ref it) 1 >>= _) _ _ s;refine g0 (mw e1 e3 (x:=.int k 0) rfl ?_);show wpAny _ _ (seqItems? (.ref l) >>= _) _ _ s;refine g0 (td f1 f3 ?_);simp only [uy,hx];refine g0 (ud (g0 (g1c e1 e3 (by simp) ?_)));show wpAny _ _ (newExc (.type "StopIteration") [] >>= _) _ _ _;refine g0 ?_;simp only [newExc,newTuple];refine g0 (nt (g0 (m:=firstArgMember _ _) (wpAny_of_eq (a:=Value.none) (by first|rfl|(simp only [firstArgMember];rfl)) (nt ?_ (by size_fits)))) (by size_fits));simp only [raiseNew];refine g0 (wpAny_handled ?_)
  first|rw [show A.in1.handled=none from hh]|rw [hh]
  exact g0 (gb (wpAny_throw (h _ _ (((nr ..).extBut.push _).push _) ⟨_,gi _ rfl,rfl⟩)))
structure Z5(z ti to i1 i2:Addr): Prop where
 a1:ti≠z
 a2:to≠z
 a3:i1≠z
 a4:i2≠z
 a5:ti≠to
 a6:ti≠i1
 a7:ti≠i2
 a8:to≠i1
 a9:to≠i2
 a10:i1≠i2
structure Off(l z to i1 i2:Addr): Prop where
 z:l≠z
 o:l≠to
 i:l≠i1
 j:l≠i2
theorem qft{b1 b2:Bool}{z ti to i1 i2 l1 l2:Addr}{k1 k2:Nat}{xs ys:Array Value}{x y p q:Value}{Q:Value->Shared->Prop}(D:Z5 z ti to i1 i2)(m1:Off l1 z to i1 i2)(m2:Off l2 z to i1 i2)
  (hz:IsZip s.heap z ti to .none) (ht:IsPair s.heap ti (.ref i1) (.ref i2)) (hp:IsPair s.heap to p q)
  (h1:SI b1 s.heap i1 l1 k1) (h2:SI b2 s.heap i2 l2 k2) (o1:SO b1 s.heap l1 xs) (o2:SO b2 s.heap l2 ys) (hx:xs[k1]? = some x) (hy:ys[k2]? = some y)
  (hQ:∀h',IsZip h' z ti to (rawInt s.heap.objs.size)->IsPair h' to x y->SI b1 h' i1 l1 (k1+1)->SI b2 h' i2 l2 (k2+1)->IsPair h' s.heap.objs.size x y->h'.objs.size=s.heap.objs.size+1 ->
   (∀c o,c≠z->c≠to->c≠i1->c≠i2->s.heap.get? c=some o->h'.get? c=some o)->Q (.ref s.heap.objs.size) {s with heap:=h'}) :
  wpAny (model prog w) A (Builtin.«zip.__next__» ⟨[.ref z],[]⟩) (fun fin s'=>∃v,fin=.done (.ret v)/\Q v s') E s:=by
 show wpAny _ _ (field (.ref z) 2 >>= _) _ _ _;refine g0 (mw hz rfl (x:=.bool false) rfl ?_);show wpAny _ _ (field (.ref z) 3 >>= _) _ _ _;refine g0 (mw hz rfl (x:=.ref ti) rfl (g0 (td ht rfl ?_)));show wpAny _ _ (Builtin.SmallTypes.ownedTupleIsFree (.ref z) >>= _) _ _ _;refine g0 ?_;unfold Builtin.SmallTypes.ownedTupleIsFree;refine g0 (mw hz rfl (x:=.none) rfl (gb ?_));simp only [pb];refine g0 (ud (g0 (mw hz rfl (x:=.ref to) rfl (g0 (nj hz (by simp) fun g1 hz1 u1=>?_)))));have hz1':IsZip g1 z ti to .ellipsis:=hz1;refine g0 ?_;simp only [List.zipIdx_cons,List.zipIdx_nil,g09,g29];refine g0 (g0 (g2i ?_));show wpAny _ _ (Builtin.SmallTypes.nextOf (.ref i1) >>= _) _ _ _;refine g0 (q4y (h1.ext u1.extBut D.a3) (o1.ext u1.extBut m1.z) hx fun g2 n1 u2=>gb ?_);have hp2:IsPair g2 to p q:=u2.extBut _ _ D.a8 (u1.extBut _ _ D.a2 hp);refine g0 (td hp2 rfl (g0 (g1x hp2 fun g3 hp3 u3=>?_)));have hp3':IsPair g3 to x q:=hp3;refine g0 (g38 (gb (g0 (g0 (g2i ?_)))));show wpAny _ _ (Builtin.SmallTypes.nextOf (.ref i2) >>= _) _ _ _;refine g0 (q4y (((h2.ext u1.extBut D.a4).ext u2.extBut D.a10.symm).ext u3.extBut D.a9.symm) (((o2.ext u1.extBut m2.z).ext u2.extBut m2.i).ext u3.extBut m2.o) hy fun g4 n2 u4=>gb ?_);have hp4:IsPair g4 to x q:=u4.extBut _ _ D.a9 hp3';refine g0 (td hp4 rfl (g0 (g1x hp4 fun g5 hp5 u5=>?_)));have hp5':IsPair g5 to x y:=hp5;refine g0 (g38 (gb (gb (g0 (td hp5' rfl (g0 (wpAny_newTuple ?_)))))));have hsz:g5.objs.size=s.heap.objs.size:=by rw [u5.1,u4.1,u3.1,u2.1,u1.1]
 have hz5:IsZip g5 z ti to .ellipsis:=u5.extBut _ _ D.a2.symm (u4.extBut _ _ D.a4.symm (u3.extBut _ _ D.a2.symm (u2.extBut _ _ D.a3.symm hz1')));have kp:∀c o,c≠z->c≠to->c≠i1->c≠i2->s.heap.get? c=some o->g5.get? c=some o:=fun c o c1 c2 c3 c4 e=>u5.extBut _ _ c2 (u4.extBut _ _ c4 (u3.extBut _ _ c2 (u2.extBut _ _ c3 (u1.extBut _ _ c1 e))));have j1:SI b1 g5 i1 l1 (k1+1):=((n1.ext u3.extBut D.a8.symm).ext u4.extBut D.a10).ext u5.extBut D.a8.symm;have j2:SI b2 g5 i2 l2 (k2+1):=n2.ext u5.extBut D.a9.symm;have hzl:z<g5.objs.size:=gh hz5;show wpAny _ _ (Builtin.SmallTypes.ownedTupleHandOut (.ref z) (.ref g5.objs.size) >>= _) _ _ _;refine g0 ?_;unfold Builtin.SmallTypes.ownedTupleHandOut;have hz6:IsZip (g5.push {cls:=.type "tuple",data:=.seq #[x,y]}) z ti to .ellipsis:=gc _ hz5;refine g0 (nj hz6 (by simp) fun g7 hz7 u7=>?_);have hz7':IsZip g7 z ti to (rawInt g5.objs.size):=hz7;refine nj hz7' (by simp) fun g8 hz8 u8=>?_;have hz8':IsZip g8 z ti to (rawInt g5.objs.size):=hz8;have up:∀c o,c≠z->g5.get? c=some o->g8.get? c=some o:=fun c o c1 e=>u8.extBut _ _ c1 (u7.extBut _ _ c1 (gc _ e));have hT:IsPair g8 g5.objs.size x y:=u8.extBut _ _ (nk hzl) (u7.extBut _ _ (nk hzl) (gi _ rfl));have hl8:g8.objs.size=g5.objs.size+1:=by rw [u8.1,u7.1,nc]
 rw [hsz] at hz8' hT hl8;refine gb ⟨_,rfl,?_⟩;show Q (.ref g5.objs.size) _;rw [hsz];exact hQ g8 hz8' (up _ _ D.a2 hp5') (j1.keep fun o e=>up _ o D.a3 e) (j2.keep fun o e=>up _ o D.a4 e) hT hl8 fun c o c1 c2 c3 c4 e=>up c o c1 (kp c o c1 c2 c3 c4 e)
theorem qhv{b1 b2:Bool}{z ti to i1 i2 l1 l2:Addr}{k1 k2:Nat}{xs ys:Array Value}{p q:Value}{Q:Fin->Shared->Prop}(hh:A.handled=none)(D:Z5 z ti to i1 i2)(m1:Off l1 z to i1 i2)(m2:Off l2 z to i1 i2)
  (hz:IsZip s.heap z ti to .none) (ht:IsPair s.heap ti (.ref i1) (.ref i2)) (hp:IsPair s.heap to p q)
  (h1:SI b1 s.heap i1 l1 k1) (h2:SI b2 s.heap i2 l2 k2) (o1:SO b1 s.heap l1 xs) (o2:SO b2 s.heap l2 ys) (hend:xs[k1]? = none\/ys[k2]? = none)
  (hE:∀h' e,(∀c o,c≠z->c≠to->c≠i1->c≠i2->s.heap.get? c=some o->h'.get? c=some o)->(∃o,h'.get? e=some o/\o.cls=.type "StopIteration")->E (.ref e) {s with heap:=h'}) :
  wpAny (model prog w) A (Builtin.«zip.__next__» ⟨[.ref z],[]⟩) Q E s:=by
 show wpAny _ _ (field (.ref z) 2 >>= _) _ _ _;refine g0 (mw hz rfl (x:=.bool false) rfl ?_);show wpAny _ _ (field (.ref z) 3 >>= _) _ _ _;refine g0 (mw hz rfl (x:=.ref ti) rfl (g0 (td ht rfl ?_)));show wpAny _ _ (Builtin.SmallTypes.ownedTupleIsFree (.ref z) >>= _) _ _ _;refine g0 ?_;unfold Builtin.SmallTypes.ownedTupleIsFree;refine g0 (mw hz rfl (x:=.none) rfl (gb ?_));simp only [pb];refine g0 (ud (g0 (mw hz rfl (x:=.ref to) rfl (g0 (nj hz (by simp) fun g1 hz1 u1=>?_)))));have hz1':IsZip g1 z ti to .ellipsis:=hz1;refine g0 ?_;simp only [List.zipIdx_cons,List.zipIdx_nil,g09,g29];refine g0 (g0 (g2i ?_));show wpAny _ _ (Builtin.SmallTypes.nextOf (.ref i1) >>= _) _ _ _;cases hx:xs[k1]? with
 | none=>
  refine g0 (q7l hh (h1.ext u1.extBut D.a3) (o1.ext u1.extBut m1.z) hx fun g2 e u2 he=>?_);obtain⟨oe,y1,y2⟩:=he;have hz2:IsZip g2 z ti to .ellipsis:=u2 _ _ D.a3.symm hz1';have ne:e≠z:=fun x=>by subst x;rw [hz2] at y1;cases y1;simp at y2
  exact nj hz2 (by simp) fun g3 _ u3=>hE g3 e (fun c o c1 _ c3 _ x=>u3.extBut _ _ c1 (u2 _ _ c3 (u1.extBut _ _ c1 x))) ⟨oe,u3.extBut _ _ ne y1,y2⟩
 | some x=>
  have hy:ys[k2]? = none:=by rcases hend with h|h;rw [hx] at h;cases h;exact h
  refine g0 (q4y (h1.ext u1.extBut D.a3) (o1.ext u1.extBut m1.z) hx fun g2 n1 u2=>gb ?_);have hp2:IsPair g2 to p q:=u2.extBut _ _ D.a8 (u1.extBut _ _ D.a2 hp);refine g0 (td hp2 rfl (g0 (g1x hp2 fun g3 hp3 u3=>?_)));refine g0 (g38 (gb (g0 (g0 (g2i ?_)))));show wpAny _ _ (Builtin.SmallTypes.nextOf (.ref i2) >>= _) _ _ _;refine g0 (q7l hh (((h2.ext u1.extBut D.a4).ext u2.extBut D.a10.symm).ext u3.extBut D.a9.symm) (((o2.ext u1.extBut m2.z).ext u2.extBut m2.i).ext u3.extBut m2.o) hy fun g4 e u4 he=>?_);obtain⟨oe,y1,y2⟩:=he;have hz4:IsZip g4 z ti to .ellipsis:=u4 _ _ D.a4.symm (u3.extBut _ _ D.a2.symm (u2.extBut _ _ D.a3.symm hz1'));have ne:e≠z:=fun x=>by subst x;rw [hz4] at y1;cases y1;simp at y2
  exact nj hz4 (by simp) fun g5 _ u5=>hE g5 e (fun c o c1 c2 c3 c4 x=>u5.extBut _ _ c1 (u4 _ _ c4 (u3.extBut _ _ c2 (u2.extBut _ _ c3 (u1.extBut _ _ c1 x))))) ⟨oe,u5.extBut _ _ ne y1,y2⟩
theorem qdw{b1 b2:Bool}{z ti to i1 i2 l1 l2:Addr}{k1 k2:Nat}{xs ys:Array Value}{x y p q:Value}{Q:Option Value->Shared->Prop}(D:Z5 z ti to i1 i2)(m1:Off l1 z to i1 i2)(m2:Off l2 z to i1 i2)
  (hz:IsZip s.heap z ti to .none) (ht:IsPair s.heap ti (.ref i1) (.ref i2)) (hp:IsPair s.heap to p q)
  (h1:SI b1 s.heap i1 l1 k1) (h2:SI b2 s.heap i2 l2 k2) (o1:SO b1 s.heap l1 xs) (o2:SO b2 s.heap l2 ys) (hx:xs[k1]? = some x) (hy:ys[k2]? = some y)
  (hQ:∀h',IsZip h' z ti to (rawInt s.heap.objs.size)->IsPair h' to x y->SI b1 h' i1 l1 (k1+1)->SI b2 h' i2 l2 (k2+1)->IsPair h' s.heap.objs.size x y->h'.objs.size=s.heap.objs.size+1 ->
   (∀c o,c≠z->c≠to->c≠i1->c≠i2->s.heap.get? c=some o->h'.get? c=some o)->Q (some (.ref s.heap.objs.size)) {s with heap:=h'}) :
  wpAny (model prog w) A (pyNext (.ref z)) Q E s:=by
 have ty:s.TypeIs (.ref z) "zip" :=⟨_,hz,rfl⟩
 unfold pyNext;exact g0 (ur (mx (name:=Str.ofString "__next__") ty g1y (mm g1y ty F.entry_zip_next
  (qft D m1 m2 hz ht hp h1 h2 o1 o2 hx hy fun h' c1 c2 c3 c4 c5 c6 c7=>gb (hQ h' c1 c2 c3 c4 c5 c6 c7)) (F.args_zip_next_1 _))))
theorem q93{b1 b2:Bool}{z ti to i1 i2 l1 l2:Addr}{k1 k2:Nat}{xs ys:Array Value}{p q:Value}{Q:Option Value->Shared->Prop}(hh:A.handled=none)(D:Z5 z ti to i1 i2)(m1:Off l1 z to i1 i2)(m2:Off l2 z to i1 i2)
  (hz:IsZip s.heap z ti to .none) (ht:IsPair s.heap ti (.ref i1) (.ref i2)) (hp:IsPair s.heap to p q)
  (h1:SI b1 s.heap i1 l1 k1) (h2:SI b2 s.heap i2 l2 k2) (o1:SO b1 s.heap l1 xs) (o2:SO b2 s.heap l2 ys) (hend:xs[k1]? = none\/ys[k2]? = none)
  (hQ:∀h',(∀c o,c≠z->c≠to->c≠i1->c≠i2->s.heap.get? c=some o->h'.get? c=some o)->Q none {s with heap:=h'}):wpAny (model prog w) A (pyNext (.ref z)) Q E s:=by
 have ty:s.TypeIs (.ref z) "zip" :=⟨_,hz,rfl⟩
 unfold pyNext;refine g0 (ur (mx (name:=Str.ofString "__next__") ty g1y (mm g1y ty F.entry_zip_next
  (qhv hh D m1 m2 hz ht hp h1 h2 o1 o2 hend fun h' e hk he=>?_) (F.args_zip_next_1 _))))
 obtain⟨o,y1,y2⟩:=he;exact g0 (g04 (T:="StopIteration") (b:=true) ⟨o,y1,y2⟩ isSubtype_stop (gb (hQ _ hk)))
theorem q0h{b:Bool}{l:Addr}{xs:Array Value}{Q:Value->Shared->Prop}(h:SO b s.heap l xs)(q:Q (.ref s.heap.objs.size) {s with heap:=s.heap.push {cls:=.type (itN b),data:=.fields #[.ref l,.int 0 0]} }):
  wpAny (model prog w) A (pyIter (.ref l)) Q E s:=by
 cases b with
 | true=>exact g1i h q
 | false=>exact g2d h q
end
def zh1(b1:Bool)(h:Heap)(l1:Addr): Heap:=h.push {cls:=.type (itN b1),data:=.fields #[.ref l1,.int 0 0]}
def zh2(b1 b2:Bool)(h:Heap)(l1 l2:Addr): Heap:=(zh1 b1 h l1).push {cls:=.type (itN b2),data:=.fields #[.ref l2,.int 0 0]}
def zh3(b1 b2:Bool)(h:Heap)(l1 l2:Addr): Heap:=(zh2 b1 b2 h l1 l2).push {cls:=.type "tuple",data:=.seq #[.ref h.objs.size,.ref (zh1 b1 h l1).objs.size]}
def zh4(b1 b2:Bool)(h:Heap)(l1 l2:Addr): Heap:=(zh3 b1 b2 h l1 l2).push {cls:=.type "tuple",data:=.seq #[.none,.none]}
def zh5(b1 b2:Bool)(h:Heap)(l1 l2:Addr): Heap:=(zh4 b1 b2 h l1 l2).push {cls:=.type "zip",data:=.fields #[.none,.bool false,.bool false,.ref (zh2 b1 b2 h l1 l2).objs.size,.ref (zh3 b1 b2 h l1 l2).objs.size]}
theorem SO.push{b:Bool}{h:Heap}{l:Addr}{xs:Array Value}(x:SO b h l xs)(o:Obj): SO b (h.push o) l xs:=let⟨u,e,r⟩:=x; ⟨u,gc _ e,r⟩
theorem qdx(b1 b2:Bool)(l1 l2:Addr)(xs ys:Array Value):
  Meets (Builtin.«zip.__new__» ⟨[.type "zip",.ref l1,.ref l2],[]⟩) (fun _ R s=>SO b1 s.heap l1 xs/\SO b2 s.heap l2 ys/\R (.ok (.ret (.ref (zh4 b1 b2 s.heap l1 l2).objs.size))) {s with heap:=zh5 b1 b2 s.heap l1 l2}):=
 .of_wp fun prog w A R s h=>by
  obtain⟨hp,gg,dd,tk,os⟩:=s;obtain⟨ha,hb,h⟩:=h;have hsub:=sub_zip;have f1:SO b1 (Shared.heap ⟨hp,gg,dd,tk,os⟩) l1 xs:=ha;have f2:SO b2 (Shared.heap ⟨hp.push {cls:=.type (itN b1),data:=.fields #[.ref l1,.int 0 0]},gg,dd,tk,os⟩) l2 ys:=SO.push hb _
  wp_walk using q0h f1,q0h f2
  exact⟨_,rfl,h⟩
section
variable{X:Cx}{pins:List (Addr×Obj)}{σ : St}{H:Hp}{s:Shared}{h':Heap}
theorem q4z{fp:List Addr}{t':Nat}(I:Inv X pins σ H s)(hf:∀b∈fp,kc X pins H b)(k:∀b o,b∉fp->s.heap.get? b=some o->h'.get? b=some o): Inv X pins σ H {s with heap:=h',toks:=t'}:=by
 have nin:∀b u,H b=some u->b∉fp:=fun b u e hb=>by rw [(hf b hb).1] at e;cases e
 refine I.step (g':=s.gens) (d':=s.drawn) (ch:=fp) (fun b hb=>?_) (fun b o _ _ hc e _=>k b o hc e) (fun b o _ _ hc e _=>⟨o.slots,k b o hc e⟩) (fun _ _ _ _ n=>n)
  (fun b o hc e=>⟨o,k b o hc e⟩) (fun _ _ e=>e) (fun _ _ _ e=>e) (fun b ps e=>⟨#[],by rw [e];simp⟩) (fun m hm=>?_) (fun b u e=>?_) I.bare
 ·obtain⟨_,f1,_,f3,f4,f5⟩:=hf b hb
  exact⟨f3,f1,f4,f5⟩
 ·obtain⟨o,es,ep,ho,r⟩:=hm
  exact⟨o,es,ep,k _ o (fun z=>(hf _ z).2.1 rfl) ho,r⟩
 ·refine(I.hok b u e).stay (fun c v hc q=>k c v ?_ q) (fun _ q=>q) fun _ _ q=>q
  rcases hc with z|z
  ·rw [z];exact nin b u e
  ·exact nin c _ z
theorem adopt{p:Addr}{o:HO}(I:Inv X pins σ H s)(f:kc X pins H p)(new:ObjOk X.prog X.w (upd H p o) s.heap p o): Inv X pins σ (upd H p o) s:=by
 have hp:=f.1;obtain⟨_,f1,_,f3,f4,f5⟩:=f;have ne:∀ {b:Addr} {u:HO},H b=some u->upd H p o b=some u:=fun {b u} e=>by rw [qk (zq e hp)];exact e
 refine I.step (h':=s.heap) (g':=s.gens) (t':=s.toks) (d':=s.drawn) (ch:=[p]) (fun b hb=>?_) (fun b o _ _ hc e _=>e) (fun b o _ _ hc e _=>⟨o.slots,e⟩) (fun b o hc e n=>?_)
  (fun b o hc e=>⟨o,e⟩) (fun _ _ e=>ne e) (fun _ _ _ e=>ne e) (fun b ps e=>⟨#[],by rw [ne e];simp⟩) (fun m hm=>hm) (fun b u e=>?_) I.bare
 ·obtain rfl:b=p:=by simpa using hb
  exact⟨f3,f1,f4,f5⟩
 ·rw [qk (fun z=>hc (by simp [z]))];exact n
 ·by_cases hb:b=p
  ·subst hb;rw [qt] at e;cases e;exact new
  ·rw [qk hb] at e
   exact(I.hok b u e).stay (fun c v _ q=>q) (fun c q=>ne q) fun c xs q=>ne q
def Sq:Bool->Frag->Hp->Addr->List V->Prop
 | true=>SqL
 | false=>SqT
theorem q0z{b:Bool}{a:Addr}{xs:List V}(I:Inv X pins σ H s)(h:Sq b X.K H a xs): ∃its:List Value,Vals xs its/\SO b s.heap a its.toArray:=by
 cases b with
 | true=>obtain⟨its,r,⟨o,n,e,c,_,d⟩,_⟩:=I.list h;exact⟨its,r,o,e,c,n,d⟩
 | false=>obtain⟨its,r,⟨o,e,c,n,d⟩,_⟩:=I.tuple h;exact⟨its,r,o,e,c,n,d⟩
theorem qa4{b:Bool}{a:Addr}{xs ys:List V}(I:Inv X pins σ H s)(h:Sq b X.K H a xs)(h':Sq b X.K H a ys): xs=ys:=by
 cases b with
 | true=>exact I.list_inj h h'
 | false=>exact I.tuple_inj h h'
theorem xm{b:Bool}{K:Frag}{F H:Hp}{a:Addr}{xs:List V}(e:Same F H)(h:Sq b K F a xs): Sq b K H a xs:=by
 cases b with
 | true=>exact e.seq h
 | false=>exact ql e h
theorem q0i{b:Bool}{a c:Addr}{xs:List V}(I:Inv X pins σ H s)(h:Sq b X.K H a xs)(f:kc X pins H c): a≠c:=by
 obtain⟨f0,f1,f2,f3,_⟩:=f;have inK:∀ {o:Obj},X.K.lookup a=some o->a≠c:=fun {o} hk z=>by
  subst z;have hb:X.base.get? a=some o:=I.mod.kin a o hk;rcases f3 with q|q
  ·exact I.ok.noex a o hb q
  ·exact absurd (gs (gh hb) (my I.ok.bsz q)) (ph _)
 have trk:∀ {u:HO},H a=some u->a≠c:=fun {u} e z=>by subst z;rw [f0] at e;cases e
 cases b with
 | true=>
  rcases h with(h|⟨o,h⟩)|⟨o,its,n,hk,_⟩
  ·exact trk h
  ·exact trk h
  ·exact inK hk
 | false=>
  rcases h with(h|⟨o,h⟩)|⟨o,its,n,hk,_⟩
  ·exact trk h
  ·exact trk h
  ·exact inK hk
end
def Itz(K:Frag)(b1:Bool)(a1:Addr)(b2:Bool)(a2:Addr): It:=
 ⟨fun i H=>∃xs ys x y,Sq b1 K H a1 xs/\Sq b2 K H a2 ys/\xs[i]? = some x/\ys[i]? = some y,
  fun i H v H'=>∃p x y,H p=none/\(∀xs,Sq b1 K H a1 xs->xs[i]? = some x)/\(∀ys,Sq b2 K H a2 ys->ys[i]? = some y)/\v=.ref p/\H'=upd H p (.tup [x,y]),
  fun i H=>∃xs ys,Sq b1 K H a1 xs/\Sq b2 K H a2 ys/\(xs.length<=i\/ys.length<=i)⟩
theorem qhw{P:Program}{w:World}{K:Frag}{elts:List Expr}{x1}{tp:Pos}{b1 b2:Bool}{a1 a2 z ti to i1 i2:Addr}(D:Z5 z ti to i1 i2):
  Turn P w K (.Tuple elts x1 tp) (Itz K b1 a1 b2 a2) [z,ti,to,i1,i2] z
   (fun i h=>IsZip h z ti to .none/\IsPair h ti (.ref i1) (.ref i2)/\(∃p q,IsPair h to p q)/\SI b1 h i1 a1 i/\SI b2 h i2 a2 i) where
 mem:=by simp
 obj:=fun i h ⟨c1,c2,⟨p,q,c3⟩,⟨o4,c4,_,d4⟩,⟨o5,c5,_,d5⟩⟩ b hb=>by
  simp only [gm,mq,p9] at hb;rcases hb with rfl|rfl|rfl|rfl|rfl
  ·exact⟨_,c1,fun v z=>by cases z⟩
  ·exact⟨_,c2,fun v z=>by cases z⟩
  ·exact⟨_,c3,fun v z=>by cases z⟩
  ·exact⟨_,c4,fun v z=>by rw [d4] at z;cases z⟩
  ·exact⟨_,c5,fun v z=>by rw [d5] at z;cases z⟩
 keep:=fun i h h' ⟨c1,c2,⟨p,q,c3⟩,c4,c5⟩ k=>⟨k _ (by simp) _ c1,k _ (by simp) _ c2,⟨p,q,k _ (by simp) _ c3⟩,c4.keep fun o e=>k _ (by simp) o e,c5.keep fun o e=>k _ (by simp) o e⟩
 item:=by
  intro X hP hw hK hc i pins s σ H E I hf st hg;subst hP hw hK;obtain⟨xs,ys,x,y,q1,q2,hx,hy⟩:=hg;obtain⟨its1,v1,o1⟩:=q0z I q1;obtain⟨its2,v2,o2⟩:=q0z I q2;obtain⟨u1,hu1,ru1⟩:=v1.get hx;obtain⟨u2,hu2,ru2⟩:=v2.get hy;obtain⟨c1,c2,⟨p,q,c3⟩,c4,c5⟩:=st;have off:∀ {b:Bool} {a:Addr} {ws:List V},Sq b X.K H a ws->Off a z to i1 i2:=fun h=>⟨q0i I h (hf _ (by simp)),q0i I h (hf _ (by simp)),q0i I h (hf _ (by simp)),q0i I h (hf _ (by simp))⟩
  refine qdw D (off q1) (off q2) c1 c2 c3 c4 c5 o1 o2 (x:=u1) (y:=u2) (by simpa using hu1) (by simpa using hu2) fun g n1 n2 n3 n4 n5 n6 n7=>?_;refine⟨_,rfl,wpAny_letOwnedTupleGo_zip n1 fun g2 m1 sb=>?_⟩;have hsz:z<s.heap.objs.size:=gh c1;have kp:∀c o,c∉[z,ti,to,i1,i2]->s.heap.get? c=some o->g2.get? c=some o:=fun c o hc e=>by
   simp only [gm,mq,p9,g2f] at hc;exact sb.extBut _ _ hc.1 (n7 c o hc.1 hc.2.2.1 hc.2.2.2.1 hc.2.2.2.2 e)
  have I1:Inv X pins σ H {s with heap:=g2}:=q4z (t':=s.toks) I hf kp;have fp:kc X pins H s.heap.objs.size:=I.fpOk (gp _) I.fresh;have hT:IsPair g2 s.heap.objs.size u1 u2:=sb.extBut _ _ (nk hsz) n5;have I2:Inv X pins σ (upd H s.heap.objs.size (.tup [x,y])) {s with heap:=g2}:=
   adopt I1 fp ⟨by show 2<=sizeLine;decide,[u1,u2],.cons ru1 (.cons ru2 .nil),⟨_,hT,rfl,_,rfl⟩⟩
  refine⟨.ref s.heap.objs.size,_,I2,rfl,⟨_,x,y,I.fresh,fun ws h=>?_,fun ws h=>?_,rfl,rfl⟩,⟨m1,?_,⟨u1,u2,sb.extBut _ _ D.a2 n2⟩,n3.ext sb.extBut D.a3,n4.ext sb.extBut D.a4⟩,fun b hb=>?_⟩
  ·rw [qa4 I h q1];exact hx
  ·rw [qa4 I h q2];exact hy
  ·exact sb.extBut _ _ D.a1 (n7 _ _ D.a1 D.a5 D.a6 D.a7 c2)
  ·have hb0:=(hf b hb).1
   have:b≠s.heap.objs.size:=by
    simp only [gm,mq,p9] at hb;rcases hb with rfl|rfl|rfl|rfl|rfl
    ·exact gr hsz
    ·exact gr (gh c2)
    ·exact gr (gh c3)
    ·obtain⟨_,e,_⟩:=c4;exact gr (gh e)
    ·obtain⟨_,e,_⟩:=c5;exact gr (gh e)
   rw [qk this];exact hb0
 done:=by
  intro X hP hw hK hc i pins s σ H E I hf st hg;subst hP hw hK;obtain⟨xs,ys,q1,q2,hend⟩:=hg;obtain⟨its1,v1,o1⟩:=q0z I q1;obtain⟨its2,v2,o2⟩:=q0z I q2;obtain⟨c1,c2,⟨p,q,c3⟩,c4,c5⟩:=st;have off:∀ {b:Bool} {a:Addr} {ws:List V},Sq b X.K H a ws->Off a z to i1 i2:=fun h=>⟨q0i I h (hf _ (by simp)),q0i I h (hf _ (by simp)),q0i I h (hf _ (by simp)),q0i I h (hf _ (by simp))⟩
  refine q93 (I.ok.hd hc) D (off q1) (off q2) c1 c2 c3 c4 c5 o1 o2 ?_ fun g n7=>⟨rfl,q4z (t':=s.toks) I hf fun c o hc e=>?_⟩
  ·have l1:=v1.length
   have l2:=v2.length;rcases hend with h|h
   ·exact .inl (by simp;lia)
   ·exact .inr (by simp;lia)
  ·simp only [gm,mq,p9,g2f] at hc
   exact n7 c o hc.1 hc.2.2.1 hc.2.2.2.1 hc.2.2.2.2 e
 self:=fun A i s Q E st h=>wpAny_pyIter_zip st.1 h
def xx(xs ys:List D): List D:=List.zipWith (fun a b=>.tup [a,b]) xs ys
theorem qjw{K:Frag}{F:Hp}{b1 b2:Bool}{a1 a2:Addr}{xs ys:List V}{ds es:List D}(h1:Sq b1 K F a1 xs)(h2:Sq b2 K F a2 ys)(r1:RepL K F ds xs)(r2:RepL K F es ys): ItD K F (xx ds es) (Itz K b1 a1 b2 a2) where
 go:=fun i F' H s1 s2 hi=>by
  have hi':i<ds.length/\i<es.length:=by unfold xx at hi;rw [g0z] at hi;lia
  exact⟨xs,ys,xs[i]'(by rw [<- r1.length];exact hi'.1),ys[i]'(by rw [<- r2.length];exact hi'.2),xm (s1.trans s2) h1,xm (s1.trans s2) h2,by simp,by simp⟩
 yld:=fun i d F' H x H' s1 s2 hi ⟨p,x1,y1,hp,q1,q2,e1,e2⟩=>by
  subst e1 e2;unfold xx at hi;rw [g3e] at hi;cases z1:ds[i]? with
  | none=>rw [z1] at hi;cases hi
  | some d1=>
   cases z2:es[i]? with
   | none=>rw [z1,z2] at hi;cases hi
   | some d2=>
    rw [z1,z2] at hi;cases hi;obtain⟨v1,k1,k2⟩:=r1.get z1;obtain⟨v2,k3,k4⟩:=r2.get z2;have w1:=q1 xs (xm (s1.trans s2) h1);have w2:=q2 ys (xm (s1.trans s2) h2);rw [k1] at w1;cases w1;rw [k3] at w2;cases w2;have gn:Grow F' H (upd F' p (.tup [x1,y1])) (upd H p (.tup [x1,y1])):=Grow.new s2 hp;exact⟨_,gn,rep_tup.mpr ⟨p,_,rfl,SqT.of qt,.cons ((k2.mono s1).mono gn.ff) (.cons ((k4.mono s1).mono gn.ff) .nil)⟩⟩
 stop:=fun i F' H s1 s2 hi=>by
  unfold xx at hi;rw [g0z] at hi;refine⟨xs,ys,xm (s1.trans s2) h1,xm (s1.trans s2) h2,?_⟩;rw [<- r1.length, <- r2.length];lia
section
variable{X:Cx}{pos:Pos}{elts:List Expr}{x1:Nat}{tp:Pos}
def qpg(K:Frag)(ta:TA): TI:=fun σ H R=>ta σ H fun vs H1=>∃b1 a1 xs b2 a2 ys,vs=[.ref a1,.ref a2]/\Sq b1 K H1 a1 xs/\Sq b2 K H1 a2 ys/\R (Itz K b1 a1 b2 a2) H1
theorem qfu:bootBuiltins "zip" = some (.type "zip"):=by decide +kernel
theorem qmj{a b:Expr}{ta:TA}{p:Pos}(hg:Gl X "zip")(hm:X.mg "zip" = none)(ha:PA X [a,b] ta)(hs:starEach [a,b] X.env=[(false,eval a X.env),(false,eval b X.env)]:=by rfl)(hs2:starEach [b] X.env=[(false,eval b X.env)]:=by rfl):
  PI X (.Tuple elts x1 tp) (.Call (.Name "zip" p) [a,b] [] pos) (qpg X.K ta):=by
 intro pins s σ H R I h;refine Call_ (q17 I hg hm qfu (pz (thn (ha pos pins s σ H _ I h) fun us s1 ⟨vs,H1,I1,r1,q1⟩=>?_) (by rw [hs,hs2]) (by rw [hs2];rfl)));obtain⟨b1,a1,xs,b2,a2,ys,rfl,k1,k2,q⟩:=q1;obtain⟨u1,u2,rfl,e1,e2⟩:=r1.two;cases e1;cases e2;obtain⟨its1,v1,o1⟩:=q0z I1 k1;obtain⟨its2,v2,o2⟩:=q0z I1 k2;refine callType_new F.called_zip (by decide) (F.typeCall_zip_2 _ _) (F.newCall_zip_2 _ _) (fun obj=>F.args_object_init_3 obj _ _) F.entry_zip_new (qdx b1 b2 a1 a2 its1.toArray its2.toArray) ⟨o1,o2,?_⟩;have z1:(zh1 b1 s1.heap a1).objs.size=s1.heap.objs.size+1:=nc ..;have z2:(zh2 b1 b2 s1.heap a1 a2).objs.size=s1.heap.objs.size+2:=by unfold zh2;rw [nc,z1]
 have z3:(zh3 b1 b2 s1.heap a1 a2).objs.size=s1.heap.objs.size+3:=by unfold zh3;rw [nc,z2]
 have z4:(zh4 b1 b2 s1.heap a1 a2).objs.size=s1.heap.objs.size+4:=by unfold zh4;rw [nc,z3]
 have g5:(zh5 b1 b2 s1.heap a1 a2).get? (zh4 b1 b2 s1.heap a1 a2).objs.size=some {cls:=.type "zip",data:=.fields #[.none,.bool false,.bool false,.ref (zh2 b1 b2 s1.heap a1 a2).objs.size,.ref (zh3 b1 b2 s1.heap a1 a2).objs.size]}:=gi _ rfl;have g4:(zh5 b1 b2 s1.heap a1 a2).get? (zh3 b1 b2 s1.heap a1 a2).objs.size=some {cls:=.type "tuple",data:=.seq #[.none,.none]}:=gc _ (gi _ rfl);have g3:(zh5 b1 b2 s1.heap a1 a2).get? (zh2 b1 b2 s1.heap a1 a2).objs.size=some {cls:=.type "tuple",data:=.seq #[.ref s1.heap.objs.size,.ref (zh1 b1 s1.heap a1).objs.size]}:=gc _ (gc _ (gi _ rfl));have g2:(zh5 b1 b2 s1.heap a1 a2).get? (zh1 b1 s1.heap a1).objs.size=some {cls:=.type (itN b2),data:=.fields #[.ref a2,.int 0 0]}:=gc _ (gc _ (gc _ (gi _ rfl)));have g1:(zh5 b1 b2 s1.heap a1 a2).get? s1.heap.objs.size=some {cls:=.type (itN b1),data:=.fields #[.ref a1,.int 0 0]}:=gc _ (gc _ (gc _ (gc _ (gi _ rfl))));have kp:∀c o,s1.heap.get? c=some o->(zh5 b1 b2 s1.heap a1 a2).get? c=some o:=fun c o e=>gc _ (gc _ (gc _ (gc _ (gc _ e))));have I2:Inv X pins σ H1 {s1 with heap:=zh5 b1 b2 s1.heap a1 a2}:=I1.kept (t':=s1.toks) kp;refine⟨⟨_,g5,rfl⟩,wpAny_pyIter_zip g5 ?_⟩;refine⟨_,_,_,_,H1,rfl,I2,qhw (b1:=b1) (b2:=b2) (a1:=a1) (a2:=a2) (i1:=s1.heap.objs.size) (i2:=(zh1 b1 s1.heap a1).objs.size) ?_,⟨g5,g3,⟨_,_,g4⟩,⟨_,g1,rfl,rfl⟩,⟨_,g2,rfl,rfl⟩⟩,fun c hc=>?_,q⟩
 ·constructor <;> (first|exact gr (by lia)|exact nk (by lia))
 ·have hge:s1.heap.objs.size<=c:=by
   simp only [gm,mq,p9] at hc;rcases hc with rfl|rfl|rfl|rfl|rfl <;> lia
  exact I1.fpOk hge (I1.hok.fresh hge)
def qhx(fa:FA): FA:=fun ρ =>(fa ρ).bind fun ds=>match ds with
 | [x,y]=>(q3y x).bind fun xs=>(q3y y).map fun ys=>xx xs ys
 | _=>none
theorem q7m{K:Frag}{F:Hp}{d:D}{ds:List D}{v:V}(h:q3y d=some ds)(r:Rep K F d v): ∃b a xs,v=.ref a/\Sq b K F a xs/\RepL K F ds xs:=by
 cases d <;> simp only [q3y] at h <;> first|(cases h;done)|skip
 ·cases h
  obtain⟨a,xs,rfl,h3,h4⟩:=rep_tup.mp r;exact⟨false,a,xs,rfl,h3,h4⟩
 ·cases h
  obtain⟨a,xs,rfl,h3,h4⟩:=rep_lst.mp r;exact⟨true,a,xs,rfl,h3,h4⟩
theorem qmk{a b:Expr}{fa:FA}{p:Pos}(hg:Gl X "zip")(hm:X.mg "zip" = none)(ha:PA X [a,b] (tDA X.K fa))(hs:starEach [a,b] X.env=[(false,eval a X.env),(false,eval b X.env)]:=by rfl)(hs2:starEach [b] X.env=[(false,eval b X.env)]:=by rfl):
  PI X (.Tuple elts x1 tp) (.Call (.Name "zip" p) [a,b] [] pos) (tDI X.K (qhx fa)):=q3v (qmj hg hm ha hs hs2) fun σ H R ⟨F0,H0,F, ρ,ds,r,hf,q⟩=>by
 obtain⟨es,h1,h2⟩:=g9.mp hf;refine⟨F0,H0,F, ρ,es,r,h1,fun vs F' H' g' r'=>?_⟩
 split at h2
 ·rename_i x y
  obtain⟨xs,k1,h2⟩:=g9.mp h2;obtain⟨ys,k2,h2⟩:=gq.mp h2;subst h2;obtain⟨v1,t,rfl,e1,e2⟩:=r'.cons_inv;obtain⟨v2,t2,rfl,e3,e4⟩:=e2.cons_inv;cases e4.nil_inv;obtain⟨b1,a1,us,rfl,s1,l1⟩:=q7m k1 e1;obtain⟨b2,a2,ws,rfl,s2,l2⟩:=q7m k2 e3;exact⟨b1,a1,us,b2,a2,ws,rfl,xm g'.fh s1,xm g'.fh s2,q _ F' H' g' (qjw s1 s2 l1 l2)⟩
 ·cases h2
end
section
variable{X:Cx}{e:Expr}{es:List Expr}{kws:List Keyword}{pos:Pos}{f g:FE}{fa fk:FA}
def qph(n m:Nat)(fa fk:FA): FA:=fun ρ =>(fa ρ).bind fun ds=>(fk ρ).bind fun es=>if ds.length=n/\es.length=m then some (ds++es) else none
def qoe(ar:Nat)(op:List D->Option D): List D->Option D:=fun ds=>if ds.length=ar then op ds else none
end
structure Cal(P:Program)(w:World)(K:Frag)(mg:Str->Option Value)(base:Heap)(x:Str)(k:Nat)(ps:List Str)(ar:Nat)(op:List D->Option D)(fn:Addr)(fd:FuncData): Prop where
 ok:FnOk P w K mg base CX0 k fn fd ps (spD K ar op)
 mg:mg x=some (.ref fn)
 kp:PySem.W.keepIn K (.ref fn)=true
section
variable{X:Cx}{e:Expr}{es:List Expr}{kws:List Keyword}{pos p:Pos}{fa fk:FA}{k ar k':Nat}{fn:Addr}{fd:FuncData}{ps ks:List Str}{op:List D->Option D}{x:Str}
theorem qo(C:Cal X.prog X.w X.K X.mg X.base x k ps ar op fn fd)(b:Binds X.K fd ps [])(hr:Room k' X.A)(hk:k<=k')(hg:Gl X x)(ha:PA X (e :: es) (tDA X.K fa))(hdb:(x==("__debug__" : Str))=false:=by decide)
  (he:starEach (e :: es) X.env=(false,eval e X.env) :: starEach es X.env:=by rfl) (hpl:(backTo pos (starEach es X.env)).any (·.1)=false:=by rfl):PE X (.Call (.Name x p) (e :: es) [] pos) (tD X.K (qg (qp ar [] op) fa)):=
 qjr C.ok (hr.mono hk) hg C.mg C.kp b .nil (fun H=>.nil) ha hdb he hpl
def q7n:D->Option D
 | .int i=>some (.int (-i))
 | _=>none
theorem qa5{f:FE}(ha:PE X e (tD X.K f)): PE X (.UnaryOp .USub e pos) (tD X.K (eUn q7n f)):=by
 intro pins s σ H Q I h;obtain⟨F0,H0,F, ρ,d,r,hf,q⟩:=h;obtain⟨d',h1,h2⟩:=g9.mp hf;cases d' <;> simp only [q7n] at h2 <;> first|(cases h2;done)|skip
 cases h2;refine UnaryOp_ (thn (ha pins s σ H (fun v H'=>∃F',Grow F H F' H'/\Rep X.K F' (.int _) v) I ⟨F0,H0,F, ρ,_,r,h1,fun v F' H' g' r'=>⟨F',g',r'⟩⟩) fun v s1 ⟨x,H1,I1,r1,F',g',r'⟩=>?_);cases rep_int.mp r';obtain⟨t,rfl⟩:=r1;exact neg_int ⟨.int _,H1,I1.tok _,⟨_,rfl⟩,q _ F' H1 g' (rep_int.mpr rfl)⟩
end
structure Fun2(K:Frag)(x qual:Str)(st:Stmt)(dV:Value)(f:Addr)(fd:FuncData): Prop where
 ex:∃(oc:Value) (od:Option Addr) (kV doc pm:Value) (an:Option Addr) (cdv ct:Value) (osl:Array (Option Value)),
  fd=PySem.W.fnOf x qual (q02 st) (qq st) (qd st) dV kV doc pm an cdv ct/\K.lookup f=some ⟨oc,od,.func fd,osl⟩/\PySem.W.codeIn K cdv qual=true
 kp:PySem.W.keepIn K (.ref f)=true
section
variable{P:Program}{w:World}{K:Frag}{mg:Str->Option Value}{base:Heap}{x qual:Str}{st:Stmt}{dV:Value}{f:Addr}{fd:FuncData}{N ps:List Str}
theorem Fun2.ok{k:Nat}{u:FS}(F:Fun2 K x qual st dV f fd)(S:FnScope N ps (qd st))
  (hb:∀(cdv:Value) (A:Around) (outer:List Env) (s:Shared) (H:Hp) (E:XK),Room k (A.deeper (envOfC qual (qd st) s.heap.objs.size f cdv))->PSs (qw CX0 P w K mg base N qual (qd st) f cdv A outer s H E).nox (qq st) (tDS K u)) :
  FnOk P w K mg base CX0 (k+1) f fd ps (spD K ps.length (z5 N.length u)):=by
 obtain⟨oc,od,kV,doc,pm,an,cdv,ct,osl,rfl,lk,hcd⟩:=F.ex;exact qoa lk hcd S fun A outer s H E hr=>hb cdv A outer s H E hr
theorem Fun2.okn{k n ar k1:Nat}{u:FS}(F:Fun2 K x qual st dV f fd)(S:FnScope N ps (qd st))(hn:N.length=n)(ha:ps.length=ar)(hk:k+1=k1)
  (hb:∀(cdv:Value) (A:Around) (outer:List Env) (s:Shared) (H:Hp) (E:XK),Room k (A.deeper (envOfC qual (qd st) s.heap.objs.size f cdv))->PSs (qw CX0 P w K mg base N qual (qd st) f cdv A outer s H E).nox (qq st) (tDS K u)) :
  FnOk P w K mg base CX0 k1 f fd ps (spD K ar (z5 n u)):=by
 subst hn ha hk;exact F.ok S hb
theorem q7o{oc:Value}{od an:Option Addr}{osl:Array (Option Value)}{kV doc pm cdv ct:Value}(l:K.lookup f=some ⟨oc,od,.func (PySem.W.fnOf x qual (q02 st) (qq st) (qd st) dV kV doc pm an cdv ct),osl⟩)
  (c:PySem.W.codeIn K cdv qual=true) (k:PySem.W.keepIn K (.ref f)=true):Fun2 K x qual st dV f (PySem.W.fnOf x qual (q02 st) (qq st) (qd st) dV kV doc pm an cdv ct):=⟨⟨oc,od,kV,doc,pm,an,cdv,ct,osl,rfl,l,c⟩,k⟩
theorem Fun2.bindsTo(F:Fun2 K x qual st dV f fd){P:FuncData->Prop}(h:∀(kV doc pm:Value) (an:Option Addr) (cdv ct:Value),P (PySem.W.fnOf x qual (q02 st) (qq st) (qd st) dV kV doc pm an cdv ct)): P fd:=by
 obtain⟨oc,od,kV,doc,pm,an,cdv,ct,osl,rfl,lk,hcd⟩:=F.ex;exact h kV doc pm an cdv ct
end
def q9d(K:Frag): Sp:=fun vs H Q _=>∃(a:Addr) (ns:List Int) (F:Hp),vs=[.ref a]/\SameT F H/\SqL K F a (ns.map V.int)/\ns.length<=63/\∀H',Q (.bl true) H'
theorem qml{P:Program}{w:World}{K:Frag}{mg:Str->Option Value}{base:Heap}{k:Nat}{f:Addr}{fd:FuncData}{x:Str}{op:List D->Option D}(F:FnOk P w K mg base CX0 k f fd [x] (spD K 1 op))(h:∀ns:List Int,ns.length<=63->op [.lst (ns.map .int)]=some (.bl true)):
  FnOk P w K mg base CX0 k f fd [x] (q9d K):=F.imp fun vs H Q E ⟨a,ns,Fz,e,fz,hS,hl,q⟩=>by
 subst e;exact⟨Fz,[.lst (ns.map .int)],.bl true,fz,.cons (rep_lst.mpr ⟨a,_,rfl,hS,RepL.ints.mpr rfl⟩) .nil,rfl,h ns hl,fun v F' H' g' r'=>by rw [rep_bl.mp r'];exact q H'⟩
theorem qmm(ht:Lam.tab=[]){l:PySem.W.OpenLaw}{k:Nat}{x:Str}{q:Program}{loose:List Str}{XP:(Str->Option Value)->Heap->Prop}{YP:World->Heap->Prop}{d:DefRec}{K:Params->Frag}(hn:l.most=some 63)(hdf:d.params.defaults=[])(hk:Room k callerA)
  (hY:∀(w:World) (h:Heap),YP w h->(K w.params).In h)
  (F:∀(w:World) (mg:Str->Option Value) (fa:Addr) (h:Heap),(K w.params).In h->h.Ns mainGlobals mg->mg d.name=some (.ref fa) ->
   ∃fd:FuncData,(∀(s:Shared) (u:Value),BindsTo s fd ⟨[u],[]⟩ [(x,u)])/\∀base:Heap,(K w.params).In base->base.Ns mainGlobals mg->FnOk l.prog w (K w.params) mg base CX0 k fa fd [x] (q9d (K w.params))) :
  PySem.W.WalkO q loose XP YP l.row.toRowW d [] (fun f vs=>PySem.call f vs):=
 L2.qjm (n:=63) (k:=k) (x:=x) (CX:=fun _=>CX0) (sp:=fun w=>q9d (K w.params)) hn (by decide) hdf hk hY F (fun _ H a ns hl _ hS=>⟨a,ns,H,rfl,⟨.refl _,fun p hp=>(by rw [ht] at hp;cases hp),fun p hp=>(by rw [ht] at hp;cases hp)⟩,hS,hl,fun _=>rfl⟩) fun _ _ _ _ _ z=>z
section
variable{X:Cx}{pos:Pos}{f g:FE}{a b:Expr}
abbrev oLt':=oLt
theorem qmn:OpR X (compareOp .Lt) (rD X.K oLt'):=qo5
end
section
variable{X:Cx}{pos:Pos}{f g k:FE}{a b c:Expr}
theorem qcx{pins:List (Addr×Obj)}{σ : St}{H:Hp}{s:Shared}(I:Inv X pins σ H s): sysModules<s.heap.objs.size:=
 Nat.lt_trans (by decide) (I.mod.glob.keeps I.bk).lt
def qdy:FE:=fun _=>some (.dct [] [])
theorem qmo:PE X (.Dict [] [] pos) (tD X.K qdy):=fun pins s σ H Q I ⟨F0,H0,F, ρ,d,r,hf,q⟩=>by
 cases hf;refine wpAny_Dict_empty ⟨.ref s.heap.objs.size,_,I.laid (a:=s.heap.objs.size) (o:=.dK []) (t':=s.toks) (fun _ _ z=>gc _ z) (gp _)
  ⟨t7 _,g24.mpr (gw (gr (qcx I))),[],.nil,Heap.DictOf.new s.heap⟩,rfl,?_⟩
 have hn:H s.heap.objs.size=none:=I.hok.fresh (gp _);exact q _ _ _ (Grow.new r.fh hn) (rep_dct.mpr ⟨_,[],rfl,qt,rfl,.nil⟩)
def q2m(o1 o2:D->D->Option D)(a b c:FE): FE:=fun ρ =>(a ρ).bind fun x=>(b ρ).bind fun y=>(o1 x y).bind fun r=>(isB r).bind fun q=>if q then(c ρ).bind fun z=>o2 y z else some (.bl false)
theorem qjx{o1 o2:D->D->Option D}{σ : St}{H:Hp}{Q:VK}(h:tD X.K (q2m o1 o2 f g k) σ H Q): qf4 (rD X.K o1) (rD X.K o2) (tD X.K f) (tD X.K g) (tD X.K k) σ H Q:=by
 obtain⟨F0,H0,F, ρ,d,r,hf,q⟩:=h;obtain⟨x,e1,hf1⟩:=g9.mp hf;obtain⟨y,e2,hf2⟩:=g9.mp hf1;obtain⟨z,e3,hf3⟩:=g9.mp hf2;obtain⟨kq,e4,hf4⟩:=g9.mp hf3;refine⟨F0,H0,F, ρ,x,r,e1,fun v F1 H1 g1 r1=>⟨F0,H0,F1, ρ,y,r.grow g1,e2,fun u F2 H2 g2 r2=>⟨F2,x,y,z,g2.fh,r1.mono g2.ff,r2,e3,fun w F3 H3 g3 r3=>?_⟩⟩⟩;have ez:=q31 e4;subst ez;refine⟨kq,rep_bl.mp r3,?_⟩;cases kq with
 | false=>
  rw [m4 gj] at hf4 ⊢;cases hf4;exact q _ F3 H3 (g1.trans (g2.trans g3)) (rep_bl.mpr rfl)
 | true=>
  rw [gz rfl] at hf4 ⊢;obtain⟨zz,e5,e6⟩:=g9.mp hf4;exact⟨F0,H0,F3, ρ,zz,r.grow (g1.trans (g2.trans g3)),e5,fun w' F4 H4 g4 r4=>⟨F4,y,zz,d,g4.fh,(r2.mono g3.ff).mono g4.ff,r4,e6,fun w5 F5 H5 g5 r5=>q w5 F5 H5 ((g1.trans (g2.trans g3)).trans (g4.trans g5)) r5⟩⟩
theorem qhy{op op':CmpOp}{o1 o2:D->D->Option D}(h1:OpR X (compareOp op) (rD X.K o1))(h2:OpR X (compareOp op') (rD X.K o2))(ha:PE X a (tD X.K f))(hb:PE X b (tD X.K g))(hc:PE X c (tD X.K k))
  (hm:lastMarks [op,op'] [b,c]=false:=by with_unfolding_all rfl):PE X (.Compare a [op,op'] [b,c] pos) (tD X.K (q2m o1 o2 f g k)):=
 za (qh4 h1 h2 ha hb hc hm) fun σ H Q h=>qjx h
def q50:D->D->Bool
 | .non,.non=>true
 | .bl a,.bl b=>a==b
 | _,_=>false
def oIs(neg:Bool): D->D->Option D
 | x,.non=>some (.bl (if neg then !q50 x .non else q50 x .non))
 | x,.bl b=>some (.bl (if neg then !q50 x (.bl b) else q50 x (.bl b)))
 | _,_=>none
theorem qof{M:Model}{A:Around}{E:Value->Shared->Prop}{s:Shared}{Q:Value->Shared->Prop}{v:Value}{c:Bool}(hv:∀id,v ≠ .builtin id)(h:Q (.bool (v == .bool c)) s): wpAny M A (compareOp .Is v (.bool c)) Q E s:=by
 cases v <;> first|exact gb h|exact absurd rfl (hv _)
theorem qhz{M:Model}{A:Around}{E:Value->Shared->Prop}{s:Shared}{Q:Value->Shared->Prop}{v:Value}{c:Bool}(hv:∀id,v ≠ .builtin id)(h:Q (.bool (!(v == .bool c))) s): wpAny M A (compareOp .IsNot v (.bool c)) Q E s:=by
 cases v <;> first|exact gb h|exact absurd rfl (hv _)
theorem qfv{K:Frag}{F:Hp}{d:D}{x:V}{v:Value}(r:Rep K F d x)(rv:RelV x v): ∀id,v ≠ .builtin id:=by
 intro id;cases d with
 | non=>cases rep_non.mp r;cases rv;intro z;cases z
 | bl b=>cases rep_bl.mp r;cases rv;intro z;cases z
 | int i=>cases rep_int.mp r;obtain⟨t,rfl⟩:=rv;intro z;cases z
 | str i=>cases rep_str.mp r;obtain⟨t,rfl⟩:=rv;intro z;cases z
 | tup ds=>obtain⟨p,xs,rfl,_⟩:=rep_tup.mp r;cases rv;intro z;cases z
 | lst ds=>obtain⟨p,xs,rfl,_⟩:=rep_lst.mp r;cases rv;intro z;cases z
 | dct ks vs=>obtain⟨p,xs,rfl,_⟩:=rep_dct.mp r;cases rv;intro z;cases z
 | dtt ks vs=>obtain⟨p,xs,ys,ep,rfl,_⟩:=rep_dtt.mp r;cases rv;intro z;cases z
 | obj C=>obtain⟨p,dx,_,rfl,_⟩:=rep_obj.mp r;cases rv;intro z;cases z
 | exc C=>obtain⟨p,_,rfl,_⟩:=rep_exc.mp r;cases rv;intro z;cases z
theorem qa6{K:Frag}{F:Hp}{d:D}{x:V}{v:Value}(r:Rep K F d x)(rv:RelV x v): (v==Value.none)=q50 d .non:=by
 cases d with
 | non=>cases rep_non.mp r;cases rv;rfl
 | bl b=>cases rep_bl.mp r;cases rv;rfl
 | int i=>cases rep_int.mp r;obtain⟨t,rfl⟩:=rv;rfl
 | str i=>cases rep_str.mp r;obtain⟨t,rfl⟩:=rv;rfl
 | tup ds=>obtain⟨p,xs,rfl,_⟩:=rep_tup.mp r;cases rv;rfl
 | lst ds=>obtain⟨p,xs,rfl,_⟩:=rep_lst.mp r;cases rv;rfl
 | dct ks vs=>obtain⟨p,xs,rfl,_⟩:=rep_dct.mp r;cases rv;rfl
 | dtt ks vs=>obtain⟨p,xs,ys,ep,rfl,_⟩:=rep_dtt.mp r;cases rv;rfl
 | obj C=>obtain⟨p,dx,_,rfl,_⟩:=rep_obj.mp r;cases rv;rfl
 | exc C=>obtain⟨p,_,rfl,_⟩:=rep_exc.mp r;cases rv;rfl
theorem qcy{K:Frag}{F:Hp}{d:D}{x:V}{v:Value}{c:Bool}(r:Rep K F d x)(rv:RelV x v): (v==Value.bool c)=q50 d (.bl c):=by
 cases d with
 | non=>cases rep_non.mp r;cases rv;rfl
 | bl b=>cases rep_bl.mp r;cases rv;cases b <;> cases c <;> rfl
 | int i=>cases rep_int.mp r;obtain⟨t,rfl⟩:=rv;rfl
 | str i=>cases rep_str.mp r;obtain⟨t,rfl⟩:=rv;rfl
 | tup ds=>obtain⟨p,xs,rfl,_⟩:=rep_tup.mp r;cases rv;rfl
 | lst ds=>obtain⟨p,xs,rfl,_⟩:=rep_lst.mp r;cases rv;rfl
 | dct ks vs=>obtain⟨p,xs,rfl,_⟩:=rep_dct.mp r;cases rv;rfl
 | dtt ks vs=>obtain⟨p,xs,ys,ep,rfl,_⟩:=rep_dtt.mp r;cases rv;rfl
 | obj C=>obtain⟨p,dx,_,rfl,_⟩:=rep_obj.mp r;cases rv;rfl
 | exc C=>obtain⟨p,_,rfl,_⟩:=rep_exc.mp r;cases rv;rfl
theorem qog(_hc:X.calm=true): OpR X (compareOp .Is) (rD X.K (oIs false)):=fun pins s σ H x y v u Q I rx ry ⟨F,d1,d2,d,q1,q2,q3,q4,q5⟩=>by
 cases d2 <;> simp only [oIs] at q4 <;> first|(cases q4;done)|skip
 ·cases rep_non.mp q3
  cases ry;refine is_none_gen ⟨.bl _,H,I,rfl,?_⟩;rw [qa6 q2 rx];cases q4;exact q5 _ F H (.refl q1) (rep_bl.mpr rfl)
 ·cases rep_bl.mp q3
  cases ry;refine qof (qfv q2 rx) ⟨.bl _,H,I,rfl,?_⟩;rw [qcy q2 rx];cases q4;exact q5 _ F H (.refl q1) (rep_bl.mpr rfl)
theorem qa7(_hc:X.calm=true): OpR X (compareOp .IsNot) (rD X.K (oIs true)):=fun pins s σ H x y v u Q I rx ry ⟨F,d1,d2,d,q1,q2,q3,q4,q5⟩=>by
 cases d2 <;> simp only [oIs] at q4 <;> first|(cases q4;done)|skip
 ·cases rep_non.mp q3
  cases ry;refine isnot_none_gen ⟨.bl _,H,I,rfl,?_⟩;rw [qa6 q2 rx];cases q4;exact q5 _ F H (.refl q1) (rep_bl.mpr rfl)
 ·cases rep_bl.mp q3
  cases ry;refine qhz (qfv q2 rx) ⟨.bl _,H,I,rfl,?_⟩;rw [qcy q2 rx];cases q4;exact q5 _ F H (.refl q1) (rep_bl.mpr rfl)
end
theorem q7p:fillsNumberSlot (.type "tuple") "mul" = pure false:=
 PySem.fillsNumberSlot_seq (id:="tuple.__mul__") (r:=some (.builtin "tuple.__rmul__")) g0u.lookup (by decide +kernel) F.slot_tuple_rmul.lookup (by decide +kernel)
theorem qdz:seqRepeat? (.type "tuple")=pure (some (.builtin "tuple.__mul__")):=by
 unfold seqRepeat?;rw [PySem.seqSlot_of (T:="tuple") (name:="__mul__") g0u.lookup (by decide +kernel),PySem.seqSlot_of (T:="tuple") (name:="__rmul__") F.slot_tuple_rmul.lookup (by decide +kernel)]
 rfl
theorem qi0(i:Int)(t:Tok)(l:Addr)(xs:Array Value)(n:Nat)(dd:Option Addr)(sl:Array (Option Value)):
  Meets (Builtin.«int.__rmul__» ⟨[.int i t,.ref l],[]⟩) (fun _ R s=>s.heap.get? l=some {cls:=.type "tuple",dict:=dd,data:=.seq xs n,slots:=sl}/\R (.ok (.ret Value.notImplemented)) s):=
 .of_wp fun prog w A R s h=>by
  obtain⟨hp,g,d,tk,os⟩:=s;obtain⟨hl,h⟩:=h
  wp_walk
  exact⟨_,rfl,h⟩
theorem qa8(i:Int)(t:Tok)(l:Addr)(xs:Array Value)(n:Nat)(dd:Option Addr)(sl:Array (Option Value))(h0:¬(decide (i < -(2 ^ 63)) || decide (i>=2 ^ 63))=true)(h1:(xs.isEmpty || i==1)=true):
  Meets (Builtin.«tuple.__mul__» ⟨[.ref l,.int i t],[]⟩) (fun _ R s=>s.heap.get? l=some {cls:=.type "tuple",dict:=dd,data:=.seq xs n,slots:=sl}/\R (.ok (.ret (.ref l))) s):=
 .of_wp fun prog w A R s h=>by
  obtain⟨hp,g,d,tk,os⟩:=s;obtain⟨hl,h⟩:=h;have f1:=g2v;have f2:=g18
  wp_walk using p0 hl
  refine g1z (m3 h0) ?_
  wp_walk using p0 hl
  exact⟨_,rfl,h⟩
theorem qa9(i:Int)(t:Tok)(l:Addr)(xs:Array Value)(n:Nat)(dd:Option Addr)(sl:Array (Option Value))(h0:¬(decide (i < -(2 ^ 63)) || decide (i>=2 ^ 63))=true)(h1:¬(xs.isEmpty || i==1)=true)(h2:(decide (i<=0) || xs.isEmpty)=true):
  Meets (Builtin.«tuple.__mul__» ⟨[.ref l,.int i t],[]⟩) (fun _ R s=>s.heap.get? l=some {cls:=.type "tuple",dict:=dd,data:=.seq xs n,slots:=sl}/\R (.ok (.ret (.ref s.heap.objs.size))) {s with heap:=s.heap.push {cls:=.type "tuple",data:=.seq #[]} }):=
 .of_wp fun prog w A R s h=>by
  obtain⟨hp,g,d,tk,os⟩:=s;obtain⟨hl,h⟩:=h;have f1:=g2v;have f2:=g18
  wp_walk using p0 hl
  refine g1z (m3 h0) ?_
  wp_walk using p0 hl
  exact⟨_,rfl,h⟩
theorem qaa(i:Int)(t:Tok)(l:Addr)(xs:Array Value)(n:Nat)(dd:Option Addr)(sl:Array (Option Value))(h0:¬(decide (i < -(2 ^ 63)) || decide (i>=2 ^ 63))=true)(h1:¬(xs.isEmpty || i==1)=true)(h2:¬(decide (i<=0) || xs.isEmpty)=true)
  (h3:¬((xs.size:Int)*i>(2 ^ 63-1) / 8)) (h4:¬Builtin.Tuple.tupleTooMany ((xs.size:Int)*i)=true) (h5:((List.replicate i.toNat xs).foldl (· ++ ·) #[]).size<=sizeLine) :
  Meets (Builtin.«tuple.__mul__» ⟨[.ref l,.int i t],[]⟩) (fun _ R s=>s.heap.get? l=some {cls:=.type "tuple",dict:=dd,data:=.seq xs n,slots:=sl}/\R (.ok (.ret (.ref s.heap.objs.size))) {s with heap:=s.heap.push {cls:=.type "tuple",data:=.seq ((List.replicate i.toNat xs).foldl (· ++ ·) #[])} }):=
 .of_wp fun prog w A R s h=>by
  obtain⟨hp,g,d,tk,os⟩:=s;obtain⟨hl,h⟩:=h;have f1:=g2v;have f2:=g18
  wp_walk using p0 hl
  refine g1z (m3 h0) ?_
  wp_walk using p0 hl
  refine g1z (m3 h3) ?_
  wp_walk using p0 hl
  exact⟨_,rfl,h⟩
theorem qab(xs:Array Value): ∀(n:Nat) (acc:Array Value),((List.replicate n xs).foldl (· ++ ·) acc).toList=acc.toList++(List.replicate n xs.toList).flatten
 | 0,acc=>by simp
 | n+1,acc=>by
  rw [u9,List.foldl_cons,qab xs n (acc++xs),u9,g0h,Array.toList_append,g00]
theorem q8d(xs:List Value)(n:Nat): (List.replicate n xs.toArray).foldl (· ++ ·) #[]=(List.replicate n xs).flatten.toArray:=by
 apply Array.toList_inj.mp;rw [qab];simp
section
variable{prog:Program}{w:World}{A:Around}{E:Value->Shared->Prop}{s:Shared}
theorem qjy{t:Addr}{vs:List Value}{i:Int}{u:Tok}{Q:Value->Shared->Prop}(ht:IsTup s.heap t vs.toArray)(h0 : -(2 ^ 62)<i)(h1:i<2 ^ 62)(hz:vs.length*i.toNat<=1000000)
  (q1:(vs=[]\/i=1)->Q (.ref t) s) (q2:¬(vs=[]\/i=1)->Q (.ref s.heap.objs.size) {s with heap:=s.heap.push {cls:=.type "tuple",data:=.seq (List.replicate i.toNat vs).flatten.toArray} }) :
  wpAny (model prog w) A (binaryOp .Mult (.ref t) (.int i u)) Q E s:=by
 obtain⟨⟨cls,dd,data,sl⟩,ho,hc,n,hd⟩:=id ht;simp only at hc hd;subst hc hd;have ty:s.TypeIs (.ref t) "tuple" :=⟨_,ho,rfl⟩
 have b0:¬(decide (i < -(2 ^ 63)) || decide (i>=2 ^ 63))=true:=by
  simp only [g11,g0i,g2f]
  constructor <;> lia
 refine wpAny_binaryOp_repeat_ref (T:="tuple") (U:="int") (by decide) ty (fun s'=>typeIs_int s' i u) q7p F.fills_int_mul F.slot_int_rmul qdz F.slot_int_index.lookup
  (g1v F.slot_int_rmul (typeIs_int s i u) F.entry_int_rmul (F.args_int_rmul_2 _ _) (qi0 i u t vs.toArray n dd sl) ⟨ho,rfl,ty,?_⟩)
 have em:vs.toArray.isEmpty=true↔vs=[]:=by simp
 by_cases c1:(vs.toArray.isEmpty || i==1)=true
 ·have c1':vs=[]\/i=1:=by simpa using c1
  exact g1v g0u ty g2l (g2g _ _) (qa8 i u t vs.toArray n dd sl b0 c1) ⟨ho,q1 c1'⟩
 ·have c1':¬(vs=[]\/i=1):=by simpa using c1
  have q:=q2 c1'
  by_cases c2:(decide (i<=0) || vs.toArray.isEmpty)=true
  ·have i0:i<=0:=by
    rcases g11 _ _ ▸ c2 with z|z
    ·exact uz z
    ·exact absurd (.inl (em.mp z)) c1'
   have e:(List.replicate i.toNat vs).flatten.toArray = #[]:=by
    rw [show i.toNat=0 by lia];rfl
   rw [e] at q;exact g1v g0u ty g2l (g2g _ _) (qa9 i u t vs.toArray n dd sl b0 c1 c2) ⟨ho,q⟩
  ·have c2':0<i:=by
    have:¬i<=0:=fun z=>c2 (by rw [md z];rfl);lia
   have ei:(vs.toArray.size:Int)*i=((vs.length*i.toNat:Nat):Int):=by
    rw [Int.natCast_mul,g26 (by lia),gf]
   have el:(List.replicate i.toNat vs).flatten.length=vs.length*i.toNat:=by
    rw [List.length_flatten,List.map_replicate,g39,Nat.mul_comm]
   rw [<- q8d] at q;refine g1v g0u ty g2l (g2g _ _) (qaa i u t vs.toArray n dd sl b0 c1 c2 ?_ ?_ ?_) ⟨ho,q⟩
   ·rw [ei];lia
   ·rw [ei]
    unfold Builtin.Tuple.tupleTooMany;have:sizeLine=16777216:=g0y;rw [this,g0i];lia
   ·rw [q8d,gf,el]
    exact x9 hz
end
section
variable{X:Cx}
def qi1:D->D->Option D
 | .tup xs,.int n=>if decide (-(2 ^ 62)<n)&&decide (n<2 ^ 62)&&decide (xs.length*n.toNat<=lim) then some (.tup (List.replicate n.toNat xs).flatten) else none
 | _,_=>none
theorem qac{xs:List V}{us:List Value}(r:Vals xs us): ∀n:Nat,Vals (List.replicate n xs).flatten (List.replicate n us).flatten
 | 0=>.nil
 | n+1=>by rw [u9,u9,g0h,g0h];exact r.append (qac r n)
theorem qad{K:Frag}{H:Hp}{ds:List D}{xs:List V}(r:RepL K H ds xs): ∀n:Nat,RepL K H (List.replicate n ds).flatten (List.replicate n xs).flatten
 | 0=>.nil
 | n+1=>by rw [u9,u9,g0h,g0h];exact r.append (qad r n)
theorem qmp:OpR X (binaryOp .Mult) (rD X.K qi1):=fun pins s σ H x y v u Q I rx ry ⟨F,d1,d2,d,q1,q2,q3,q4,q5⟩=>by
 unfold qi1 at q4
 split at q4
 ·rename_i ds n
  split at q4
  ·rename_i hc
   cases q4;simp only [m6,g0i] at hc;obtain⟨⟨c1,c2⟩,c3⟩:=hc;obtain⟨p,xs,rfl,z1,z2⟩:=rep_tup.mp q2;cases rep_int.mp q3;cases rx;obtain⟨t,rfl⟩:=ry;obtain⟨its,r1,p1,hz⟩:=I.tuple (ql q1 z1);have lx:=r1.length;have ld:=z2.length;refine qjy p1 c1 c2 (by rw [<- lx, <- ld];exact c3) (fun hq=>?_) fun hq=>?_
   ·have e:(List.replicate n.toNat ds).flatten=ds:=by
     rcases hq with z|z
     ·have:ds=[]:=List.length_eq_zero_iff.mp (by rw [ld,lx,z];rfl)
      subst this;simp
     ·subst z;simp [List.replicate]
    rw [e] at q5;exact⟨.ref p,H,I,rfl,q5 _ F H (.refl q1) q2⟩
   ·have hn:H s.heap.objs.size=none:=I.hok.fresh (gp _)
    have rr:=qac r1 n.toNat;have el:(List.replicate n.toNat xs).flatten.length=ds.length*n.toNat:=by
     rw [List.length_flatten,List.map_replicate,g39,Nat.mul_comm,ld]
    refine⟨.ref s.heap.objs.size,_,I.laid (t':=s.toks) (o:=.tup (List.replicate n.toNat xs).flatten) (fun b ob q=>gc _ q) (gp _) ⟨by rw [el];exact x9 c3,_,rr,IsTup.new _ _⟩,rfl,?_⟩;have gn:=Grow.new (o:=.tup (List.replicate n.toNat xs).flatten) q1 hn;exact q5 _ _ _ gn (rep_tup.mpr ⟨_,_,rfl,SqT.of qt,(qad z2 n.toNat).mono gn.ff⟩)
  ·cases q4
 ·cases q4
def xr:D->D->Option D:=fun x y=>(oMul x y).or (qi1 x y)
theorem yq:OpR X (binaryOp .Mult) (rD X.K xr):=q69 qm4 qmp
end
section
variable{prog:Program}{w:World}{A:Around}{E:Value->Shared->Prop}{s:Shared}
theorem SI.ty{b:Bool}{h:Heap}{it l:Addr}{k:Nat}(x:SI b h it l k): it<h.objs.size:=let⟨_,ho,_⟩:=x;gh ho
theorem qe0{b:Bool}{e it l:Addr}{i:Nat}{xs:Array Value}{x old:Value}{Q:Value->Shared->Prop}(he:IsEnum s.heap e it i old)(hi:SI b s.heap it l i)(ho:SO b s.heap l xs)(hx:xs[i]? = some x)(hne:e≠it)
  (hQ:∀h',IsEnumOut h' e it ((i:Int)+1) x s.heap.objs.size->SI b h' it l (i+1)->h'.get? s.heap.objs.size=some {cls:=.type "tuple",data:=.seq #[.int i s.toks,x]}->h'.objs.size=s.heap.objs.size+1 ->
   (∀c o,c≠e->c≠it->s.heap.get? c=some o->h'.get? c=some o)->Q (.ref s.heap.objs.size) {s with heap:=h',toks:=s.toks+1}) :
  wpAny (model prog w) A (Builtin.«enumerate.__next__» ⟨[.ref e],[]⟩) (fun fin s'=>∃v,fin=.done (.ret v)/\Q v s') E s:=by
 obtain⟨hp,gg,dd,tk,os⟩:=s;show wpAny _ _ (field (.ref e) 2 >>= _) _ _ _;refine g0 (mw he rfl (x:=.ref it) rfl (g0 (q4y hi ho hx fun g1 n1 v1=>?_)));have u1:Heap.SameBut it hp g1:=v1;have e1:IsEnum g1 e it i old:=(u1.2 e hne).trans he;show wpAny _ _ (field (.ref e) 3 >>= _) _ _ ⟨g1,gg,dd,tk,os⟩;refine g0 (mw e1 rfl (x:=rawInt i) rfl ?_);show wpAny _ _ (field (.ref e) 4 >>= _) _ _ ⟨g1,gg,dd,tk,os⟩;refine g0 (mw e1 rfl (x:=.none) rfl ?_);show wpAny _ _ (mkInt i >>= _) _ _ ⟨g1,gg,dd,tk,os⟩;refine g0 (wpAny_mkInt ?_);show wpAny _ _ (setField (.ref e) 3 (rawInt ((i:Int)+1)) >>= _) _ _ ⟨g1,gg,dd,tk+1,os⟩;refine g0 (nj e1 (by simp) fun g2 y2 v2=>?_);have u2:Heap.SameBut e g1 g2:=v2;have e2:IsEnum g2 e it ((i:Int)+1) old:=y2;show wpAny _ _ (setField (.ref e) 4 .none >>= _) _ _ ⟨g2,gg,dd,tk+1,os⟩;refine g0 (nj e2 (by simp) fun g3 y3 v3=>?_);have u3:Heap.SameBut e g2 g3:=v3;have e3:IsEnum g3 e it ((i:Int)+1) old:=y3;show wpAny _ _ (newTuple [.int i tk,x] >>= _) _ _ ⟨g3,gg,dd,tk+1,os⟩;refine g0 (wpAny_newTuple ?_);have e4:IsEnum (g3.push {cls:=.type "tuple",data:=.seq #[.int i tk,x]}) e it ((i:Int)+1) old:=gc _ e3;have z3:g3.objs.size=hp.objs.size:=by rw [u3.1,u2.1,u1.1]
 have ltE:e<hp.objs.size:=gh he;have n3:SI b g3 it l (i+1):=(n1.ext u2.extBut hne.symm).ext u3.extBut hne.symm;have k3:∀c o,c≠e->c≠it->hp.get? c=some o->g3.get? c=some o:=fun c o h1 h2 q=>u3.extBut _ _ h1 (u2.extBut _ _ h1 (u1.extBut _ _ h2 q));clear v1 v2 v3 y2 y3 e1 e2 u1 u2 u3 n1;have t4:(g3.push {cls:=.type "tuple",data:=.seq #[.int i tk,x]}).get? hp.objs.size=some {cls:=.type "tuple",data:=.seq #[.int i tk,x]}:=by rw [<- z3];exact gi _ rfl
 have z4:(g3.push {cls:=.type "tuple",data:=.seq #[.int i tk,x]}).objs.size=hp.objs.size+1:=by rw [nc,z3]
 have n4:SI b (g3.push {cls:=.type "tuple",data:=.seq #[.int i tk,x]}) it l (i+1):=let⟨o,q,r⟩:=n3; ⟨o,gc _ q,r⟩
 have k4:∀c o,c≠e->c≠it->hp.get? c=some o->(g3.push {cls:=.type "tuple",data:=.seq #[.int i tk,x]}).get? c=some o:=fun c o h1 h2 q=>gc _ (k3 c o h1 h2 q);rw [z3];generalize g3.push {cls:=.type "tuple",data:=.seq #[.int i tk,x]}=g4 at e4 t4 z4 n4 k4 ⊢;show wpAny _ _ (Builtin.SmallTypes.ownedTupleIsFree (.ref e) >>= _) _ _ ⟨g4,gg,dd,tk+1,os⟩;refine g0 ?_;unfold Builtin.SmallTypes.ownedTupleIsFree;refine g0 (mw e4 rfl (x:=.none) rfl (gb ?_));simp only [pb];refine g0 (ud (g0 (mw e4 rfl (x:=old) rfl (g0 (nj e4 (by simp) fun g5 y5 v5=>?_)))));have u5:Heap.SameBut e g4 g5:=v5;have e5:IsEnum g5 e it ((i:Int)+1) x:=y5;show wpAny _ _ (Builtin.SmallTypes.ownedTupleHandOut (.ref e) (.ref hp.objs.size) >>= _) _ _ ⟨g5,gg,dd,tk+1,os⟩;refine g0 ?_;unfold Builtin.SmallTypes.ownedTupleHandOut;refine g0 (nj e5 (by simp) fun g6 y6 v6=>?_);have u6:Heap.SameBut e g5 g6:=v6;have e6:IsEnumOut g6 e it ((i:Int)+1) x hp.objs.size:=y6;refine nj e6 (by simp) fun g7 y7 v7=>?_;have u7:Heap.SameBut e g6 g7:=v7;have e7:IsEnumOut g7 e it ((i:Int)+1) x hp.objs.size:=y7;have up:∀ {c o},c≠e->g4.get? c=some o->g7.get? c=some o:=fun {c o} h q=>u7.extBut _ _ h (u6.extBut _ _ h (u5.extBut _ _ h q));refine g0 (g38 (gb ⟨_,rfl,hQ g7 e7 ?_ (up (nk ltE) t4) ?_ fun c o h1 h2 q=>up h1 (k4 c o h1 h2 q)⟩))
 ·obtain⟨o,q,r⟩:=n4
  exact⟨o,up hne.symm q,r⟩
 ·rw [u7.1,u6.1,u5.1,z4]
theorem qae{b:Bool}{e it l:Addr}{i:Nat}{xs:Array Value}{x old:Value}{Q:Option Value->Shared->Prop}(he:IsEnum s.heap e it i old)(hi:SI b s.heap it l i)(ho:SO b s.heap l xs)(hx:xs[i]? = some x)(hne:e≠it)
  (hQ:∀h',IsEnumOut h' e it ((i:Int)+1) x s.heap.objs.size->SI b h' it l (i+1)->h'.get? s.heap.objs.size=some {cls:=.type "tuple",data:=.seq #[.int i s.toks,x]}->h'.objs.size=s.heap.objs.size+1 ->
   (∀c o,c≠e->c≠it->s.heap.get? c=some o->h'.get? c=some o)->Q (some (.ref s.heap.objs.size)) {s with heap:=h',toks:=s.toks+1}):wpAny (model prog w) A (pyNext (.ref e)) Q E s:=by
 have ty:s.TypeIs (.ref e) "enumerate" :=⟨_,he,rfl⟩
 unfold pyNext;exact g0 (ur (mx (name:=Str.ofString "__next__") ty g0m (mm g0m ty F.entry_enumerate_next
  (qe0 he hi ho hx hne fun h' c1 c2 c3 c4 c5=>gb (hQ h' c1 c2 c3 c4 c5)) (F.args_enumerate_next_1 _))))
theorem q6k{b:Bool}{e it l:Addr}{i:Nat}{xs:Array Value}{old:Value}{Q:Option Value->Shared->Prop}(hh:A.handled=none)(he:IsEnum s.heap e it i old)(hi:SI b s.heap it l i)(ho:SO b s.heap l xs)(hx:xs[i]? = none)
  (hQ:∀h',Heap.ExtBut it s.heap h'->Q none {s with heap:=h'}):wpAny (model prog w) A (pyNext (.ref e)) Q E s:=by
 have ty:s.TypeIs (.ref e) "enumerate" :=⟨_,he,rfl⟩
 unfold pyNext;refine g0 (ur (mx (name:=Str.ofString "__next__") ty g0m (mm g0m ty F.entry_enumerate_next ?_ (F.args_enumerate_next_1 _))));show wpAny _ _ (field (.ref e) 2 >>= _) _ _ _;refine g0 (mw he rfl (x:=.ref it) rfl (g0 (q7l hh hi ho hx fun h' y k1 ⟨o,y1,y2⟩=>?_)));exact g0 (g04 (T:="StopIteration") (b:=true) ⟨o,y1,y2⟩ isSubtype_stop (gb (hQ _ k1)))
end
theorem qbs(b:Bool)(l:Addr)(xs:Array Value):
  Meets (Builtin.«enumerate.__new__» ⟨[.type "enumerate",.ref l],[]⟩) (fun _ R s=>SO b s.heap l xs/\R (.ok (.ret (.ref (zh1 b s.heap l).objs.size))) {s with heap:=(zh1 b s.heap l).push {cls:=.type "enumerate",data:=.fields #[.none,.bool false,.ref s.heap.objs.size,rawInt 0,.none,.none]} }):=
 .of_wp fun prog w A R s h=>by
  obtain⟨hp,gg,dd,tk,os⟩:=s;obtain⟨ha,h⟩:=h;have hsub:=sub_enumerate;have f1:SO b (Shared.heap ⟨hp,gg,dd,tk,os⟩) l xs:=ha
  wp_walk using q0h f1
  refine wpAny_stack_any fun st=>gb ?_
  split
  ·rename_i c _ _ _ _ _
   cases(c==Value.type "enumerate") <;> (wp_walk using q0h f1;exact⟨_,rfl,h⟩)
  ·wp_walk using q0h f1
   exact⟨_,rfl,h⟩
def Itn(K:Frag)(b:Bool)(a:Addr): It:=
 ⟨fun i H=>∃xs x,Sq b K H a xs/\xs[i]? = some x,
  fun i H v H'=>∃p x,H p=none/\(∀xs,Sq b K H a xs->xs[i]? = some x)/\v=.ref p/\H'=upd H p (.tup [.int i,x]),
  fun i H=>∃xs,Sq b K H a xs/\xs.length<=i⟩
theorem qfw{P:Program}{w:World}{K:Frag}{elts:List Expr}{x1}{tp:Pos}{b:Bool}{a e it:Addr}(hne:e≠it):
  Turn P w K (.Tuple elts x1 tp) (Itn K b a) [e,it] e (fun i h=>(∃old,IsEnum h e it (i:Int) old)/\SI b h it a i) where
 mem:=by simp
 obj:=fun i h ⟨⟨old,c1⟩,⟨o4,c4,_,d4⟩⟩ c hc=>by
  simp only [gm,mq,p9] at hc;rcases hc with rfl|rfl
  ·exact⟨_,c1,fun v z=>by cases z⟩
  ·exact⟨_,c4,fun v z=>by rw [d4] at z;cases z⟩
 keep:=fun i h h' ⟨⟨old,c1⟩,c4⟩ k=>⟨⟨old,k _ (by simp) _ c1⟩,c4.keep fun o e=>k _ (by simp) o e⟩
 item:=by
  intro X hP hw hK hc i pins s σ H E I hf st hg;subst hP hw hK;obtain⟨xs,x,q1,hx⟩:=hg;obtain⟨its,v1,o1⟩:=q0z I q1;obtain⟨u1,hu1,ru1⟩:=v1.get hx;obtain⟨⟨old,c1⟩,c4⟩:=st;refine qae c1 c4 o1 (x:=u1) (by simpa using hu1) hne fun g n1 n2 n3 n4 n5=>?_;refine⟨_,rfl,wpAny_letOwnedTupleGo_enum n1 fun g2 m1 sb=>?_⟩;have hsz:e<s.heap.objs.size:=gh c1;have hiz:it<s.heap.objs.size:=c4.ty;have kp:∀c o,c∉[e,it]->s.heap.get? c=some o->g2.get? c=some o:=fun c o hc q=>by
   simp only [gm,mq,p9,g2f] at hc;exact sb.extBut _ _ hc.1 (n5 c o hc.1 hc.2 q)
  have I1:Inv X pins σ H {s with heap:=g2,toks:=s.toks+1}:=q4z (t':=s.toks+1) I hf kp;have fp:kc X pins H s.heap.objs.size:=I.fpOk (gp _) I.fresh;have hT:g2.get? s.heap.objs.size=some {cls:=.type "tuple",data:=.seq #[.int i s.toks,u1]}:=sb.extBut _ _ (nk hsz) n3;have I2:Inv X pins σ (upd H s.heap.objs.size (.tup [.int i,x])) {s with heap:=g2,toks:=s.toks+1}:=
   adopt I1 fp ⟨by show 2<=sizeLine;decide,[.int i s.toks,u1],.cons ⟨_,rfl⟩ (.cons ru1 .nil),⟨_,hT,rfl,_,rfl⟩⟩
  refine⟨.ref s.heap.objs.size,_,I2,rfl,⟨_,x,I.fresh,fun ws h=>?_,rfl,rfl⟩,⟨⟨u1,?_⟩,n2.ext sb.extBut hne.symm⟩,fun c hc=>?_⟩
  ·rw [qa4 I h q1];exact hx
  ·exact m1
  ·have hb0:=(hf c hc).1
   have:c≠s.heap.objs.size:=by
    simp only [gm,mq,p9] at hc;rcases hc with rfl|rfl
    ·exact gr hsz
    ·exact gr hiz
   rw [qk this];exact hb0
 done:=by
  intro X hP hw hK hc i pins s σ H E I hf st hg;subst hP hw hK;obtain⟨xs,q1,hend⟩:=hg;obtain⟨its,v1,o1⟩:=q0z I q1;obtain⟨⟨old,c1⟩,c4⟩:=st;refine q6k (I.ok.hd hc) c1 c4 o1 ?_ fun g n5=>⟨rfl,q4z (t':=s.toks) I hf fun c o hc q=>?_⟩
  ·have l1:=v1.length
   simp;omega
  ·simp only [gm,mq,p9,g2f] at hc
   exact n5 c o hc.2 q
 self:=fun A i s Q E st h=>let⟨⟨_,c1⟩,_⟩:=st;wpAny_pyIter_enum c1 h
def q20(ds:List D): List D:=xx (qz 0 ds.length) ds
theorem qfx{ds:List D}{i:Nat}{d:D}(h:(q20 ds)[i]? = some d): ∃x,ds[i]? = some x/\d=.tup [.int i,x]:=by
 unfold q20 xx qz at h;rw [g3e,gy] at h;cases z2:ds[i]? with
 | none=>rw [z2] at h;simp at h
 | some x=>
  have hi:i<ds.length:=(ma.mp z2).1;rw [z2,List.getElem?_range hi] at h;cases h;exact⟨x,rfl,by simp⟩
theorem q8e(ds:List D): (q20 ds).length=ds.length:=by
 unfold q20 xx qz;simp
theorem qi2{K:Frag}{F:Hp}{b:Bool}{a:Addr}{xs:List V}{ds:List D}(h1:Sq b K F a xs)(r1:RepL K F ds xs): ItD K F (q20 ds) (Itn K b a) where
 go:=fun i F' H s1 s2 hi=>by
  rw [q8e] at hi;exact⟨xs,xs[i]'(by rw [<- r1.length];exact hi),xm (s1.trans s2) h1,by simp⟩
 yld:=fun i d F' H x H' s1 s2 hi ⟨p,x1,hp,q1,e1,e2⟩=>by
  subst e1 e2;obtain⟨d1,z1,rfl⟩:=qfx hi;obtain⟨v1,k1,k2⟩:=r1.get z1;have w1:=q1 xs (xm (s1.trans s2) h1);rw [k1] at w1;cases w1;have gn:Grow F' H (upd F' p (.tup [.int i,x1])) (upd H p (.tup [.int i,x1])):=Grow.new s2 hp;exact⟨_,gn,rep_tup.mpr ⟨p,_,rfl,SqT.of qt,.cons (rep_int.mpr rfl) (.cons ((k2.mono s1).mono gn.ff) .nil)⟩⟩
 stop:=fun i F' H s1 s2 hi=>by
  rw [q8e] at hi;exact⟨xs,xm (s1.trans s2) h1,by rw [<- r1.length];exact hi⟩
section
variable{X:Cx}{pos:Pos}{elts:List Expr}{x1:Nat}{tp:Pos}
theorem qe1:bootBuiltins "enumerate" = some (.type "enumerate"):=by decide +kernel
theorem qjz{a:Expr}{ta:TA}{p:Pos}(hg:Gl X "enumerate")(hm:X.mg "enumerate" = none)(ha:PA X [a] ta)(hs:starEach [a] X.env=[(false,eval a X.env)]:=by first|exact q4x rfl|rfl):
  PI X (.Tuple elts x1 tp) (.Call (.Name "enumerate" p) [a] [] pos) (fun σ H R=>ta σ H fun vs H1=>∃b a xs,vs=[.ref a]/\Sq b X.K H1 a xs/\R (Itn X.K b a) H1):=by
 intro pins s σ H R I h;refine Call_ (q17 I hg hm qe1 (pz (thn (ha pos pins s σ H _ I h) fun us s1 ⟨vs,H1,I1,r1,q1⟩=>?_) (by rw [hs];rfl) (by rfl)));obtain⟨b1,a1,xs,rfl,k1,q⟩:=q1;obtain⟨u1,rfl,e1⟩:=vals1 r1;cases e1;obtain⟨its1,v1,o1⟩:=q0z I1 k1;refine callType_new F.called_enumerate (by decide) (F.typeCall_enumerate_1 _) (F.newCall_enumerate_1 _) (fun obj=>F.args_object_init_2 obj _) F.entry_enumerate_new (qbs b1 a1 its1.toArray) ⟨o1,?_⟩;have z1:(zh1 b1 s1.heap a1).objs.size=s1.heap.objs.size+1:=nc ..;generalize eh:(zh1 b1 s1.heap a1).push {cls:=.type "enumerate",data:=.fields #[.none,.bool false,.ref s1.heap.objs.size,rawInt 0,.none,.none]}=h2;have g2:IsEnum h2 (zh1 b1 s1.heap a1).objs.size s1.heap.objs.size 0 .none:=by rw [<- eh];exact gi _ rfl
 have g1:h2.get? s1.heap.objs.size=some {cls:=.type (itN b1),data:=.fields #[.ref a1,.int 0 0]}:=by rw [<- eh];exact gc _ (gi _ rfl)
 have kp:∀c o,s1.heap.get? c=some o->h2.get? c=some o:=fun c o e=>by rw [<- eh];exact gc _ (gc _ e)
 have I2:Inv X pins σ H1 {s1 with heap:=h2}:=I1.kept (t':=s1.toks) kp;refine⟨⟨_,g2,rfl⟩,wpAny_pyIter_enum g2 ?_⟩;refine⟨_,_,_,_,H1,rfl,I2,qfw (b:=b1) (a:=a1) (e:=(zh1 b1 s1.heap a1).objs.size) (it:=s1.heap.objs.size) (nk (by rw [z1];exact t9 _)),⟨⟨_,g2⟩,⟨_,g1,rfl,rfl⟩⟩,fun c hc=>?_,q⟩;have hge:s1.heap.objs.size<=c:=by
  simp only [gm,mq,p9] at hc;rcases hc with rfl|rfl <;> omega
 exact I1.fpOk hge (I1.hok.fresh hge)
def q9e(f:FE): FA:=fun ρ =>(f ρ).bind fun d=>(q3y d).map q20
theorem qk0{a:Expr}{f:FE}{p:Pos}(hg:Gl X "enumerate")(hm:X.mg "enumerate" = none)(ha:PE X a (tD X.K f))(hs:starEach [a] X.env=[(false,eval a X.env)]:=by first|exact q4x rfl|rfl):
  PI X (.Tuple elts x1 tp) (.Call (.Name "enumerate" p) [a] [] pos) (tDI X.K (q9e f)):=q3v (qjz hg hm (qcr (hs:=by rw [hs];rfl) ha qe) hs) fun σ H R ⟨F0,H0,F, ρ,ds,r,hf,q⟩=>by
 obtain⟨d,h1,h2⟩:=g9.mp hf;obtain⟨es,h3,h4⟩:=gq.mp h2;subst h4;refine⟨F0,H0,F, ρ,[d],r,by simp only [qc,qf,h1,mf,p6],fun vs F' H' g' r'=>?_⟩;obtain⟨v1,t,rfl,e1,e2⟩:=r'.cons_inv;cases e2.nil_inv;obtain⟨b1,a1,us,rfl,s1,l1⟩:=q7m h3 e1;exact⟨b1,a1,us,rfl,xm g'.fh s1,q _ F' H' g' (qi2 s1 l1)⟩
end
section
variable{X:Cx}{st:Stmt}
def q2n:FS:=fun _=>none
theorem qaf:PS X st (tDS X.K q2n):=fun pins s σ H D I ⟨F0,H0,F, ρ,fl, ρ',r,hf,q⟩=>by cases hf
abbrev oBand:=oI (fun _ _=>true) fun i j=>Builtin.bitAnd i j
theorem qk1:OpR X (binaryOp .BitAnd) (rD X.K oBand):=q9s qlr
theorem q42:∀ {l m:List Int},l.Perm m->l.Pairwise (· <= ·)->m.Pairwise (· <= ·)->l=m
 | [],m,p,_,_=>(p.nil_eq).symm ▸ rfl
 | x :: l,[],p,_,_=>by cases p.length_eq
 | x :: l,y :: m,p,.cons h1 h2,.cons k1 k2=>by
  have e:x=y:=by
   have hx:x∈y :: m:=p.mem_iff.mp gv;have hy:y∈x :: l:=p.mem_iff.mpr gv;rcases gm.mp hx with e|hx
   ·exact e
   ·rcases gm.mp hy with e|hy
    ·exact e.symm
    ·exact Int.le_antisymm (h1 y hy) (k1 x hx)
  subst e;rw [q42 (List.perm_cons _ |>.mp p) h2 k2]
theorem q0d:∀ {us:List Value} {ns:List Int},IntsAre us ns->Vals (ns.map V.int) us
 | _,_,.nil=>.nil
 | _,_,.cons n t h=>.cons ⟨t,rfl⟩ (q0d h)
theorem boot_sorted:bootBuiltins "sorted" = some (.builtin "sorted"):=by decide +kernel
end
end DL
namespace Srt
end Srt
namespace DL
open PySem PySem.Spec PyProof.Rows L2 Srt PySem.W
variable[Lam]
structure ClsOk(K:Frag)(x:Str)(C:Addr): Prop where
 ns:PySem.W.nsIn K mainGlobals x=some (some (.ref C))
 makes:PySem.W.makesIn K C=true
 init:PySem.W.findIn K (.ref C) "__init__" = some (some (.builtin "object.__init__"))
 kp:PySem.W.keepIn K (.ref C)=true
 cls:Cls K C
 n:qhm K C
structure CalM(P:Program)(w:World)(K:Frag)(mg:Str->Option Value)(base:Heap)(x m:Str)(C:Addr)(k:Nat)(ps:List Str)(ar:Nat)(op:List D->Option D)(fn:Addr)(fd:FuncData): Prop where
 ok:FnOk P w K mg base CX0 k fn fd ps (spD K ar op)
 me:Meth K C m fn
theorem qfy{K:Frag}{C:Addr}{T:String}(hm:PySem.W.kitMeta T=true)(h:PySem.W.subIn K (.ref C) (.type T)=some false): PySem.W.kitOne K (.ref C) (.type T)=some false:=by
 unfold PySem.W.kitOne PySem.W.kitCls;rw [m4 (fun z=>by have:=eq_of_beq z;cases this)];dsimp only;rw [gz hm];exact h
theorem qk2{K:Frag}{C:Addr}(h1:PySem.W.subIn K (.ref C) (.type "int")=some false)(h2:PySem.W.subIn K (.ref C) (.type "bool")=some false)(h3:PySem.W.subIn K (.ref C) (.type "tuple")=some false)
  (h4:PySem.W.subIn K (.ref C) (.type "list")=some false) (h5:PySem.W.subIn K (.ref C) (.type "str")=some false) (h6:PySem.W.subIn K (.ref C) (.type "dict")=some false) :
  ∀T:String,T∈["int","bool","tuple","list","str","dict"]->PySem.W.kitOne K (.ref C) (.type T)=some false:=by
 intro T hT;simp only [gm,mq,p9] at hT;rcases hT with rfl|rfl|rfl|rfl|rfl|rfl <;> exact qfy (by decide +kernel) (by assumption)
section
variable{X:Cx}{pins:List (Addr×Obj)}{σ : St}{F H:Hp}{s:Shared}
theorem qfz{C:Addr}{Q:VK}(makes:PySem.W.makesIn X.K C=true)(init:PySem.W.findIn X.K (.ref C) "__init__" = some (some (.builtin "object.__init__")))(I:Inv X pins σ H s)
  (h:Q (.ref (s.heap.objs.size+1)) (upd (upd H s.heap.objs.size (.own (s.heap.objs.size+1))) (s.heap.objs.size+1) (.ins C s.heap.objs.size []))):wpAny (model X.prog X.w) X.A (call (.ref C) []) (EP X pins σ Q) X.xe s:=by
 have I2:=Inv.made (C:=C) I;have kin:=I.kIn;obtain⟨hh,g,d,t,os⟩:=s;have Y:=makes_of (M:=model X.prog X.w) kin makes;refine g1u (make_core Y (looks_findIn kin init) (fun self=>Looks.of_pure (oi_bind self)) (.inr ⟨rfl,rfl⟩) ?_);have hx:((hh.push emptyDict).push (instObj C hh.objs.size)).get? (hh.objs.size+1)=some (instObj C hh.objs.size):=by
  have:hh.objs.size+1=(hh.push emptyDict).objs.size:=(size_push' _ _).symm;rw [this];exact gi _ rfl
 have t1:Looks (model X.prog X.w) ((hh.push emptyDict).push (instObj C hh.objs.size)) (typeOf (.ref (hh.objs.size+1))) (.ref C):=(Looks.ld hx).andThen .now;have t2:Looks (model X.prog X.w) ((hh.push emptyDict).push (instObj C hh.objs.size)) (isInstance (.ref (hh.objs.size+1)) (.type "object")) true:=t1.andThen (Y.top.keeps fun b o e=>gc _ (gc _ e));refine g0t oi_plain entry_oi (@check_slot (model X.prog X.w) _ _ _ "object.__init__" "object" "__init__" (.ref (hh.objs.size+1)) [] [] _ oi_kind oi_split t2 (oi_args (.ref (hh.objs.size+1))) ?_);rw [oi_run];exact gb (And.intro rfl ⟨V.ref (hh.objs.size+1),_,I2,rfl,h⟩)
theorem qag{x:Str}{C:Addr}{p pos:Pos}(O:ClsOk X.K x C)(hm:X.mg x=some (.ref C))(hg:Gl X x)(hdb:(x==("__debug__" : Str))=false:=by decide): PE X (.Call (.Name x p) [] [] pos) (tD X.K (eC (.obj x))):=by
 intro pins s σ H Q I h;obtain⟨F0,H0,F, ρ,d,r,hf,q⟩:=h;cases hf;refine g08 (q12 I hg hm ?_ hdb);refine PySem.W.callWith_K0 I.kIn O.kp (qfz O.makes O.init I ?_);have n0:H s.heap.objs.size=none:=I.hok.fresh (gp _);have n1:H (s.heap.objs.size+1)=none:=I.hok.fresh (g37 _);have fh:=r.fh;have g1:Grow F H F (upd H s.heap.objs.size (.own (s.heap.objs.size+1))):=Grow.own fh n0;have n1':upd H s.heap.objs.size (.own (s.heap.objs.size+1)) (s.heap.objs.size+1)=none:=by rw [qk (nk (t9 _))];exact n1
 have g2:=Grow.new (o:=.ins C s.heap.objs.size []) g1.fh n1';exact q _ _ _ (g1.trans g2) (rep_obj.mpr ⟨s.heap.objs.size+1,s.heap.objs.size,C,rfl,qt,O.ns,O.n⟩)
def isO(x:Str): D->Bool
 | .obj y=>x==y
 | _=>false
def q7q(x:Str)(ar:Nat)(op:List D->Option D)(g:FE)(fa:FA): FE:=fun ρ =>(g ρ).bind fun d=>(fa ρ).bind fun ds=>if isO x d then qp ar [] op (d :: ds) else none
theorem qah{x m:Str}{C:Addr}{o e:Expr}{es:List Expr}{apos pos:Pos}{k k' ar:Nat}{fn:Addr}{fd:FuncData}{ps:List Str}{op:List D->Option D}{g:FE}{fa:FA}{pl:Sem Bool}(O:ClsOk X.K x C)
  (M:CalM X.prog X.w X.K X.mg X.base x m C k ps ar op fn fd) (b:Binds X.K fd ps []) (hr:Room k' X.A) (hk:k<=k') (ho:PE X o (tD X.K g)) (ha:PA X (e :: es) (tDA X.K fa))
  (hst:starEach (e :: es) X.env=(false,eval e X.env) :: starEach es X.env:=by rfl) (hpl:(backTo pos (starEach es X.env)).any (·.1)=false:=by rfl)
  (ht:eval (.Call (.Attribute o m apos) (e :: es) [] pos) X.env=(do
   let ov <- eval o X.env
   standAt apos.atName
   let(f,first) <- holding [ov] (getMethod ov m pl)
   callWith pos f first (backTo pos (starEach (e :: es) X.env)) (backToKw pos (keywordEach [] X.env))):=by rfl) :
  PE X (.Call (.Attribute o m apos) (e :: es) [] pos) (tD X.K (q7q x ar op g fa)):=
 za (qcm (pl:=pl) ho O.cls M.me M.ok (hr.mono hk) b .nil qdo ha hst hpl ht) fun σ H Q ⟨F0,H0,F, ρ,d,r,hf,q⟩=>by
  obtain⟨d1,h1,hf⟩:=g9.mp hf;obtain⟨ds,h2,hf⟩:=g9.mp hf
  split at hf
  ·rename_i hi
   obtain rfl:d1=.obj x:=by
    cases d1 <;> simp only [isO] at hi <;> first|(cases hi;done)|skip
    rw [(by simpa using hi:x=_)]
   refine⟨F0,H0,F, ρ,.obj x,r,h1,fun v F1 H1 g1 r1=>?_⟩;obtain⟨a,dx,C',rfl,e1,e2,e3⟩:=rep_obj.mp r1;have hC:C'=C:=by
    have:=e2.symm.trans O.ns;cases this;rfl
   subst hC;refine⟨a,dx,[],rfl,g1.fh _ _ e1,rfl,F0,H0,F1, ρ,ds,r.grow g1,h2,fun vs F2 H2 g2 r2=>?_⟩;unfold qp at hf
   split at hf
   ·rename_i hl
    refine⟨F2,(.obj x :: ds)++[],d,r.sameT (g1.trans g2),(RepL.cons (r1.mono g2.ff) r2).append .nil,hl,hf,fun v F3 H3 g3 r3=>q v F3 H3 (g1.trans (g2.trans g3)) r3⟩
   ·cases hf
  ·cases hf
end
end DL
namespace DL
open PySem PySem.Spec PyProof.Rows L2
variable[Lam]
section
variable{X:Cx}{pins:List (Addr×Obj)}{σ : St}{F H:Hp}{s:Shared}
theorem q6l(I:Inv X pins σ H s)(fh:Same F H)(A:Around): ∀ {ds es:List D} {xs ys:List V} {us vs:List Value},vx ds es=true->A.units+yl ds<cLine->RepL X.K F ds xs->RepL X.K F es ys->Vals xs us->Vals ys vs ->
   ∀j (h1:j<us.length) (h2:j<vs.length),SeqAt.EqAt A s us[j] vs[j] (eqJ ds es j)
 | [],es,xs,ys,us,vs,_,_,k1,_,w1,_,j,h1,_=>by
  cases k1.nil_inv;cases w1;exact absurd h1 (tq _)
 | d :: ds,es,xs,ys,us,vs,ho,hd,k1,k2,w1,w2,j,h1,h2=>by
  obtain⟨x,r,rfl,a1,a2⟩:=k1.cons_inv;cases w1 with
  | cons p1 p2=>
   cases es with
   | nil=>cases k2.nil_inv;cases w2;exact absurd h2 (tq _)
   | cons e es=>
    obtain⟨y,r',rfl,b1,b2⟩:=k2.cons_inv;cases w2 with
    | cons p3 p4=>
     simp only [vx,m6] at ho;simp only [yl] at hd;cases j with
     | zero=>
      have e0:eqJ (d :: ds) (e :: es) 0=eqD d e:=by simp [eqJ]
      rw [e0];exact qfs I fh A ho.1 (by lia) a1 b1 p1 p3
     | succ j=>
      have e0:eqJ (d :: ds) (e :: es) (j+1)=eqJ ds es j:=by simp [eqJ]
      rw [e0];exact q6l I fh A ho.2 (by lia) a2 b2 p2 p4 j (by simpa using h1) (by simpa using h2)
def qi3:D->D->Option D
 | .tup ds,.tup es=>if vx ds es&&decide (yl ds<=60) then some (.bl (!eqL ds es)) else none
 | _,_=>none
theorem qmq(hu:X.A.units+64<cLine): OpR X (compareOp .NotEq) (rD X.K qi3):=by
 intro pins s σ H x y v u Q I rx ry h;obtain⟨F,d1,d2,d,fh,r1,r2,ho,q⟩:=h;unfold qi3 at ho
 split at ho
 ·rename_i ds es
  split at ho
  ·rename_i hc
   cases ho;rw [m6] at hc;obtain⟨a,xs,rfl,k1,k2⟩:=rep_tup.mp r1;obtain⟨b,ys,rfl,k3,k4⟩:=rep_tup.mp r2;cases rx;cases ry;obtain⟨i1,v1,t1,_⟩:=I.tuple (ql fh k1);obtain⟨i2,v2,t2,_⟩:=I.tuple (ql fh k3);have hq:=q6l I fh X.A.in1 hc.1 (by have:=uz hc.2;show X.A.units+1+yl ds<cLine;lia) k2 k4 v1 v2;have:=SeqAt.RcNeAt.tuples (A:=X.A) (e:=eqJ ds es) (show s.heap.IsTuple a i1.toArray from t1) (show s.heap.IsTuple b i2.toArray from t2) (by lia) (fun j h1 h2=>by simpa using hq j (by simpa using h1) (by simpa using h2));simp only [gf, <- v1.length, <- v2.length, <- k2.length, <- k4.length,vp] at this;exact this X.prog X.w _ _ ⟨.bl _,H,I,rfl,q _ F H (.refl fh) (rep_bl.mpr rfl)⟩
  ·cases ho
 ·cases ho
abbrev qi4:D->D->Option D:=fun x y=>(q27 x y).or (qi3 x y)
theorem qmr(hu:X.A.units+64<cLine): OpR X (compareOp .NotEq) (rD X.K qi4):=q69 q6c (qmq hu)
end
end DL
namespace Srt
end Srt
namespace DL
open PySem PySem.Spec PyProof.Rows L2 Srt PySem.W
variable[Lam]
set_option maxRecDepth 8000 in
omit [Lam] in
theorem qi5(l:Addr)(items:Array Value)(n:Nat)(b:Addr)(items2:Array Value)(n2:Nat)(sl:Array (Option Value))(hc0:¬(!items.isEmpty&&Builtin.List.listTooLong (items.size+items2.size))=true)(hc1:items.size<=sizeLine)(hs2:items.size+items2.size<=sizeLine+1):
  Meets (Builtin.«list.extend» ⟨[.ref l,.ref b],[]⟩) (fun _ R s=>s.heap.get? l=some {cls:=.type "list",dict:=none,data:=.seq items n,slots:= #[]}/\s.heap.get? b=some {cls:=.type "list",dict:=none,data:=.seq items2 n2,slots:=sl} /\
   R (.ok (.ret Value.none)) {s with heap:=s.heap.update l (Obj.mapSeq fun x=>x++items2),toks:=s.toks}):=
 .of_wp fun prog w A R s h=>by
  obtain⟨hp,g,d,tk,os⟩:=s;obtain⟨hl,hb,h⟩:=h;have hz':(items++items2).size<=sizeLine+1:=by rw [Array.size_append];exact hs2
  have f3:=sub_list_list
  wp_walk using(g34 hl rfl (hz:=hc1) (_hz':=hz')),g32 hl,g32 hb
  exact⟨_,rfl,h⟩
section
variable{X:Cx}
omit [Lam] in
theorem qk3:MtM X "list.extend" (fun x vs H Q=>∃l b xs zs,x=.ref l/\vs=[.ref b]/\H l=some (.lst xs)/\SqL X.K H b zs/\xs.length+zs.length<=sizeLine/\Q .non (upd H l (.lst (xs++zs)))):=by
 intro pins s σ H x vs v us Q I rx rv h;obtain⟨l,b,xs,zs,rfl,rfl,hH,hB,hz,q⟩:=h;cases rx;obtain⟨u,rfl,ru⟩:=rv.one;cases ru;obtain⟨z,its,n,r,hl,e⟩:=I.lstM hH;obtain⟨its2,r2,⟨o,n2,e2,c1,c2,c3⟩,hl2⟩:=I.list hB;obtain⟨oc,od,oda,osl⟩:=o;dsimp only at c1 c2 c3;subst c1 c2 c3;have hl1:=r.length;have hl3:=r2.length;have hsz:its.toArray.size+its2.toArray.size<=sizeLine:=by rw [gf,gf];lia
 have hlong:¬(!its.toArray.isEmpty&&Builtin.List.listTooLong (its.toArray.size+its2.toArray.size))=true:=by
  rw [qhb hsz,ua];exact gj
 refine g1v F.slot_list_extend ⟨_,e,rfl⟩ F.entry_list_extend (F.args_list_extend_2 _ _)
  (qi5 l its.toArray n b its2.toArray n2 osl hlong (by rw [gf];lia) (by lia)) ⟨e,e2,?_⟩
 refine⟨.non,_,I.lset (its':=its++its2) hH e (by simp) (r.append r2) ?_,rfl,q⟩;rw [m8];lia
def qi6(i:Nat)(f:FE): FS:=fun ρ =>(q5m i ρ).bind fun ds=>(f ρ).bind fun d=>match d with
 | .lst es=>if ds.length+es.length<=lim then some (.nx, ρ.set i (some (.ow (ds++es)))) else none
 | _=>none
theorem qms{i:Nat}{x:Str}{e:Expr}{f:FE}{px apos cpos pos:Pos}(hv:PE X (.Name x px) (q9i i))(he:PE X e (tD X.K f))
  (hbase:attributeBase (.Name x px) "extend" X.env (eval (.Name x px) X.env)=eval (.Name x px) X.env:=by rfl)
  (hfew:((backTo cpos (starEach [e] X.env)).all (fun x=> !x.1)&&(backToKw cpos (keywordEach [] X.env)).all (fun x=>x.1.isSome)&&decide ([e].length+([]:List Keyword).length+(if([]:List Keyword).isEmpty then 0 else 1)<30))=true:=by rfl)
  (hline:(apos.endLine==cpos.line)=true:=by rfl) (hse:starEach [e] X.env=(false,eval e X.env) :: starEach [] X.env:=by rfl)
  (hs:swapsWith (.Call (.Attribute (.Name x px) "extend" apos) [e] [] cpos) none pos.line X.env=pure false:=by rfl):PS X (.Expr (.Call (.Attribute (.Name x px) "extend" apos) [e] [] cpos) pos) (tDS X.K (qi6 i f)):=
 jq (q4t (qj3 g2z PySem.F.slot_list_extend PySem.F.type_list_extend qk3 hv (ze he y0 hse) hbase hfew hline hse rfl) hs) fun D σ H ⟨F0,H0,F, ρ,fl, ρ',r,hf,q⟩=>by
  obtain⟨ds,h1,hf⟩:=g9.mp hf;obtain⟨d,h2,h3⟩:=g9.mp hf;have h1:=q88 h1;cases d <;> simp only at h3 <;> first|(cases h3;done)|skip
  rename_i es
  split at h3
  ·rename_i hl
   cases h3;obtain⟨a,xs,e1,e2,e3,e4,e5⟩:=r.ow i ds h1;refine⟨.ref a,e1,.inl ⟨rfl,xs,SqL.of e2⟩,F0,H0,F, ρ,_,r,h2,fun v F' H' g' r'=>?_⟩;have r2:=r.grow g';obtain⟨b,zs,rfl,k1,k2⟩:=rep_lst.mp r';refine⟨a,b,xs,zs,rfl,rfl,g'.hh.lst _ _ e2,g'.fh.seq k1,my (by rw [<- e5.length, <- k2.length];exact hl) (by decide),?_⟩;exact q _ F' _ g'.ff (r2.wrt h1 e1 ((e5.mono g'.ff).append k2))
  ·cases h3
end
end DL
namespace Js
open PySem
theorem qe2(A B:List Nat)(j:Nat)(hA:∀x∈A,x<j)(hB:∀x∈B,j<=x): ∀fuel lo hi,lo<=A.length->A.length<=hi->hi<=A.length+B.length->hi-lo<=fuel ->
  SetTable.below.go (A++B).toArray j fuel lo hi=A.length
 | 0,lo,hi,h1,h2,_,h3=>by unfold SetTable.below.go;lia
 | fuel+1,lo,hi,h1,h2,h4,h3=>by
  unfold SetTable.below.go
  by_cases c:lo<hi
  ·rw [gz c]
   show(if(A++B).toArray.getD ((lo+hi) / 2) j<j then _ else _)=_;have hm:(lo+hi) / 2<hi:=by lia
   have hm2:lo<=(lo+hi) / 2:=by lia
   by_cases d:(lo+hi) / 2<A.length
   ·have e:(A++B).toArray.getD ((lo+hi) / 2) j=A[(lo+hi) / 2]:=by
     simp [Array.getD,List.getElem_append_left d];lia
    rw [e,gz (hA _ (g2w d))];exact qe2 A B j hA hB fuel _ _ (by lia) h2 h4 (by lia)
   ·have hb:(lo+hi) / 2-A.length<B.length:=by lia
    have e:(A++B).toArray.getD ((lo+hi) / 2) j=B[(lo+hi) / 2-A.length]:=by
     have hlt:(lo+hi) / 2<A.length+B.length:=by lia
     simp [Array.getD,List.getElem_append_right (Nat.le_of_not_lt d),hlt]
    rw [e,m4 (Nat.not_lt.mpr (hB _ (g2w hb)))];exact qe2 A B j hA hB fuel _ _ h1 (by lia) (by lia) (by lia)
  ·rw [m4 c];lia
theorem below_at{A B:List Nat}{j:Nat}(hA:∀x∈A,x<j)(hB:∀x∈B,j<=x): SetTable.below (A++B).toArray j=A.length:=by
 unfold SetTable.below;exact qe2 A B j hA hB _ 0 _ (t7 _) (by simp) (by simp) (by simp)
theorem cut(j:Nat): ∀l:List Nat,l.Pairwise (· < ·)->∃A B,l=A++B/\(∀x∈A,x<j)/\(∀x∈B,j<=x)
 | [],_=>⟨[],[],rfl,by simp,by simp⟩
 | x :: l,h=>by
  by_cases c:x<j
  ·obtain⟨A,B,e,a,b⟩:=cut j l (g0a.mp h).2
   exact⟨x :: A,B,by rw [e];rfl,by intro y hy;rcases gm.mp hy with rfl|hy;exact c;exact a y hy,b⟩
  ·exact⟨[],x :: l,rfl,by simp,by
    intro y hy;rcases gm.mp hy with rfl|hy
    ·lia
    ·have:=(g0a.mp h).1 y hy;lia⟩
theorem q59{α : Type}(A B:List α)(x : α): SetTable.insertAt (A++B).toArray A.length x=(A++x :: B).toArray:=by
 unfold SetTable.insertAt;apply Array.ext';simp
theorem has_none(j:Nat): SetTable.has #[] j=false:=by unfold SetTable.has;simp
theorem qai{t:SetTable}{l:List Nat}{j:Nat}(ep:t.place=l.toArray)(ed:t.dummies = #[])(hr:l.Pairwise (· < ·))(h:j∉l): t.slot j=.empty:=by
 obtain⟨A,B,rfl,hA,hB⟩:=cut j l hr;unfold SetTable.slot;rw [ep,ed,below_at hA hB,has_none];have:((A++B).toArray[A.length]? == some j)=false:=by
  cases B with
  | nil=>simp
  | cons b B=>
   have:b≠j:=fun e=>h (by simp [e]);simp [this]
 simp only [this];rfl
theorem qk4{t:SetTable}{l:List Nat}{j:Nat}(ep:t.place=l.toArray)(ed:t.dummies = #[])(hr:l.Pairwise (· < ·))(h:j∈l): ∃i,t.slot j=.live i:=by
 obtain⟨A,B,rfl,hA,hB⟩:=cut j l hr;unfold SetTable.slot;rw [ep,below_at hA hB];have:((A++B).toArray[A.length]? == some j)=true:=by
  rcases p5.mp h with h|h
  ·have:=hA j h;lia
  ·cases B with
   | nil=>simp at h
   | cons b B=>
    have hb:=hB b (gv ..);have:b=j:=by
     rcases gm.mp h with rfl|h
     ·rfl
     ·have:=(g0a.mp (g0v.mp hr).2.1).1 j h;lia
    simp [this]
 simp only [this, ↓reduceIte];exact⟨_,rfl⟩
def orb:Nat->Nat->Nat
 | 0,i=>i
 | d+1,i=>orb d ((i*5+1)%8)
theorem qk5:∀i<8,∀j<8,∃d<8,orb d i=j:=by decide
theorem qpi{t:SetTable}(hm:t.mask=7){i pt:Nat}(hp:pt<32)(hi:i<8): t.advance {j:=i,more:=0,i:=i,perturb:=pt,dummy:=none} = {j:=(i*5+1)%8,more:=0,i:=(i*5+1)%8,perturb:=0,dummy:=none}:=by
 have e0:pt / 32=0:=by lia
 have e1:SetTable.runEnd 7 ((i*5+1)%8)=(i*5+1)%8:=by unfold SetTable.runEnd;rw [m4 (by lia)]
 unfold SetTable.advance;rw [m4 (by simp),hm];unfold SetTable.leap;simp only [e0,g3n];show({j:=(i*5+1)%8,more:=SetTable.runEnd 7 ((i*5+1)%8)-(i*5+1)%8,i:=(i*5+1)%8,perturb:=0,dummy:=none}:SetTable.Probe)=_;rw [e1,Nat.sub_self]
theorem go7{t:SetTable}{l:List Nat}{h:Int}(ep:t.place=l.toArray)(ed:t.dummies = #[])(hr:l.Pairwise (· < ·))(hm:t.mask=7): ∀(k:Nat) (i pt:Nat),pt<32->i<8->(∃d<k,orb d i∉l) ->
  ∃j,SetTable.probe.go t (fun _=>h+1) h k {j:=i,more:=0,i:=i,perturb:=pt,dummy:=none}=some (.empty j none)/\j∉l/\j<8
 | 0,i,pt,_,_,⟨d,hd,_⟩=>by lia
 | k+1,i,pt,hp,hi,⟨d,hd,hn⟩=>by
  unfold SetTable.probe.go
  by_cases c:i∈l
  ·obtain⟨x,e⟩:=qk4 ep ed hr c
   have hne:(h+1==h)=false:=by simp;lia
   simp only [e,hne,gu, ↓reduceIte];rw [qpi hm hp hi];refine go7 ep ed hr hm k _ 0 (by lia) (Nat.mod_lt _ (by lia)) ?_;cases d with
   | zero=>exact absurd c hn
   | succ d=>exact⟨d,by lia,hn⟩
  ·simp only [qai ep ed hr c]
   exact⟨i,rfl,c,hi⟩
theorem q5p{α : Type}[DecidableEq α]: ∀ {a l:List α},a.Nodup->a ⊆ l->a.length<=l.length
 | [],_,_,_=>by simp
 | x :: a,l,hn,hs=>by
  have hx:x∈l:=hs (gv ..);have h2:a ⊆ l.erase x:=fun y hy=>(List.mem_erase_of_ne (fun e:y=x=>(um.mp hn).1 (e ▸ hy))).mpr (hs (m5 _ hy));have:=q5p (um.mp hn).2 h2;rw [List.length_erase_of_mem hx] at this;have:0<l.length:=List.length_pos_of_mem hx;simp only [ml];lia
theorem qe3:∀(l:List Nat),(∀j<8,j∈l)->8<=l.length:=by
 intro l h;have:(List.range 8) ⊆ l:=fun j hj=>h j (pj.mp hj);have h2:=q5p g2x this
 simpa using h2
theorem qoh{t:SetTable}{l:List Nat}{n:Nat}(ep:t.place=l.toArray)(ed:t.dummies = #[])(hr:l.Pairwise (· < ·))(hm:t.mask=7)(hl:l.length<8)(hn:n<12):
  ∃j,t.freeSlot (n:Int)=some (j,false)/\j∉l/\j<8:=by
 have hb:SetTable.bits (n:Int)=n:=by unfold SetTable.bits;lia
 have hi:n%8<8:=Nat.mod_lt _ (by lia);have hex:∃d<10*SetTable.turns t.mask,orb d (n%8)∉l:=by
  have:∃j,j<8/\j∉l:=g01 fun c=>by
   have:=qe3 l (fun j hj=>g01 fun d=>c ⟨j,hj,d⟩);lia
  obtain⟨j,hj,hnj⟩:=this;obtain⟨d,hd,e⟩:=qk5 _ hi j hj;refine⟨d,?_,by rw [e];exact hnj⟩;rw [hm];unfold SetTable.turns;lia
 have hst:t.probeStart (n:Int) = {j:=n%8,more:=0,i:=n%8,perturb:=n,dummy:=none}:=by
  unfold SetTable.probeStart;rw [hb,hm];have e1:SetTable.runEnd 7 (n%(7+1))=n%8:=by unfold SetTable.runEnd;rw [m4 (by lia)]
  simp only [e1];simp
 obtain⟨j,e,h1,h2⟩:=go7 (h:=(n:Int)) ep ed hr hm (10*SetTable.turns t.mask) (n%8) n (by lia) hi hex;refine⟨j,?_,h1,h2⟩;unfold SetTable.freeSlot SetTable.probe;rw [hst,e]
 rfl
theorem qmt{t:SetTable}{l:List Nat}{n:Nat}(ep:t.place=l.toArray)(ed:t.dummies = #[])(hr:l.Pairwise (· < ·))(hm:15<=t.mask)(hn:n<12)(hnl:n∉l):
  t.freeSlot (n:Int)=some (n,false):=by
 have hb:SetTable.bits (n:Int)=n:=by unfold SetTable.bits;lia
 have hmod:n%(t.mask+1)=n:=Nat.mod_eq_of_lt (by lia);unfold SetTable.freeSlot SetTable.probe SetTable.probeStart;rw [hb];simp only [hmod];have:10*SetTable.turns t.mask=(10*SetTable.turns t.mask-1)+1:=by unfold SetTable.turns;lia
 rw [this];unfold SetTable.probe.go;simp only [qai ep ed hr hnl]
 rfl
def el(p:Nat×Nat): Int×Value:=((p.1:Int),.int (p.1:Int) p.2)
structure Tb(t:SetTable)(ks:List (Nat×Nat)): Prop where
 dm:t.dummies = #[]
 pl:t.plain=true
 nd:(ks.map Prod.fst).Nodup
 lt:∀p∈ks,p.1<12
 sz:t.place.toList.length=ks.length
 rs:t.place.toList.Pairwise (· < ·)
 mz:(t.mask=7/\(∀p∈t.place.toList,p<8))\/((t.mask=15\/t.mask=31\/t.mask=63)/\t.place.toList=ks.map Prod.fst)
theorem Tb.n12{t:SetTable}{ks:List (Nat×Nat)}(T:Tb t ks): ks.length<=12:=by
 have:=q5p (l:=List.range 12) T.nd (fun x hx=>by
  obtain⟨p,hp,rfl⟩:=ni.mp hx;exact pj.mpr (T.lt p hp))
 simpa using this
theorem Tb.fits{t:SetTable}{ks:List (Nat×Nat)}(T:Tb t ks)(h:t.mask=7->ks.length<8): t.fits ks.length=true:=by
 have h1:t.place.size=ks.length:=by rw [<- T.sz];simp
 have h2:=T.n12;unfold SetTable.fits SetTable.fill;rw [T.dm,h1];have:ks.length<=t.mask:=by
  rcases T.mz with⟨e,_⟩|⟨e,_⟩
  ·have:=h e;lia
  ·lia
 simp [this]
theorem toArr(a:Array Nat): a=a.toList.toArray:=by simp
theorem qmu{A B:List Nat}{j:Nat}(h:(A++B).Pairwise (· < ·))(hA:∀x∈A,x<j)(hB:∀x∈B,j<=x)(hj:j∉A++B): (A++j :: B).Pairwise (· < ·):=by
 have hB':∀x∈B,j<x:=fun x hx=>by
  have:=hB x hx;have:x≠j:=fun e=>hj (by rw [<- e];exact mi _ hx);lia
 obtain⟨a,b,c⟩:=g0v.mp h;refine g0v.mpr ⟨a,g0a.mpr ⟨hB',b⟩,fun x hx y hy=>?_⟩;rcases gm.mp hy with rfl|hy
 ·exact hA x hx
 ·exact c x hx y hy
theorem qi7:∀ {l:List Nat},l.Pairwise (· < ·)->l.Nodup:=fun h=>List.Pairwise.imp (fun a=>gr a) h
theorem lay{t:SetTable}{ks:List (Nat×Nat)}(T:Tb t ks){n k:Nat}(hn:n<12)(hnk:n∉ks.map Prod.fst)(h7:t.mask=7->ks.length<7):
  ∃t' ks',layNew t (ks.map el).toArray (n:Int) (.int (n:Int) k)=((ks'.map el).toArray,t',false,false)/\Tb t' ks'/\ks'.Perm ((n,k) :: ks)/\t'.mask=t.mask/\t'.led=t.led/\t'.finger=t.finger/\t'.moves=t.moves:=by
 have key:∃j,t.freeSlot (n:Int)=some (j,false)/\j∉t.place.toList/\((t.mask=7/\j<8)\/((t.mask=15\/t.mask=31\/t.mask=63)/\j=n)):=by
  rcases T.mz with⟨e,_⟩|⟨e,ep⟩
  ·obtain⟨j,h1,h2,h3⟩:=qoh (n:=n) (toArr t.place) T.dm T.rs e (by rw [T.sz];have:=h7 e;lia) hn
   exact⟨j,h1,h2,.inl ⟨e,h3⟩⟩
  ·exact⟨n,qmt (toArr t.place) T.dm T.rs (by lia) hn (by rw [ep];exact hnk),by rw [ep];exact hnk,.inr ⟨e,rfl⟩⟩
 obtain⟨j,hf,hj,hm⟩:=key;obtain⟨A,B,eAB,hA,hB⟩:=cut j _ T.rs;have hp:t.place=(A++B).toArray:=by rw [<- eAB]
 have hbel:SetTable.below t.place j=A.length:=by rw [hp];exact below_at hA hB
 have hlen:A.length<=ks.length:=by have:=T.sz;rw [eAB,m8] at this;lia
 let ks':=ks.take A.length++(n,k) :: ks.drop A.length
 let t':SetTable:={t with place:=(A++j :: B).toArray,dummies:= #[]}
 have hput:t.put j=(t',A.length):=by
  unfold SetTable.put;simp only [hbel,T.dm,has_none,gu, ↓reduceIte];rw [hp,q59]
 have hins:SetTable.insertAt (ks.map el).toArray A.length ((n:Int),Value.int (n:Int) k)=(ks'.map el).toArray:=by
  have e:ks.map el=(ks.take A.length).map el++(ks.drop A.length).map el:=by rw [<- g0b,g1q]
  have el1:((ks.take A.length).map el).length=A.length:=by simp [hlen]
  have:=q59 ((ks.take A.length).map el) ((ks.drop A.length).map el) ((n:Int),Value.int (n:Int) k);rw [el1] at this;rw [e,this];simp [ks',el]
 have hperm:ks'.Perm ((n,k) :: ks):=by
  have:=@List.perm_middle _ (n,k) (ks.take A.length) (ks.drop A.length);rwa [g1q] at this
 have hrs:(A++j :: B).Pairwise (· < ·):=qmu (by rw [<- eAB];exact T.rs) hA hB (by rw [<- eAB];exact hj);have T':Tb t' ks':=by
  refine⟨rfl,T.pl,?_,?_,?_,by simpa [t'] using hrs,?_⟩
  ·refine((hperm.map Prod.fst).nodup_iff).mpr ?_
   exact um.mpr ⟨hnk,T.nd⟩
  ·intro p hp
   rcases gm.mp (hperm.mem_iff.mp hp) with rfl|h
   ·exact hn
   ·exact T.lt p h
  ·rw [hperm.length_eq]
   have:=T.sz;rw [eAB] at this;simp only [m8] at this;simp [t'];lia
  ·rcases hm with⟨e,hj8⟩|⟨e,rfl⟩
   ·refine .inl ⟨e,fun p hp=>?_⟩
    have hp':p∈A++j :: B:=by simpa [t'] using hp
    rcases T.mz with⟨_,hq⟩|⟨e',_⟩
    ·rw [eAB] at hq
     rcases p5.mp hp' with h|h
     ·exact hq p (g0q _ h)
     ·rcases gm.mp h with rfl|h
      ·exact hj8
      ·exact hq p (mi _ h)
    ·lia
   ·refine .inr ⟨e,?_⟩
    rcases T.mz with⟨e',_⟩|⟨_,ep⟩
    ·lia
    ·have e1:A=(ks.map Prod.fst).take A.length:=by rw [<- ep,eAB];simp
     have e2:B=(ks.map Prod.fst).drop A.length:=by rw [<- ep,eAB];simp
     show(A++j :: B).toArray.toList=ks'.map Prod.fst;simp only [ks',g0b,gx,List.map_take,List.map_drop];rw [<- e1, <- e2]
 have h7':t'.mask=7->ks'.length<8:=fun e=>by rw [hperm.length_eq];have:=h7 e;simp;lia
 have hfit:t'.fits (ks'.map el).toArray.size=true:=by
  have:=T'.fits h7'
  simpa using this
 refine⟨t',ks',?_,T',hperm,rfl,rfl,rfl,rfl⟩;unfold layNew;simp only [hf,hput,hins];unfold SetTable.orStandIn;rw [gz hfit,hfit]
 rfl
theorem qi8{mask:Nat}{owner:Array (Option Nat)}{i pt f:Nat}(h:owner.getD i (some 0)=none): SetTable.layClean.free mask owner (f+1) i pt=some i:=by
 unfold SetTable.layClean.free;have hr:SetTable.runEnd mask i+1-i=(SetTable.runEnd mask i-i)+1:=by
  unfold SetTable.runEnd;split <;> lia
 rw [hr,g0f];have:(List.find? (fun k=>(owner.getD (i+k) (some 0)).isNone) (0 :: List.map Nat.succ (List.range (SetTable.runEnd mask i-i))))=some 0:=by
  rw [List.find?_cons];simp only [g3n,h,Option.isNone_none]
 rw [this];rfl
def Own(mask:Nat)(hs:List Nat)(c:Nat)(owner:Array (Option Nat)): Prop:=owner.size=mask+1/\∀j,j<=mask->∀k,owner[j]? = some (some k)↔(k<c/\hs[k]? = some j)
theorem qaj(mask:Nat)(hm:15<=mask)(hs:List Nat)(hnd:hs.Nodup)(hlt:∀x∈hs,x<12): ∀(r:List Nat) (c:Nat) (owner:Array (Option Nat)),hs.drop c=r->c<=hs.length->Own mask hs c owner ->
  ∃ ow,(r.map (Int.ofNat)).foldl (fun acc h=>do
    let(owner,k) <- acc
    let j <- SetTable.layClean.free mask owner (SetTable.turns mask) (SetTable.bits h%(mask+1)) (SetTable.bits h)
    pure (owner.setIfInBounds j (some k),k+1)) (some (owner,c))=some (ow,hs.length)/\Own mask hs hs.length ow
 | [],c,owner,hd,hc,ho=>by
  have:c=hs.length:=by have:=pw List.length hd;simp at this;lia
  subst this;exact⟨owner,rfl,ho⟩
 | x :: r,c,owner,hd,hc,ho=>by
  have hcl:c<hs.length:=by have:=pw List.length hd;simp at this;lia
  have hx:hs[c]? = some x:=by
   have:=pw (fun l=>l[0]?) hd
   simpa using this
  have hxm:x∈hs:=tm hx;have hx12:=hlt x hxm;have hb:SetTable.bits (Int.ofNat x)=x:=by unfold SetTable.bits;simp;lia
  have hmod:x%(mask+1)=x:=Nat.mod_eq_of_lt (by lia);have hnone:owner.getD x (some 0)=none:=by
   have hlt':x<owner.size:=by rw [ho.1];lia
   simp only [Array.getD,hlt', ↓reduceDIte,Array.getInternal_eq_getElem];cases e:owner[x] with
   | none=>rfl
   | some k=>
    have:owner[x]? = some (some k):=by rw [g2n hlt',e]
    obtain⟨h1,h2⟩:=(ho.2 x (by lia) k).mp this;have hkl:k<hs.length:=by lia
    rw [m9 hkl] at h2;rw [m9 hcl] at hx;have:=(g2p hnd).mp ((mh h2).trans (mh hx).symm);lia
  have hfree:SetTable.layClean.free mask owner (SetTable.turns mask) (SetTable.bits (Int.ofNat x)%(mask+1)) (SetTable.bits (Int.ofNat x))=some x:=by
   rw [hb,hmod];have:SetTable.turns mask=(mask+14)+1:=by unfold SetTable.turns;lia
   rw [this];exact qi8 hnone
  rw [gx,List.foldl_cons];have hstep:(do
    let(owner,k) <- some (owner,c)
    let j <- SetTable.layClean.free mask owner (SetTable.turns mask) (SetTable.bits (Int.ofNat x)%(mask+1)) (SetTable.bits (Int.ofNat x))
    pure (owner.setIfInBounds j (some k),k+1):Option (Array (Option Nat)×Nat))=some (owner.setIfInBounds x (some c),c+1):=by
   show(SetTable.layClean.free mask owner (SetTable.turns mask) (SetTable.bits (Int.ofNat x)%(mask+1)) (SetTable.bits (Int.ofNat x))).bind _=_;rw [hfree];rfl
  refine qaj mask hm hs hnd hlt r (c+1) (owner.setIfInBounds x (some c)) ?_ hcl ⟨by simp [ho.1],fun j hj k=>?_⟩ |> fun⟨ow,a,b⟩=>⟨ow,?_,b⟩
  ·rw [<- List.tail_drop,hd];rfl
  ·rw [Array.getElem?_setIfInBounds]
   have hxs:x<owner.size:=by rw [ho.1];lia
   by_cases e:x=j
   ·subst e
    rw [gz rfl,gz hxs]
    constructor
    ·intro h;have:c=k:=by simpa using h
     subst this;exact⟨by lia,hx⟩
    ·rintro⟨h1,h2⟩
     have hkl:k<hs.length:=by lia
     rw [m9 hkl] at h2;rw [m9 hcl] at hx;have:=(g2p hnd).mp ((mh h2).trans (mh hx).symm);rw [this]
   ·rw [m4 e,ho.2 j hj k]
    constructor
    ·rintro⟨h1,h2⟩;exact⟨by lia,h2⟩
    ·rintro⟨h1,h2⟩
     refine⟨?_,h2⟩;have:k≠c:=fun e2=>by subst e2;rw [hx] at h2;exact e (mh h2)
     lia
  ·rw [<- a];exact pw (fun z=>List.foldl _ z _) hstep
theorem qak{mask:Nat}(hm:15<=mask){hs:List Nat}(hnd:hs.Nodup)(hlt:∀x∈hs,x<12): ∃ow,SetTable.layClean mask (hs.map Int.ofNat).toArray=some ow/\Own mask hs hs.length ow:=by
 obtain⟨ow,a,b⟩:=qaj mask hm hs hnd hlt hs 0 (Array.replicate (mask+1) none) rfl (t7 _) ⟨by simp,fun j hj k=>by simp [Array.getElem?_replicate]⟩;refine⟨ow,?_,b⟩;unfold SetTable.layClean;rw [List.foldl_toArray',a]
 ·rfl
 ·simp
theorem qi9{mask:Nat}{hs:List Nat}(hnd:hs.Nodup)(hlt:∀x∈hs,x<=mask){ow:Array (Option Nat)}(ho:Own mask hs hs.length ow):
  let live:=(List.range (mask+1)).filterMap fun j=>(ow.getD j none).map (j, ·)
  (live.map Prod.fst).Pairwise (· < ·)/\(∀p∈live,hs[p.2]? = some p.1)/\(live.map Prod.snd).Perm (List.range hs.length):=by
 intro live;have hmem:∀p:Nat×Nat,p∈live↔hs[p.2]? = some p.1:=by
  intro p;obtain⟨j,k⟩:=p;simp only [live,g13,pj,gq];have hg:∀j,j<=mask->(ow.getD j none=some k↔hs[k]? = some j):=fun j hj=>by
   have hlt':j<ow.size:=by rw [ho.1];lia
   have:ow.getD j none=some k↔ow[j]? = some (some k):=by
    simp [Array.getD,hlt']
   rw [this,ho.2 j hj k];exact⟨fun h=>h.2,fun h=>⟨(ma.mp h).1,h⟩⟩
  constructor
  ·rintro⟨j',hj',k',e,e2⟩
   injection e2 with e3 e4
   subst e3;subst e4;exact(hg _ (by lia)).mp e
  ·intro h
   have hj:=hlt j (tm h);exact⟨j,by lia,k,(hg j hj).mpr h,rfl⟩
 have hf:live.map Prod.fst=(List.range (mask+1)).filter (fun j=>(ow.getD j none).isSome):=by
  simp only [live];generalize List.range (mask+1)=l
  induction l with
  | nil=>rfl
  | cons a l ih=>
   rw [u0,g1o];cases e:ow.getD a none with
   | none=>simpa using ih
   | some k=>simpa using ih
 have hpw:(live.map Prod.fst).Pairwise (· < ·):=by
  rw [hf];exact g20 _ g3a
 refine⟨hpw,fun p hp=>(hmem p).mp hp,?_⟩;have hn2:(live.map Prod.snd).Nodup:=by
  have h1:=qi7 hpw;refine g2m.mpr ?_;have h1':=g2m.mp h1;refine List.Pairwise.imp_of_mem ?_ h1';intro p q hp hq hne e;have a:=(hmem p).mp hp;have b:=(hmem q).mp hq;rw [e,b] at a;exact hne (mh a).symm
 refine(g2j hn2 g2x).mpr fun k=>?_;rw [pj,ni]
 constructor
 ·rintro⟨p,hp,rfl⟩
  exact(ma.mp ((hmem p).mp hp)).1
 ·intro hk
  exact⟨(hs[k],k),(hmem _).mpr (m9 hk),rfl⟩
theorem range_all{α : Type}: ∀l:List α,(List.range l.length).filterMap (l[·]?)=l
 | []=>rfl
 | a :: l=>by
  rw [ml,g0f,u0];simp only [g1f,g16];have:((fun x=>(a :: l)[x]?) ∘ Nat.succ)=(l[·]?):=by funext i;simp
  rw [this,range_all l]
theorem q5q{mask f m:Nat}{led:Bool}(hm:mask=15\/mask=31\/mask=63){ks:List (Nat×Nat)}(hnd:(ks.map Prod.fst).Nodup)(hlt:∀p∈ks,p.1<12):
  ∃t order ks',SetTable.laid mask f m led true ((ks.map el).toArray.map (·.1))=some (t,order)/\order.filterMap ((ks.map el).toArray[·]?)=(ks'.map el).toArray/\ks'.Perm ks/\Tb t ks'/\t.mask=mask/\t.led=led /\
   coversAll order ks.length=true:=by
 have hlt':∀x∈ks.map Prod.fst,x<12:=fun x hx=>by obtain⟨p,hp,rfl⟩:=ni.mp hx;exact hlt p hp
 obtain⟨ow,a,b⟩:=qak (mask:=mask) (by lia) hnd hlt';obtain⟨h1,h2,h3⟩:=qi9 hnd (fun x hx=>by have:=hlt' x hx;lia) b;generalize hlv:((List.range (mask+1)).filterMap fun j=>(ow.getD j none).map (j, ·))=live at h1 h2 h3;have ehs:(ks.map el).toArray.map (·.1)=((ks.map Prod.fst).map Int.ofNat).toArray:=by
  simp [el,Function.comp_def]
 have h3':(live.map Prod.snd).Perm (List.range ks.length):=by simpa using h3
 let ks':=live.filterMap (fun p=>ks[p.2]?)
 have hk2:∀p∈live,∃q,ks[p.2]? = some q/\q.1=p.1:=fun p hp=>by
  have:=h2 p hp;rw [gy,gq] at this;exact this
 have hfst:ks'.map Prod.fst=live.map Prod.fst:=by
  simp only [ks'];clear h3 h3' h1 hlv h2
  induction live with
  | nil=>rfl
  | cons p l ih=>
   obtain⟨q,e,e2⟩:=hk2 p (gv ..);rw [u0,e,gx,gx,e2,ih (fun r hr=>hk2 r (m5 _ hr))]
 have hperm:ks'.Perm ks:=by
  have e1:ks'=(live.map Prod.snd).filterMap (ks[·]?):=by rw [g16];rfl
  rw [e1];refine(List.Perm.filterMap _ h3').trans ?_;rw [range_all]
 refine⟨{mask:=mask,place:=(live.map (·.1)).toArray,dummies:= #[],finger:=f,led:=led,moves:=m,plain:=true},(live.map (·.2)).toArray,ks',?_,?_,hperm,?_,rfl,rfl,?_⟩
 ·unfold SetTable.laid
  rw [ehs,a];simp only [Option.bind_eq_bind,mf,hlv]
  rfl
 ·rw [List.filterMap_toArray]
  congr 1
  rw [g16];have e3:((fun x=>(ks.map el).toArray[x]?) ∘ fun x:Nat×Nat=>x.2)=fun p=>(ks[p.2]?).map el:=by
   funext p;simp
  rw [e3];simp only [ks'];rw [List.map_filterMap]
 ·refine⟨rfl,rfl,?_,?_,?_,?_,.inr ⟨hm,?_⟩⟩
  ·exact((hperm.map Prod.fst).nodup_iff).mpr hnd
  ·exact fun p hp=>hlt p (hperm.mem_iff.mp hp)
  ·have:=pw List.length hfst
   simpa using this.symm
  ·simpa using h1
  ·simpa using hfst.symm
 ·unfold coversAll
  rw [List.isPerm_iff]
  simpa using h3'
theorem q6m{α : Type}: ∀(l:List α) {i:Nat} (hi:i<l.length),([l[i]]++l.eraseIdx i).Perm l
 | [],i,hi=>by simp at hi
 | a :: l,0,hi=>by simp
 | a :: l,i+1,hi=>by
  have:=q6m l (i:=i) (by simpa using hi);simp only [List.getElem_cons_succ,List.eraseIdx_cons_succ,List.cons_append,g0c] at this ⊢;exact(List.Perm.swap _ _ _).trans (List.Perm.cons _ this)
theorem q8f{α : Type}(nx:Nat->Nat): ∀(f k:Nat) (l:List α) (out:Array α),l.length<=f->((pickOrder.go nx f k l out).toList).Perm (out.toList++l)
 | 0,k,l,out,h=>by
  have:l=[]:=by cases l <;> simp_all
  subst this;simp [pickOrder.go]
 | f+1,k,[],out,h=>by simp [pickOrder.go]
 | f+1,k,a :: l,out,h=>by
  have hi:nx k%(a :: l).length<(a :: l).length:=Nat.mod_lt _ (by simp);unfold pickOrder.go;rw [m9 hi];refine(q8f nx f (k+1) _ _ (by rw [List.length_eraseIdx];simp only [hi,pb];simp at h ⊢;lia)).trans ?_;rw [Array.toList_push,g00];exact List.Perm.append_left _ (q6m _ hi)
theorem q2o{α : Type}(nx:Nat->Nat)(xs:Array α): ((pickOrder nx xs).toList).Perm xs.toList:=by
 unfold pickOrder;have:=q8f nx xs.size 0 xs.toList #[] (by simp)
 simpa using this
theorem q28{n:Nat}(h:8<=n)(h2:n<64): (SetTable.sizeAbove n=16/\n<16)\/(SetTable.sizeAbove n=32/\16<=n/\n<32)\/(SetTable.sizeAbove n=64/\32<=n):=by
 have:∀n<64,8<=n->((SetTable.sizeAbove n=16/\n<16)\/(SetTable.sizeAbove n=32/\16<=n/\n<32)\/(SetTable.sizeAbove n=64/\32<=n)):=by decide +kernel
 exact this n h2 h
abbrev byT(w:World): Bool:=w.params.followText "set-order"
structure SI(w:World)(h:Heap)(a:Addr)(t:SetTable)(ks:List (Nat×Nat)): Prop where
 ob:∃o ep,h.get? a=some o/\o.ExactSet/\o.data=.set (ks.map el).toArray ep t
 tb:Tb t ks
 ld:t.led = !byT w
section
variable{prog:Program}{w:World}{A:Around}{E:Value->Shared->Prop}{s:Shared}{a:Addr}{t:SetTable}{ks:List (Nat×Nat)}
theorem q36{n:Nat}(h:n<12): (intKind prog w).hash (n:Int)=(n:Int):=by
 have:∀n<12,hashInt ((n:Nat):Int)=((n:Nat):Int):=by decide
 exact this n h
theorem elems(hl:∀p∈ks,p.1<12): ElemsOf (intKind prog w) (ks.map el):=by
 intro e he;obtain⟨p,hp,rfl⟩:=ni.mp he;exact⟨⟨(p.1:Int),g21 _ _ _ _,(q36 (hl p hp)).symm⟩,rfl⟩
theorem q37(T:Tb t ks)(h7:t.mask=7->ks.length<8): t.fits (ks.map el).toArray.size=true:=by
 have:=T.fits h7;simpa using this
theorem qk6{n:Nat}(h:n∈ks.map Prod.fst): ∃j,List.findIdx? (fun e=>(intKind prog w).is (n:Int) e.2) (ks.map el)=some j:=by
 obtain⟨p,hp,rfl⟩:=ni.mp h;cases e:List.findIdx? (fun e=>(intKind prog w).is (p.1:Int) e.2) (ks.map el) with
 | some j=>exact⟨j,rfl⟩
 | none=>
  have:=g2o.mp e (el p) (List.mem_map_of_mem hp);have h2:(intKind prog w).is (p.1:Int) (el p).2=true:=g21 _ _ _ _;rw [h2] at this;exact absurd this (by decide)
theorem qia{n:Nat}(h:n∉ks.map Prod.fst): List.findIdx? (fun e=>(intKind prog w).is (n:Int) e.2) (ks.map el)=none:=by
 refine g2o.mpr fun e he=>?_;obtain⟨p,hp,rfl⟩:=ni.mp he;cases e:(intKind prog w).is (n:Int) (el p).2 with
 | false=>rfl
 | true=>
  have:=(intKind prog w).inj (el p).2 _ _ e (g21 _ _ (p.1:Int) p.2);have:n=p.1:=by lia
  exact absurd (List.mem_map_of_mem hp) (this ▸ h)
def Step(t:SetTable)(ks:List (Nat×Nat))(p:Nat×Nat)(t':SetTable)(ks':List (Nat×Nat)): Prop:=
 Tb t' ks'/\t'.led=t.led/\if p.1∈ks.map Prod.fst then ks'=ks/\t'=t else
  ks'.Perm (p :: ks)/\t'.mask=(if(ks.length+1)*5>=t.mask*3 then SetTable.sizeAbove ((ks.length+1)*4)-1 else t.mask)
theorem qk7{h:Heap}{o:Obj}{es es':Array (Int×Value)}{ep:Nat}{t t':SetTable}(ho:h.get? a=some o)(hd:o.data=.set es ep t):
  (h.update a (Obj.putSet es' t')).get? a=some {o with data:=.set es' (ep+1) t'}:=by
 have:=uq (Obj.putSet es' t') ho (by rw [putSet_of es' t' hd];rfl);rw [putSet_of es' t' hd] at this;exact this
theorem SI.put{h:Heap}{t':SetTable}{ks':List (Nat×Nat)}(S:SI w h a t ks)(T':Tb t' ks')(hl:t'.led=t.led): SI w (h.update a (Obj.putSet (ks'.map el).toArray t')) a t' ks':=by
 obtain⟨o,ep,ho,hx,hd⟩:=S.ob;exact⟨⟨_,_,qk7 ho hd,hx,rfl⟩,T',by rw [hl];exact S.ld⟩
theorem size_le(T:Tb t ks): (ks.map el).toArray.size<=sizeLine:=by
 have:=T.n12;rw [g0y];simp;lia
theorem qg0{n k:Nat}{Q:Bool->Shared->Prop}(S:SI w s.heap a t ks)(hn:n<12)(h7:t.mask=7->ks.length<7)
  (h:∀h' t' ks',Heap.SameBut a s.heap h'->SI w h' a t' ks'->Step t ks (n,k) t' ks'->Q (!(decide (n∈ks.map Prod.fst))) {s with heap:=h'}) :
  wpAny (model prog w) A (setAddHashed a (.int (n:Int) k) (n:Int)) Q E s:=by
 obtain⟨o,ep,ho,hx,hd⟩:=id S.ob;have T:=S.tb;have hf:t.fits (ks.map el).toArray.size=true:=q37 T (fun e=>by have:=h7 e;lia);have hel:ElemsOf (intKind prog w) (ks.map el).toArray.toList:=by simpa using elems T.lt
 have hn12:=T.n12;unfold setAddHashed setAddHashedIn;refine nv (g0 (g1j ho hd hf ?_));dsimp only;rw [byScan_of (knd:=intKind prog w) rfl (by unfold scanBound;simp;lia) hel];simp only [↓reduceIte];unfold setAddByScan;refine g0 ?_;refine g0 (ud ?_);have hsc:=@wpAny_setScan_of prog w Int _ (intKind prog w) A E s a o (ks.map el).toArray ep t (.int (n:Int) k) (n:Int) true;rw [q36 hn] at hsc;refine g0 (hsc (g21 _ _ _ _) ho hd hf hel ?_)
 by_cases hm:n∈ks.map Prod.fst
 ·obtain⟨j,hj⟩:=qk6 (prog:=prog) (w:=w) hm
  have hj':List.findIdx? (fun e=>(intKind prog w).is (n:Int) e.2) (ks.map el).toArray.toList=some j:=by simpa using hj
  rw [hj'];dsimp only;refine gb (gb ?_);have e:s = {s with heap:=s.heap}:=by cases s;rfl
  have:=h s.heap t ks (g0g a s.heap) S ⟨T,rfl,by rw [gz hm];exact⟨rfl,rfl⟩⟩;rw [md hm] at this;rw [e];exact this
 ·have hj':List.findIdx? (fun e=>(intKind prog w).is (n:Int) e.2) (ks.map el).toArray.toList=none:=by simpa using qia (prog:=prog) (w:=w) hm
  rw [hj'];dsimp only;obtain⟨t1,ks1,hL,T1,p1,m1,l1,f1,v1⟩:=lay T (k:=k) hn hm h7;rw [hL];dsimp only;have hgw:∀(b:Bool) {s₁:Shared} {Q':Unit->Shared->Prop},Q' () s₁->wpAny (model prog w) A (match b with|true=>rule "set.scan.the-table-gave-way" | false=>pure ()) Q' E s₁:=
   fun b s₁ Q' hq=>by cases b <;> first|exact gb hq|exact ud hq
  refine g0 (hgw false ?_);rw [T1.pl];simp only [↓reduceIte];rw [hashByValue_scannable 8 rfl];refine g0 (gb ?_);simp only [plainKind, ↓reduceIte];have S1:SI w (s.heap.update a (Obj.putSet (ks1.map el).toArray t1)) a t1 ks1:=S.put T1 l1;have hsb1:=nr s.heap a (Obj.putSet (ks1.map el).toArray t1);have hlen:ks1.length=ks.length+1:=by rw [p1.length_eq];rfl
  have htf:t1.tooFull=decide ((ks.length+1)*5>=t.mask*3):=by
   unfold SetTable.tooFull SetTable.fill;have:t1.place.size=ks.length+1:=by rw [<- hlen, <- T1.sz];simp
   rw [T1.dm,this,m1];simp
  refine g0 (g0j ho hd ?_ (size_le T1))
  by_cases hfull:(ks.length+1)*5>=t.mask*3
  ·rw [htf,md hfull]
   simp only [g3f,Bool.and_self, ↓reduceIte];have hn1:=T1.n12;have hg:SetTable.grown (ks1.map el).toArray.size=(ks.length+1)*4:=by
    unfold SetTable.grown;simp only [gf,mj,hlen];rw [m4 (by lia)]
   have hsa:SetTable.sizeAbove ((ks.length+1)*4)-1=15\/SetTable.sizeAbove ((ks.length+1)*4)-1=31\/SetTable.sizeAbove ((ks.length+1)*4)-1=63:=by
    have hm7:7<=t.mask:=by rcases T.mz with⟨e,_⟩|⟨e,_⟩ <;> lia
    rcases q28 (n:=(ks.length+1)*4) (by lia) (by lia) with h|h|h <;> lia
   obtain⟨t2,ord,ks2,e2,f2,p2,T2,m2,l2,c2⟩:=q5q (f:=t1.finger) (m:=t1.movedTo (SetTable.sizeAbove ((ks.length+1)*4)-1)) (led:=t1.led) hsa T1.nd T1.lt;have hrl:t1.relaid ((ks1.map el).toArray.map (·.1)) (SetTable.grown (ks1.map el).toArray.size)=some (t2,ord):=by
    unfold SetTable.relaid;rw [hg,T1.pl];exact e2
   have hlen2:ks2.length=ks1.length:=p2.length_eq;have hra:relayAll t1 (ks1.map el).toArray (SetTable.grown (ks1.map el).toArray.size)=((ks2.map el).toArray,t2,false):=by
    unfold relayAll;rw [hrl];dsimp only;rw [f2];have hc:coversAll ord (ks1.map el).toArray.size=true:=by simpa using c2
    have hft:t2.fits (ks2.map el).toArray.size=true:=q37 T2 (fun e=>by lia);rw [hc,hft];rfl
   rw [hra];dsimp only;refine g0 (hgw false ?_);obtain⟨o1,ep1,ho1,hx1,hd1⟩:=id S1.ob;refine g0 (g0j ho1 hd1 ?_ (size_le T2));refine gb ?_;dsimp only;refine gb ?_;have:=h _ t2 ks2 (hsb1.trans (nr _ a _)) (S1.put T2 l2) ⟨T2,l2.trans l1,by
    rw [m4 hm,gz hfull];exact⟨p2.trans p1,m2⟩⟩
   rw [m3 hm] at this;exact this
  ·rw [htf,m3 hfull]
   simp only [g3f,Bool.true_and,gu, ↓reduceIte];refine gb ?_;have:=h _ t1 ks1 hsb1 S1 ⟨T1,l1,by rw [m4 hm,m4 hfull];exact⟨p1,m1⟩⟩;rw [m3 hm] at this;exact gb this
end
theorem q5r{α β : Type}[DecidableEq α]{f : α -> β}: ∀ {l:List β} {ks:List α},l.Perm (ks.map f)->∃ls:List α,ls.Perm ks/\l=ls.map f
 | [],ks,h=>by
  have:ks=[]:=by simpa using h.symm
  exact⟨[],by rw [this],rfl⟩
 | x :: l,ks,h=>by
  have hx:x∈ks.map f:=h.mem_iff.mp (gv ..);obtain⟨p,hp,rfl⟩:=ni.mp hx;have h1:=List.perm_cons_erase hp;have h2:(f p :: l).Perm (f p :: (ks.erase p).map f):=h.trans (h1.map f);obtain⟨ls,a,e⟩:=q5r (List.Perm.cons_inv h2);exact⟨p :: ls,(List.Perm.cons _ a).trans h1.symm,by rw [e];rfl⟩
section
variable{prog:Program}{w:World}{A:Around}{E:Value->Shared->Prop}{s:Shared}{a b:Addr}{t u:SetTable}{ks ls:List (Nat×Nat)}
theorem SI.state{Q:(Array (Int×Value)×Nat×SetTable)->Shared->Prop}(S:SI w s.heap a t ks)(h7:t.mask=7->ks.length<8)
  (h:∀ep,(∃o,s.heap.get? a=some o/\o.ExactSet/\o.data=.set (ks.map el).toArray ep t)->Q ((ks.map el).toArray,ep,t) s):wpAny (model prog w) A (setState a) Q E s:=by
 obtain⟨o,ep,ho,hx,hd⟩:=S.ob;exact g1j ho hd (q37 S.tb h7) (h ep ⟨o,ho,hx,hd⟩)
theorem SI.keep{h h':Heap}(S:SI w h a t ks)(e:∀o,h.get? a=some o->h'.get? a=some o): SI w h' a t ks:=by
 obtain⟨o,ep,ho,r⟩:=S.ob;exact⟨⟨o,ep,e o ho,r⟩,S.tb,S.ld⟩
theorem q6n{es:Array (Int×Value)}{t':SetTable}{ord:Array Nat}{es':Array (Int×Value)}{α : Type}{F:Array (Int×Value)×SetTable->Sem α}{Q : α -> Shared->Prop}(e:ord.filterMap (es[·]?)=es')(hs:es'.size=es.size)
  (h:wpAny (model prog w) A (F (es',t')) Q E s) :
  wpAny (model prog w) A ((do
   let some (t,order):=some (t',ord)|unsupported "internal:set-table-without-room"
   let es':=order.filterMap (es[·]?)
   if es'.size != es.size then unsupported "internal:set-table-lost-an-element"
   pure (es',t):Sem (Array (Int×Value)×SetTable)) >>= F) Q E s:=by
 refine g0 ?_;dsimp only;rw [e];have:(es'.size != es.size)=false:=by simp [hs]
 rw [this];simp only [gu, ↓reduceIte];exact gb h
theorem qib{wanted:Nat}{Q:Unit->Shared->Prop}(S:SI w s.heap a t ks)(h7:t.mask=7->ks.length<8)(hw:8<=wanted)(hw2:wanted<64)
  (h:∀h' t' ks',Heap.SameBut a s.heap h'->SI w h' a t' ks'->t'.mask=SetTable.sizeAbove wanted-1->ks'.Perm ks->Q () {s with heap:=h'}) :
  wpAny (model prog w) A (setRelay a wanted) Q E s:=by
 unfold setRelay;refine g0 (S.state h7 fun ep ⟨o,ho,hx,hd⟩=>?_);dsimp only;have hc:=q28 hw hw2;have hsz:¬(SetTable.sizeAbove wanted>sizeLine):=by rw [g0y];lia
 rw [m4 hsz];obtain⟨t2,ord,ks2,e2,f2,p2,T2,m2,l2,c2⟩:=q5q (f:=t.finger) (m:=t.movedTo (SetTable.sizeAbove wanted-1)) (led:=t.led) (mask:=SetTable.sizeAbove wanted-1) (by lia) S.tb.nd S.tb.lt;have hrl:t.relaid ((ks.map el).toArray.map (·.1)) wanted=some (t2,ord):=by
  unfold SetTable.relaid;rw [S.tb.pl];exact e2
 rw [hrl];refine q6n f2 (by simp [p2.length_eq]) ?_;dsimp only;refine g0j ho hd ?_ (size_le T2);exact h _ t2 ks2 (nr _ a _) (S.put T2 l2) m2 p2
theorem wp_walk{Q:Array (Int×Value)->Shared->Prop}(S:SI w s.heap a t ks)(h7:t.mask=7->ks.length<8)
  (h:∀ls:List (Nat×Nat),ls.Perm ks->Q (ls.map el).toArray s):wpAny (model prog w) A (setWalk a) Q E s:=by
 unfold setWalk;refine g0 (S.state h7 fun ep _=>?_);dsimp only;unfold setsByText;refine g0 (g0 (nh (gb ?_)))
 by_cases hb:byT w=true
 ·refine mr (fun _=>?_) (fun c=>absurd hb c)
  refine g0 (nh (gb ?_));have hp:=q2o ((⟨(model prog w).prog,(model prog w).w.params⟩:Setting).params.setOrder a ep) (ks.map el).toArray;generalize pickOrder ((⟨(model prog w).prog,(model prog w).w.params⟩:Setting).params.setOrder a ep) (ks.map el).toArray=xs at hp;have hp':xs.toList.Perm (ks.map el):=by simpa using hp
  obtain⟨ls,hl,e⟩:=q5r hp';have:=h ls hl;rw [<- e] at this;exact this
 ·refine mr (fun c=>absurd c hb) (fun _=>?_)
  refine mr (fun c=>?_) (fun _=>?_)
  ·have c':(!t.plain&&decide ((ks.map el).toArray.size>1))=true:=c
   rw [S.tb.pl] at c';simp at c'
  ·have hld:t.led=true:=by rw [S.ld];simpa using hb
   show wpAny _ _ ((do if !t.led&&(ks.map el).toArray.size>1 then unsupported "set:maker-not-led" : Sem Unit) >>= fun _=>pure (ks.map el).toArray) _ _ _;rw [hld];simp only [g07,pk,gu, ↓reduceIte];exact g0 (gb (gb (h ks (g3g _))))
end
section
variable{prog:Program}{w:World}{A:Around}{E:Value->Shared->Prop}{s:Shared}{a b:Addr}{t u:SetTable}{ks ls:List (Nat×Nat)}
theorem qg1{os:List Addr}{f:Option Addr}{Q:Array (Int×Value)->Shared->Prop}(S:SI w s.heap a t ks)(h7:t.mask=7->ks.length<8)
  (h:∀ls:List (Nat×Nat),ls.Perm ks->Q (ls.map el).toArray s):wpAny (model prog w) A (setWalkUnseen a os f) Q E s:=by
 unfold setWalkUnseen;refine g0 (S.state h7 fun ep _=>?_);dsimp only;refine g0 ?_;unfold setsByText;refine g0 (nh (gb ?_));dsimp only;refine mr (fun _=>?_) (fun c=>?_)
 ·exact wp_walk S h7 h
 ·refine absurd ?_ c
  have:t.led = !(model prog w).w.params.followText "set-order" :=S.ld;rw [this,S.tb.pl];cases(model prog w).w.params.followText "set-order" <;> simp
theorem qcz{ep:Nat}{ob:Obj}{each:Sem Unit}(hab:a≠b)(hob:∀ {s':Shared} {Q:(Array (Int×Value)×Nat×SetTable)->Shared->Prop},s'.heap.get? b=some ob->Q ((ls.map el).toArray,ep,u) s'->wpAny (model prog w) A (setState b) Q E s')
  (hea:∀ {s':Shared} {Q:Unit->Shared->Prop},s'.heap.get? b=some ob->Q () s'->wpAny (model prog w) A each Q E s') :
  ∀(r:List (Nat×Nat)) (s:Shared) (t:SetTable) (ks:List (Nat×Nat)) (Q:Unit->Shared->Prop),(∀p∈r,p.1<12)->SI w s.heap a t ks->(ks.length+r.length)*5<t.mask*3->s.heap.get? b=some ob ->
  (∀h' t' ks',Heap.SameBut a s.heap h'->SI w h' a t' ks'->t'.mask=t.mask->(∀n,n∈ks'.map Prod.fst↔n∈ks.map Prod.fst\/n∈r.map Prod.fst)->ks'.length<=ks.length+r.length->Q () {s with heap:=h'}) ->
  wpAny (model prog w) A (forIn (r.map el) PUnit.unit fun(x:Int×Value) (_:PUnit)=>do
   let _ <- holding [x.2] (setAddHashed a x.2 x.1)
   each
   if(<- setState b).2.1 != ep then unsupported "set.changed-during-merge"
   pure (ForInStep.yield PUnit.unit)) Q E s
 | [],s,t,ks,Q,hr,S,hm,hb,h=>by
  simp only [g03,g29];refine gb ?_;have:=h s.heap t ks (g0g _ _) S rfl (fun n=>by simp) (by simp);exact this
 | p :: r,s,t,ks,Q,hr,S,hm,hb,h=>by
  simp only [gx,g09];have hp:=hr p (gv ..);have hml:(ks.length+1+r.length)*5<t.mask*3:=by simp only [ml] at hm;lia
  refine g0 ?_;refine g0 (nv (qg0 (n:=p.1) (k:=p.2) S hp (fun e=>by lia) fun h' t' ks' hsb S' st=>?_));have hb':h'.get? b=some ob:=by rw [hsb.2 b (fun e=>hab e.symm)];exact hb
  obtain⟨T',l',c⟩:=st;have hlen:ks'.length<=ks.length+1/\t'.mask=t.mask/\(∀n,n∈ks'.map Prod.fst↔n∈ks.map Prod.fst\/n=p.1):=by
   split at c
   ·rename_i hin
    obtain⟨rfl,rfl⟩:=c;exact⟨by lia,rfl,fun n=>⟨.inl,fun h=>h.elim id (fun e=>e ▸ hin)⟩⟩
   ·obtain⟨c1,c2⟩:=c
    rw [m4 (by lia)] at c2;refine⟨by rw [c1.length_eq];simp,c2,fun n=>?_⟩;rw [(c1.map Prod.fst).mem_iff,gx,gm];exact Or.comm
  refine g0 (hea (s':={s with heap:=h'}) hb' ?_);refine g0 (hob (s':={s with heap:=h'}) hb' ?_);dsimp only;rw [m4 (by simp)];refine gb ?_;refine qcz hab hob hea r {s with heap:=h'} t' ks' Q (fun q hq=>hr q (m5 _ hq)) S' (by rw [hlen.2.1];lia) hb' fun h2 t2 ks2 sb2 S2 m2 i2 l2=>?_;refine h h2 t2 ks2 (hsb.trans sb2) S2 (m2.trans hlen.2.1) (fun n=>?_) (by simp only [ml];lia);rw [i2 n,hlen.2.2 n,gx,gm,or_assoc]
theorem qk8{m:Nat}{Q:Unit->Shared->Prop}(S:SI w s.heap a t ks)(h7:t.mask=7->ks.length<8)(hm:m<=12)
  (h:∀h' t' ks',Heap.SameBut a s.heap h'->SI w h' a t' ks'->ks'.Perm ks->(ks.length+m)*5<t'.mask*3 ->
   ((ks.length+m)*5<t.mask*3/\t'.mask=t.mask\/t'.mask=SetTable.sizeAbove ((ks.length+m)*2)-1/\t.mask*3<=(ks.length+m)*5)->Q () {s with heap:=h'}) :
  wpAny (model prog w) A (setRoomFor a m) Q E s:=by
 unfold setRoomFor;refine g0 (S.state h7 fun ep _=>?_);dsimp only;have hsz:t.place.size=ks.length:=by rw [<- S.tb.sz];simp
 have hfl:t.fill=ks.length:=by unfold SetTable.fill;rw [S.tb.dm,hsz];simp
 have hn:=S.tb.n12;unfold SetTable.roomFor;rw [hfl,hsz];have hmk:=S.tb.mz
 by_cases c:(ks.length+m)*5>=t.mask*3
 ·rw [gz c]
  dsimp only;refine qib S h7 (by rcases hmk with⟨e,_⟩|⟨e,_⟩ <;> lia) (by lia) fun h' t' ks' sb S' m' p'=>?_;have hc:=q28 (n:=(ks.length+m)*2) (by rcases hmk with⟨e,_⟩|⟨e,_⟩ <;> lia) (by lia);exact h h' t' ks' sb S' p' (by lia) (.inr ⟨m',c⟩)
 ·rw [m4 c]
  dsimp only;refine gb ?_;exact h s.heap t ks (g0g _ _) S (g3g _) (by lia) (.inl ⟨by lia,rfl⟩)
theorem qal{each:Sem Unit}{Q:Unit->Shared->Prop}(hab:a≠b)(S:SI w s.heap a t ks)(hbm:ks=[]->t.mask=7)(h7:t.mask=7->ks.length<8)(U:SI w s.heap b u ls)(hu:ls.length<5->u.mask=7)(hu7:u.mask=7->ls.length<8)
  (hea:∀ {s':Shared} {Q:Unit->Shared->Prop},s'.heap.get? b=s.heap.get? b->Q () s'->wpAny (model prog w) A each Q E s')
  (h:∀h' t' ks',Heap.SameBut a s.heap h'->SI w h' a t' ks'->(t'.mask=7->ks'.length<8)->(∀n,n∈ks'.map Prod.fst↔n∈ks.map Prod.fst\/n∈ls.map Prod.fst)->(ks=[]->ks'=[]->t'.mask=7)->Q () {s with heap:=h'}) :
  wpAny (model prog w) A (setMerge a b each) Q E s:=by
 unfold setMerge;have hne:(a==b)=false:=by simpa using hab
 rw [hne];simp only [gu, ↓reduceIte];have hn:=S.tb.n12;have hnu:=U.tb.n12;refine g0 (U.state hu7 fun ep ⟨o,ho,hx,hd⟩=>?_);dsimp only
 by_cases he:ls=[]
 ·subst he
  have:((([]:List (Nat×Nat)).map el).toArray).isEmpty=true:=rfl;rw [gz this];refine gb ?_;exact h s.heap t ks (g0g _ _) S h7 (fun n=>by simp) (fun e _=>hbm e)
 ·have:((ls.map el).toArray).isEmpty=false:=by cases ls <;> simp_all
  rw [this];simp only [gu, ↓reduceIte];have hsz:((ls.map el).toArray).size=ls.length:=by simp
  rw [hsz];refine g0 (qk8 S h7 hnu fun h1 t1 ks1 sb1 S1 p1 r1 q1=>?_);have U1:SI w h1 b u ls:=U.keep fun o e=>by rw [sb1.2 b (fun e=>hab e.symm)];exact e
  have ho1:h1.get? b=some o:=by rw [sb1.2 b (fun e=>hab e.symm)];exact ho
  have hl1:ks1.length=ks.length:=p1.length_eq;have hpos:0<ls.length:=List.length_pos_iff.mpr he;refine g0 (SI.state (s:={s with heap:=h1}) S1 (fun e=>by lia) fun ep1 ⟨o1,ho1',hx1,hd1⟩=>?_);dsimp only;have hfl:t1.fill=ks.length:=by unfold SetTable.fill;rw [S1.tb.dm, <- hl1, <- S1.tb.sz];simp
  unfold SetTable.road;rw [hfl,U.tb.dm]
  by_cases hk:ks=[]
  ·subst hk
   have hk1:ks1=[]:=by simpa using hl1
   subst hk1;simp only [ny,bne_self_eq_false,gu, ↓reduceIte];have hld:(t1.led&&u.led) = !byT w:=by rw [S1.ld,U.ld];simp
   have hpl:(t1.plain&&u.plain)=true:=by rw [S1.tb.pl,U.tb.pl];rfl
   by_cases hmk:t1.mask=u.mask
   ·have hc:((t1.mask==u.mask)&&(#[]:Array Nat).isEmpty)=true:=by simp [hmk]
    rw [hc];simp only [↓reduceIte];refine g0j (s:={s with heap:=h1}) ho1' hd1 ?_ (size_le U.tb);rw [hld,hpl];have T':Tb {u with dummies:= #[],finger:=t1.finger,led:= !byT w,moves:=t1.moves,plain:=true} ls:=⟨rfl,rfl,U.tb.nd,U.tb.lt,U.tb.sz,U.tb.rs,U.tb.mz⟩
    refine h _ _ ls (sb1.trans (nr _ a _)) (S1.put T' (by rw [S1.ld])) hu7 (fun n=>by simp) (fun _ e=>absurd e he)
   ·have hc:((t1.mask==u.mask)&&(#[]:Array Nat).isEmpty)=false:=by simp [hmk]
    rw [hc];simp only [gu, ↓reduceIte];have ht7:=hbm rfl;have hm1:t1.mask=15\/t1.mask=31\/t1.mask=63:=by
     rcases S1.tb.mz with⟨e,_⟩|⟨e,_⟩
     ·exfalso
      have:ls.length<5:=by rw [e] at r1;simp at r1;lia
      exact hmk (e.trans (hu this).symm)
     ·exact e
    obtain⟨t2,ord,ks2,e2,f2,p2,T2,m2,l2,c2⟩:=q5q (f:=t1.finger) (m:=t1.moves) (led:=t1.led&&u.led) (mask:=t1.mask) hm1 U.tb.nd U.tb.lt;rw [hpl,e2];refine q6n f2 (by simp [p2.length_eq]) ?_;dsimp only;refine g0j (s:={s with heap:=h1}) ho1' hd1 ?_ (size_le T2);refine h _ t2 ks2 (sb1.trans (nr _ a _)) (S1.put T2 (by rw [l2,hld,S1.ld])) (fun e=>by lia) (fun n=>?_) (fun _ e=>?_)
    ·rw [(p2.map Prod.fst).mem_iff];simp
    ·rw [e] at p2;exact absurd (by simpa using p2.symm) he
  ·have hfn:(ks.length != 0)=true:=by simp [hk]
   rw [hfn];simp only [↓reduceIte];refine g0 (qg1 (s:={s with heap:=h1}) U1 hu7 fun xs px=>?_);rw [<- Array.forIn_toList];have hxl:xs.length=ls.length:=px.length_eq;have key:=qcz (prog:=prog) (w:=w) (A:=A) (E:=E) (ls:=ls) (u:=u) (ep:=ep) (ob:=o) (each:=each) hab (fun {s'} {Q'} e q=>g1j e hd (q37 U.tb hu7) q) (fun {s'} {Q'} e q=>hea (by rw [e,ho]) q)
    xs {s with heap:=h1} t1 ks1 (fun _ s'=>wpAny (model prog w) A (pure ()) Q E s') (fun p hp=>U.tb.lt p (px.mem_iff.mp hp)) S1 (by rw [hl1,hxl];exact r1) ho1 (fun h2 t2 ks2 sb2 S2 m2 i2 l2=>?_)
   ·exact g0 key
   ·refine gb ?_
    refine h h2 t2 ks2 (sb1.trans sb2) S2 (fun e=>by lia) (fun n=>?_) (fun e=>absurd e hk);rw [i2 n,(p1.map Prod.fst).mem_iff,(px.map Prod.fst).mem_iff]
end
theorem qam:entryFor table "set.__or__" = some Builtin.«frozenset.__or__» :=
 entryFor_alias (id':="frozenset.__or__") (by kernel_rfl) rfl (by decide +kernel) (by kernel_rfl)
theorem qd0:isSubtype (.type "set") (.type "set")=pure true:=by rw [g0n];kernel_rfl
section
variable{prog:Program}{w:World}{A:Around}{E:Value->Shared->Prop}{s:Shared}{a b:Addr}{t u:SetTable}{ks ls:List (Nat×Nat)}
theorem SI.typeIs(S:SI w s.heap a t ks): s.TypeIs (.ref a) "set" :=let⟨o,_,ho,hc,_⟩:=S.ob; ⟨o,ho,hc.1⟩
def xt(w:World): Obj:={cls:=.type "set",dict:=none,data:=.set #[] 0 (.fresh 0 0 (!byT w))}
theorem qic{led:Bool}: Tb (.fresh 0 0 led) []:=⟨rfl,rfl,by simp,by simp,by simp [SetTable.fresh],by simp [SetTable.fresh],.inl ⟨rfl,by simp [SetTable.fresh]⟩⟩
theorem qan{h:Heap}(ho:h.get? a=some (xt w)): SI w h a (.fresh 0 0 (!byT w)) []:=⟨⟨_,0,ho,⟨rfl,rfl,rfl⟩,rfl⟩,qic,rfl⟩
theorem qg2{Q:Value->Shared->Prop}(h:Q (.ref s.heap.objs.size) {s with heap:=s.heap.push (xt w)}): wpAny (model prog w) A (newSet (.type "set")) Q E s:=by
 unfold newSet setsByText;refine g0 (g0 (nh (gb ?_)));dsimp only;simp only [newObj];exact g0 (wpAny_alloc (gb h))
theorem qao(S:SI w s.heap a t ks){Q:Bool->Shared->Prop}(h:Q true s): wpAny (model prog w) A (Builtin.Frozenset.isAnySet (.ref a)) Q E s:=by
 unfold Builtin.Frozenset.isAnySet;show wpAny _ _ (isInstance (.ref a) (.type "set") >>= fun b=>_) _ _ _;refine g0 (g04 S.typeIs qd0 ?_);exact gb h
theorem qoi{Q:Value->Shared->Prop}(hab:a≠b)(S:SI w s.heap a t ks)(hs:ks.length<5->t.mask=7)(hs7:t.mask=7->ks.length<8)(U:SI w s.heap b u ls)(hu:ls.length<5->u.mask=7)(hu7:u.mask=7->ls.length<8)
  (h:∀h' t' ks',(∀c o,c<s.heap.objs.size->s.heap.get? c=some o->h'.get? c=some o)->SI w h' s.heap.objs.size t' ks'->(t'.mask=7->ks'.length<8)->(∀n,n∈ks'.map Prod.fst↔n∈ks.map Prod.fst\/n∈ls.map Prod.fst)->Q (.ref s.heap.objs.size) {s with heap:=h'}) :
  wpAny (model prog w) A (binaryOp .BitOr (.ref a) (.ref b)) Q E s:=by
 refine wpAny_binaryOp_same S.typeIs U.typeIs F.fills_set_or F.slot_set_or (mm F.slot_set_or S.typeIs qam ?_ (F.args_set_or_2 _ _));have hla:a<s.heap.objs.size:=let⟨o,_,ho,_⟩:=S.ob;gh ho
 have hlb:b<s.heap.objs.size:=let⟨o,_,ho,_⟩:=U.ob;gh ho
 show wpAny _ _ ((Builtin.Frozenset.slot1 "__or__" ⟨[.ref a,.ref b],[]⟩) >>= _) _ _ _;refine g0 (gb ?_);dsimp only;refine g0 ?_;show wpAny _ _ (Builtin.Frozenset.isAnySet (.ref a) >>= _) _ _ _;refine g0 (qao S ?_);refine qao U ?_;simp only [g07,gu, ↓reduceIte];refine g0 (gb ?_);refine g0 ?_;show wpAny _ _ (Builtin.Frozenset.copyOf a >>= _) _ _ _;refine g0 ?_;unfold Builtin.Frozenset.copyOf Builtin.Frozenset.baseOf;refine g0 (g0 (g04 S.typeIs qd0 (gb ?_)));simp only [↓reduceIte];refine g0 (qg2 ?_);refine g0 (gb ?_);have hget:(s.heap.push (xt w)).get? s.heap.objs.size=some (xt w):=gi _ rfl;have old:∀c o,s.heap.get? c=some o->(s.heap.push (xt w)).get? c=some o:=fun c o e=>gc _ e;refine g0 (qal (s:={s with heap:=s.heap.push (xt w)}) (nk hla) (qan hget) (fun _=>rfl) (fun _=>by simp) (S.keep (old a)) hs hs7 (fun _ q=>gb q) fun h1 t1 ks1 sb1 S1 z1 i1 g1=>?_);refine gb ?_;have old1:∀c o,c<s.heap.objs.size->s.heap.get? c=some o->h1.get? c=some o:=fun c o hc e=>by
  rw [sb1.2 c (gr hc)];exact old c o e
 have hbne:((Value.ref b) != (Value.ref a))=true:=by simp [gw hab]
 rw [gz hbne];have U1:SI w h1 b u ls:=U.keep fun o e=>old1 b o hlb e;refine g0 (gb ?_);refine g0 (nv ?_);unfold Builtin.Frozenset.updateFrom;refine g0 (qao (s:={s with heap:=h1}) U1 ?_);simp only [↓reduceIte];refine g0 (gb ?_);unfold Builtin.Frozenset.merge;obtain⟨ob,ep,hob,hxb,hdb⟩:=id U1.ob;refine g0 (wpAny_setEpoch_of (s:={s with heap:=h1}) hob hdb (q37 U.tb hu7) ?_);refine qal (s:={s with heap:=h1}) (nk hlb) S1 (fun e=>g1 rfl e) z1 U1 hu hu7 (fun {s'} {Q'} e q=>?_) fun h2 t2 ks2 sb2 S2 z2 i2 g2=>?_
 ·unfold Builtin.Frozenset.unchanged
  have e':s'.heap.get? b=some ob:=e.trans hob;refine g0 (wpAny_setEpoch_of e' hdb (q37 U.tb hu7) ?_);rw [m4 (by simp)];exact gb q
 ·refine gb (gb ⟨_,rfl,by simp,?_⟩)
  refine h h2 t2 ks2 (fun c o hc e=>?_) S2 z2 (fun n=>?_)
  ·rw [sb2.2 c (gr hc)];exact old1 c o hc e
  ·rw [i2 n,i1 n];simp
end
def MR(t:SetTable)(ks:List (Nat×Nat)): Prop:=(ks.length<5->t.mask=7)/\(5<=ks.length->t.mask=31)
theorem MR.step{t t':SetTable}{ks ks':List (Nat×Nat)}{p:Nat×Nat}(m:MR t ks)(st:Step t ks p t' ks'): MR t' ks':=by
 obtain⟨T',l',c⟩:=st
 split at c
 ·obtain⟨rfl,rfl⟩:=c;exact m
 ·obtain⟨c1,c2⟩:=c
  have hl:ks'.length=ks.length+1:=by rw [c1.length_eq];rfl
  have h12:=T'.n12
  by_cases h5:ks.length<4
  ·rw [m.1 (by lia),m4 (by lia)] at c2
   exact⟨fun _=>c2,fun h=>by lia⟩
  ·by_cases h6:ks.length=4
   ·rw [m.1 (by lia),h6] at c2
    have:t'.mask=31:=by rw [c2];decide
    exact⟨fun h=>by lia,fun _=>this⟩
   ·rw [m.2 (by lia),m4 (by lia)] at c2
    exact⟨fun h=>by lia,fun _=>c2⟩
theorem Step.mem{t t':SetTable}{ks ks':List (Nat×Nat)}{p:Nat×Nat}(st:Step t ks p t' ks')(n:Nat): n∈ks'.map Prod.fst↔n∈ks.map Prod.fst\/n=p.1:=by
 obtain⟨T',l',c⟩:=st
 split at c
 ·rename_i hin
  obtain⟨rfl,rfl⟩:=c;exact⟨.inl,fun h=>h.elim id (fun e=>e ▸ hin)⟩
 ·rw [(c.1.map Prod.fst).mem_iff,gx,gm]
  exact Or.comm
def iv(p:Nat×Nat): Value:=.int (p.1:Int) p.2
section
variable{prog:Program}{w:World}{A:Around}{R:Result->Shared->Prop}{I:Addr}{fp wr:List Addr}{G:Array GenState->Array GenState->Prop}{P:Nat->Value->Prop}{St:Nat->Shared->Prop}
theorem qid(qs:List (Nat×Nat))(hq:∀p∈qs,p.1<12)(W:WalksS prog w A.in1 I fp wr G qs.length P St)(S:Addr)(hSf:S∉fp)
  (hval:∀i v,P i v->∃p,qs[i]? = some p/\v=iv p) :
  ∀(k i:Nat) (s:Shared) (t:SetTable) (ks:List (Nat×Nat)),qs.length-i=k->i<=qs.length->St i s ->
   SI w s.heap S t ks->MR t ks->(∀n,n∈ks.map Prod.fst↔n∈(qs.take i).map Prod.fst) ->
   (∀s' t' ks',Moved (S :: wr) G s s'->SI w s'.heap S t' ks'->MR t' ks'->(∀n,n∈ks'.map Prod.fst↔n∈qs.map Prod.fst)->R (.ok (.ret .none)) s') ->
   codeAny (model prog w) A (.builtin "set.update.loop" ⟨[.ref S,.ref I],[]⟩) R s:=by
 have hSw:S∉wr:=fun h=>hSf (W.sub _ h);have hsub:∀b∈wr,b∈S :: wr:=fun b hb=>m5 _ hb;intro k
 induction k with
 | zero=>
  intro i s t ks hk hi hst hS hM hmem hR;have hin:i=qs.length:=by lia
  subst hin;refine t5 g19 ?_;rw [pq uf _];show wpAny _ A.in1 (pyNext (.ref I) >>= _) _ _ s;refine g0 (W.done s _ _ hst fun s' hm=>?_);show wpAny _ A.in1 (ret Value.none) _ _ s';exact gb (hR s' t ks (hm.mono hsub) (hS.keep fun o e=>hm.heap S _ hSw e) hM (by simpa using hmem))
 | succ k ih=>
  intro i s t ks hk hi hst hS hM hmem hR;have hlt:i<qs.length:=by lia
  refine t5 g19 ?_;rw [pq uf _];show wpAny _ A.in1 (pyNext (.ref I) >>= _) _ _ s;refine g0 (W.item i s _ _ hlt hst fun v s' hP hst' hm=>?_);obtain⟨p,hp,rfl⟩:=hval i v hP;have hp12:=hq p (tm hp);have hS':SI w s'.heap S t ks:=hS.keep fun o e=>hm.heap S _ hSw e;show wpAny _ A.in1 (holding [iv p] (setAdd S (iv p)) >>= _) _ _ s';refine g0 (nv ?_);unfold setAdd;refine nv ?_;refine g0 ((intKind prog w).pyHash (k:=(p.1:Int)) (g21 _ _ _ _) ?_);rw [q36 hp12];refine qg0 (s:={s' with toks:=s'.toks+1}) hS' hp12 (fun e=>g01 fun c=>by have:=hM.2 (by lia);lia) fun h' t' ks' hsb S2 st=>?_;refine gb ⟨g0x uf _,ih (i+1) _ t' ks' (by lia) hlt (W.frame _ s' _ _ hst' (g37 _) fun b hb o e=>?_) S2 (hM.step st) (fun n=>?_) fun s'' t'' ks'' hm'' hS'' hM'' hi''=>?_⟩
  ·rw [hsb.2 b (fun h:b=S=>hSf (by rw [<- h];exact hb))];exact e
  ·rw [st.mem n,hmem n]
   have:qs.take (i+1)=qs.take i++[p]:=by
    rw [g3h,hp];rfl
   rw [this,g0b,p5];simp
  ·refine hR s'' t'' ks'' (Moved.trans W.gtrans ((hm.mono hsub).then_heap (g37 _) fun b o hb e=>?_) hm'') hS'' hM'' hi''
   rw [hsb.2 b (fun h:b=S=>hb (by rw [h];exact gv))];exact e
end
theorem sub_tuple_set:isSubtype (.type "tuple") (.type "set")=pure false:=by rw [g0n];kernel_rfl
theorem sub_tuple_frozenset:isSubtype (.type "tuple") (.type "frozenset")=pure false:=by rw [g0n];kernel_rfl
section
variable{prog:Program}{w:World}{A:Around}{E:Value->Shared->Prop}{s:Shared}
theorem qg3(a:Value){Q₁:Value->Shared->Prop}(h:Q₁ (.ref s.heap.objs.size) {s with heap:=s.heap.push (xt w)}):
  codeAny (model prog w) A (.call (.builtin "set.__new__") ⟨[.type "set",a],[]⟩) (wants Q₁ E) s:=by
 refine codeAny_of_tree ?_;show wpAny _ A.in1 (do checkBuiltinCall "set.__new__" ⟨[.type "set",a],[]⟩;again (.builtin "set.__new__" ⟨[.type "set",a],[]⟩)) _ _ s;refine g0 (wpAny_of_eq (F.newCall_set_1 a) (gb ⟨g0x F.plain_set_new _,t5 F.entry_set_new ?_⟩));rw [pq F.plain_set_new _];unfold Builtin.«set.__new__» Builtin.Frozenset.newClass;have hsub:=sub_set_self;obtain⟨hp,g,d,tk,os⟩:=s;dsimp only
 wp_walk
 refine nh (gb ?_);dsimp only;simp only [newObj];refine g0 (wpAny_alloc (gb ?_));exact gb h
set_option maxHeartbeats 3200000 in
theorem q7r{l:Addr}(qs:List (Nat×Nat))(hq:∀p∈qs,p.1<12){Q:Value->Shared->Prop}
  (hh:A.handled=none) (hl:s.heap.IsTuple l (qs.map iv).toArray)
  (h:∀(h':Heap) (tk:Nat) t ks,SI w h' s.heap.objs.size t ks->MR t ks->(∀n,n∈ks.map Prod.fst↔n∈qs.map Prod.fst)->s.toks<=tk ->
   (∀b o,b<s.heap.objs.size->s.heap.get? b=some o->h'.get? b=some o)->Q (.ref s.heap.objs.size) {s with heap:=h',toks:=tk}) :
  wpAny (model prog w) A (call (.type "set") [.ref l]) Q E s:=by
 obtain⟨c,tl,hmro⟩:=g05.mro;have hmade:=g05.made;have hsub:=g05.sub;refine g1u (codeAny_of_tree ?_);show wpAny _ _ (callAny (.type "set") _) _ _ _;refine gb ⟨Code.quiet_builtin _ (by decide +kernel),t5 F.entry_type_call ?_⟩;rw [Around.under_plain (weight_type_call_type "set" [.ref l] []) rfl];have h1:=g05.notType;have h2:=g05.canCreate;have hct:=F.typeCall_set_1 (.ref l)
 repeat (any_goals (first|assumption|wp_step))
 refine g14 (qg3 (.ref l) (E:=E) (Q₁:=fun obj s₁=>obj=.ref s.heap.objs.size/\s₁ = {s with heap:=s.heap.push (xt w)}) ⟨rfl,rfl⟩) fun r s₁ hr=>?_;cases r with
 | error e=>exact hr
 | ok fl=>
  cases fl with
  | ret obj=>
   obtain⟨rfl,rfl⟩:=hr;have hS:(s.heap.push (xt w)).get? s.heap.objs.size=some (xt w):=gi _ rfl;have hT:Shared.TypeIs {s with heap:=s.heap.push (xt w)} (.ref s.heap.objs.size) "set" :=⟨_,hS,rfl⟩
   have hli:=g05.init.lookup;have hbi:=g05.init.bind (.ref s.heap.objs.size)
   repeat (any_goals (first|assumption|wp_step))
   refine g14 (g0t (R:=wants (fun r s₂=>r=.none/\∃h' tk t ks,s₂ = {s with heap:=h',toks:=tk}/\SI w h' s.heap.objs.size t ks/\MR t ks/\(∀n,n∈ks.map Prod.fst↔n∈qs.map Prod.fst)/\s.toks<=tk /\
     (∀b o,b<s.heap.objs.size->s.heap.get? b=some o->h'.get? b=some o)) E) g05.init.plain F.entry_set_init (check_set_init_1 hT ?_)) fun r₂ s₂ hr₂=>?_
   ·have hl1:(s.heap.push (xt w)).IsTuple l (qs.map iv).toArray:=hl.push _
    obtain⟨ol,hol,hcl,hdl⟩:=id hl1;have hsls:=sub_tuple_set;have hslf:=sub_tuple_frozenset;have hne:(Value.type "tuple" == Value.type "dict")=false:=by decide
    have hTl:Shared.TypeIs {s with heap:=s.heap.push (xt w)} (.ref l) "tuple" :=⟨_,hol,hcl⟩
    unfold Builtin.«set.__init__» noKeywords Builtin.Frozenset.updateFrom;generalize hPI:pyIter=PI
    wp_walk
    subst hPI;refine g2d hl1 ?_;refine g0 (wpAny_runValue ?_);have hlS:l<s.heap.objs.size:=let⟨_,h0,_⟩:=hl;gh h0
    have hh3:A.in1.in1.in1.handled=none:=by simp [hh]
    have hneI:l≠(s.heap.push (xt w)).objs.size:=by
     rw [nc];exact gr (g1k hlS)
    have hSf:s.heap.objs.size∉[(s.heap.push (xt w)).objs.size,l]:=by
     rw [nc];simp only [gm,ug,mq,p9,g2f];exact⟨gr (t9 _),nk hlS⟩
    have hval:∀(i:Nat) (v:Value),(qs.map iv).toArray[i]? = some v->∃p,qs[i]? = some p/\v=iv p:=fun i v hv=>by
     simp only [List.getElem?_toArray,gy,gq] at hv;obtain⟨p,e1,e2⟩:=hv;exact⟨p,e1,e2.symm⟩
    have W:=(Walks.tuple (prog:=prog) (w:=w) hh3 (s.heap.push (xt w)).objs.size l hneI (qs.map iv).toArray).toS;have hsz:(qs.map iv).toArray.size=qs.length:=by simp
    rw [hsz] at W;refine qid qs hq W s.heap.objs.size hSf hval (qs.length-0) 0 _ (.fresh 0 0 (!byT w)) [] (by lia) (t7 _)
     ⟨⟨_,gi _ rfl,rfl,rfl⟩,(hl1.push _)⟩ (qan (gc _ hS)) ⟨fun _=>rfl,fun h=>by simp at h⟩ (fun n=>by simp) fun s' t' ks' hm hS' hM' hi'=>?_
    obtain⟨h',g',d',tk',os'⟩:=s';have eg:g'=s.gens:=hm.gens;have ed:d'=s.drawn:=hm.drawn;have eo:os'=s.os:=hm.os;have etk:s.toks<=tk':=hm.toks;subst eg;subst ed;subst eo;show wpAny _ _ _ _ _ _;refine gb ?_;show wpAny _ _ (ret Value.none) _ _ _;refine gb ⟨rfl,h',tk',t',ks',rfl,hS',hM',hi',etk,fun b o hb e=>?_⟩;have hb1:b≠s.heap.objs.size:=gr hb;have hb2:b≠(s.heap.push (xt w)).objs.size:=by
     rw [nc];exact gr (g1k hb)
    exact hm.heap b o (by simp only [gm,ug,mq,p9,g2f];exact⟨hb1,hb2⟩) (gc _ (gc _ e))
   ·cases r₂ with
    | error e=>exact hr₂
    | ok fl₂=>
     cases fl₂ with
     | ret r=>
      obtain⟨rfl,h',tk,t,ks,rfl,hS',hM',hi',htk',hk'⟩:=hr₂
      repeat (any_goals (first|assumption|wp_step))
      exact h _ _ _ _ hS' hM' hi' htk' hk'
     | _=>exact hr₂.elim
  | _=>exact hr.elim
end
theorem qap:Manifest.owners.lookup (String.ofList ['r','o','t','a','r','e','t','i','_','t','e','s'].reverse)=some Manifest.sig_set_iterator:=by kernel_rfl
theorem slot_si_next:Slot "set_iterator" "__next__" "set_iterator.__next__" :=
 .of (owner:="set_iterator") (n:="__next__") (by rw [g22,g0o];kernel_rfl) (by decide +kernel) (by decide +kernel) (by decide +kernel)
  (by first|exact .inl (by decide +kernel)|exact .inr (by decide +kernel)) (by rw [g0n];kernel_rfl)
theorem q3k:entryFor table "set_iterator.__next__" = some Builtin.«set_iterator.__next__» :=entryFor_of_tree (by kernel_rfl)
theorem q43(a:Value): argsOk "set_iterator.__next__" ⟨[a],[]⟩:=by
 unfold argsOk;rw [signature?_of (id:="set_iterator.__next__") (n:=['_','_','t','x','e','n','_','_']) (o:=['r','o','t','a','r','e','t','i','_','t','e','s']) (by kernel_rfl) qap];kernel_rfl
theorem q44:Slot "set_iterator" "__iter__" "set_iterator.__iter__" :=
 .of (owner:="set_iterator") (n:="__iter__") (by rw [g22,g0o];kernel_rfl) (by decide +kernel) (by decide +kernel) (by decide +kernel)
  (by first|exact .inl (by decide +kernel)|exact .inr (by decide +kernel)) (by rw [g0n];kernel_rfl)
theorem q94:entryFor table "set_iterator.__iter__" = some Builtin.«dict_keyiterator.__iter__» :=
 entryFor_alias (id':="dict_keyiterator.__iter__") (by kernel_rfl) rfl (by decide +kernel) (by kernel_rfl)
theorem qaq(a:Value): argsOk "set_iterator.__iter__" ⟨[a],[]⟩:=by
 unfold argsOk;rw [signature?_of (id:="set_iterator.__iter__") (n:=['_','_','r','e','t','i','_','_']) (o:=['r','o','t','a','r','e','t','i','_','t','e','s']) (by kernel_rfl) qap];kernel_rfl
theorem q7s:entryFor table "set.__iter__" = some Builtin.«frozenset.__iter__» :=
 entryFor_alias (id':="frozenset.__iter__") (by kernel_rfl) rfl (by decide +kernel) (by kernel_rfl)
def SIt(h:Heap)(it a:Addr)(slot i n ep:Nat): Prop:=∃o,h.get? it=some o/\o.cls=.type "set_iterator" /\ o.data=.fields #[.int slot 0,.int i 0,.ref a,.int n 0,.int ep 0]
def Row(w:World)(a:Addr)(ep:Nat)(ks vals:List (Nat×Nat)): Prop:=
 (byT w=true->(vals.map el).toArray=pickOrder (w.params.setOrder a ep) (ks.map el).toArray)/\(byT w=false->vals=ks)
theorem qmv(w:World)(a:Addr)(ep:Nat)(ks:List (Nat×Nat)): ∃vals,Row w a ep ks vals/\vals.Perm ks:=by
 cases hb:byT w
 ·exact⟨ks,⟨by simp [hb],fun _=>rfl⟩,g3g _⟩
 ·have hp:=q2o (w.params.setOrder a ep) (ks.map el).toArray
  generalize hx:pickOrder (w.params.setOrder a ep) (ks.map el).toArray=xs at hp;have hp':xs.toList.Perm (ks.map el):=by simpa using hp
  obtain⟨ls,hl,e⟩:=q5r hp';refine⟨ls,⟨fun _=>?_,by simp [hb]⟩,hl⟩;rw [hx, <- e]
def SAt(w:World)(h:Heap)(a:Addr)(t:SetTable)(ks:List (Nat×Nat))(ep:Nat): Prop:=
 (∃o,h.get? a=some o/\o.ExactSet/\o.data=.set (ks.map el).toArray ep t)/\Tb t ks/\t.led=(!byT w)/\(t.mask=7->ks.length<8)
def Far(w:World)(t:SetTable)(slot i:Nat): Prop:=byT w=false->(∀x∈t.place.toList.take i,x<slot)/\(∀x∈t.place.toList.drop i,slot<=x)
section
variable{prog:Program}{w:World}{A:Around}{E:Value->Shared->Prop}{s:Shared}{a it:Addr}{t:SetTable}{ks vals:List (Nat×Nat)}{ep slot i:Nat}
theorem SAt.typeIs(S:SAt w s.heap a t ks ep): s.TypeIs (.ref a) "set" :=let⟨⟨o,ho,hc,_⟩,_⟩:=S; ⟨o,ho,hc.1⟩
theorem SIt.typeIs{n:Nat}(S:SIt s.heap it a slot i n ep): s.TypeIs (.ref it) "set_iterator" :=let⟨o,ho,hc,_⟩:=S; ⟨o,ho,hc⟩
theorem SAt.state{Q:(Array (Int×Value)×Nat×SetTable)->Shared->Prop}(S:SAt w s.heap a t ks ep)(h:Q ((ks.map el).toArray,ep,t) s): wpAny (model prog w) A (setState a) Q E s:=by
 obtain⟨⟨o,ho,hc,hd⟩,T,l,h7⟩:=S;exact g1j ho hd (q37 T h7) h
theorem SAt.keep{h h':Heap}(S:SAt w h a t ks ep)(e:∀o,h.get? a=some o->h'.get? a=some o): SAt w h' a t ks ep:=by
 obtain⟨⟨o,ho,r⟩,q⟩:=S;exact⟨⟨o,e o ho,r⟩,q⟩
theorem qie{Q:Value->Shared->Prop}(S:SAt w s.heap a t ks ep)(h:Q (.ref s.heap.objs.size) {s with heap:=s.heap.push {cls:=.type "set_iterator",data:=.fields #[.int 0 0,.int 0 0,.ref a,.int ks.length 0,.int ep 0]} }):
  wpAny (model prog w) A (pyIter (.ref a)) Q E s:=by
 refine wpAny_pyIter_slot S.typeIs F.slot_set_iter (mm F.slot_set_iter S.typeIs q7s ?_ (F.args_set_iter_1 _));unfold Builtin.«frozenset.__iter__»;refine g0 (m:=Builtin.Frozenset.slot0 "__iter__" _) (gb ?_);refine g0 ?_;unfold Builtin.Frozenset.sizeOf setEntries;refine g0 (g0 (S.state (gb (gb ?_))));refine g0 ?_;unfold setDrawn setsByText;refine g0 (S.state ?_);dsimp only;refine g0 (g0 (nh (gb (gb ?_))));refine mr (fun c=>?_) (fun _=>?_)
 ·have c':(!byT w&&(!t.plain&&decide ((ks.map el).toArray.size>1)))=true:=c
  rw [S.2.1.pl] at c';simp at c'
 refine g0 (gb ?_);refine g0 ?_;unfold setEpoch;refine g0 (S.state (gb ?_));have hsz:(ks.map el).toArray.size=ks.length:=by simp
 rw [hsz];refine g0 (nt (gb ⟨_,rfl,"set_iterator",_,⟨_,gi _ rfl,rfl⟩,slot_si_next.lookup,?_⟩));exact h
theorem q6o{h:Heap}{o:Obj}{vs:Array Value}{x:Value}{j:Nat}(ho:h.get? it=some o)(hd:o.data=.fields vs):
  ∃o',(h.update it (Obj.mapFields (·.setIfInBounds j x))).get? it=some o'/\o'.cls=o.cls/\o'.data=.fields (vs.setIfInBounds j x):=
 ⟨_,uq _ ho (Obj.isFreed_of_fields (g17 hd _)),Obj.cls_mapFields ..,g17 hd _⟩
theorem next_item{Q:Option Value->Shared->Prop}{p:Nat×Nat}(I:SIt s.heap it a slot i ks.length ep)(S:SAt w s.heap a t ks ep)(R:Row w a ep ks vals)(F:Far w t slot i)(hp:vals[i]? = some p)
  (h:∀h' slot',SIt h' it a slot' (i+1) ks.length ep->Far w t slot' (i+1)->Heap.SameBut it s.heap h'->Q (some (.int (p.1:Int) p.2)) {s with heap:=h'}) :
  wpAny (model prog w) A (pyNext (.ref it)) Q E s:=by
 obtain⟨o,ho,hc,hd⟩:=id I;unfold pyNext;refine g0 (ur (mx (name:=Str.ofString "__next__") I.typeIs slot_si_next
  (mm slot_si_next I.typeIs q3k ?_ (q43 _))))
 unfold Builtin.«set_iterator.__next__»;refine g0 (m:=slotArgs "__next__" 0 _) (gb ?_);dsimp only;refine g0 (wpAny_fieldsOf ho hd ?_);dsimp only;unfold setEntries;refine g0 (g0 (S.state (gb ?_)));have hsz:(((ks.map el).toArray.size:Int) != (ks.length:Int))=false:=by simp
 dsimp only;rw [hsz];simp only [gu, ↓reduceIte,uy];have key:∃slot',Far w t slot' (i+1)/\∀ {Q':Option (Value×Nat)->Shared->Prop} {E':Value->Shared->Prop},Q' (some (.int (p.1:Int) p.2,slot')) s->wpAny (model prog w) A.in1 (setNext a slot i ep) Q' E' s:=by
  cases hb:byT w
  ·have hv:vals=ks:=R.2 hb
   rw [hv] at hp;obtain⟨f1,f2⟩:=F hb;have hpl:t.place=(t.place.toList.take i++t.place.toList.drop i).toArray:=by simp
   have hi:i<ks.length:=(ma.mp hp).1;have hi':i<t.place.toList.length:=by rw [S.2.1.sz];exact hi
   have hbel:SetTable.below t.place slot=i:=by
    rw [hpl,below_at f1 f2];simp at hi' ⊢;lia
   have hpj:t.place[i]? = some (t.place.toList[i]):=by rw [<- g1r];exact m9 hi'
   have hei:(ks.map el).toArray[i]? = some (el p):=by simp [hp]
   have hdr:t.place.toList.drop i=t.place.toList[i] :: t.place.toList.drop (i+1):=g12 hi';have htk:t.place.toList.take (i+1)=t.place.toList.take i++[t.place.toList[i]]:=by
    rw [g3h,m9 hi'];rfl
   have hrs:=S.2.1.rs;rw [<- g1q i t.place.toList,hdr] at hrs;obtain⟨r1,r2,r3⟩:=g0v.mp hrs;refine⟨t.place.toList[i]+1,fun _=>⟨fun x hx=>?_,fun x hx=>?_⟩,fun {Q'} {E'} q=>?_⟩
   ·rw [htk] at hx
    rcases p5.mp hx with h|h
    ·have:=r3 x h _ (gv ..);lia
    ·have:=ug.mp h;lia
   ·have:=(g0a.mp r2).1 x hx;lia
   ·unfold setNext setsByText
    refine g0 (S.state ?_);dsimp only;refine g0 (g0 (nh (gb ?_)));refine mr (fun c=>?_) (fun _=>?_)
    ·have c':byT w=true:=c
     rw [hb] at c';exact absurd c' (by decide)
    refine mr (fun c=>?_) (fun _=>?_)
    ·have c':(!t.plain&&decide ((ks.map el).toArray.size>1))=true:=c
     rw [S.2.1.pl] at c';simp at c'
    have hld:t.led=true:=by rw [S.2.2.1,hb];rfl
    show wpAny _ _ ((do if !t.led && !(ks.map el).toArray.isEmpty then unsupported "set:maker-not-led" : Sem Unit) >>= fun _=>_) _ _ _;rw [hld];simp only [g07,pk,gu, ↓reduceIte];refine g0 (gb (gb ?_));rw [hbel,hei,hpj];exact q
  ·have hv:=R.1 hb
   refine⟨slot,fun c=>?_,fun {Q'} {E'} q=>?_⟩
   ·rw [hb] at c;exact absurd c (by decide)
   ·unfold setNext setsByText
    refine g0 (S.state ?_);dsimp only;refine g0 (g0 (nh (gb ?_)));refine mr (fun _=>?_) (fun c=>absurd hb c);rw [m4 (by simp)];refine g0 ?_;unfold setWalk setsByText;refine g0 (S.state ?_);dsimp only;refine g0 (g0 (nh (gb ?_)));refine mr (fun _=>?_) (fun c=>absurd hb c);refine g0 (nh (gb (gb ?_)));have:(pickOrder (w.params.setOrder a ep) (ks.map el).toArray)[i]? = some (el p):=by rw [<- hv];simp [hp]
    show Q' (((pickOrder (w.params.setOrder a ep) (ks.map el).toArray)[i]?).map fun e=>(e.2,slot)) s;rw [this];exact q
 obtain⟨slot',F',kn⟩:=key;refine g0 (kn ?_);dsimp only;refine g0 (g1c ho hd (by simp) ?_);obtain⟨o1,ho1,hc1,hd1⟩:=q6o (x:=rawInt slot') (j:=0) ho hd;refine g0 (g1c (s:={s with heap:=s.heap.update it (Obj.mapFields (·.setIfInBounds 0 (rawInt slot')))}) ho1 hd1 (by simp) (gb ⟨_,rfl,gb (h _ slot' ?_ F' ((nr ..).trans (nr ..)))⟩));obtain⟨o2,ho2,hc2,hd2⟩:=q6o (x:=rawInt (i+1)) (j:=1) ho1 hd1;exact⟨o2,ho2,hc2.trans (hc1.trans hc),by rw [hd2];simp [rawInt]⟩
theorem next_end{Q:Option Value->Shared->Prop}(hh:A.handled=none)(hi:i=ks.length)(I:SIt s.heap it a slot i ks.length ep)(S:SAt w s.heap a t ks ep)(R:Row w a ep ks vals)(hvl:vals.length=ks.length)(F:Far w t slot i)
  (h:∀h',Heap.ExtBut it s.heap h'->Q none {s with heap:=h'}) :
  wpAny (model prog w) A (pyNext (.ref it)) Q E s:=by
 obtain⟨o,ho,hc,hd⟩:=id I;unfold pyNext;refine g0 (ur (mx (name:=Str.ofString "__next__") I.typeIs slot_si_next
  (mm slot_si_next I.typeIs q3k ?_ (q43 _))))
 unfold Builtin.«set_iterator.__next__»;refine g0 (m:=slotArgs "__next__" 0 _) (gb ?_);dsimp only;refine g0 (wpAny_fieldsOf ho hd ?_);dsimp only;unfold setEntries;refine g0 (g0 (S.state (gb ?_)));have hsz:(((ks.map el).toArray.size:Int) != (ks.length:Int))=false:=by simp
 dsimp only;rw [hsz];simp only [gu, ↓reduceIte,uy];have key:∀ {Q':Option (Value×Nat)->Shared->Prop} {E':Value->Shared->Prop},Q' none s->wpAny (model prog w) A.in1 (setNext a slot i ep) Q' E' s:=by
  intro Q' E' q;unfold setNext setsByText;refine g0 (S.state ?_);dsimp only;refine g0 (g0 (nh (gb ?_)));cases hb:byT w
  ·refine mr (fun c=>?_) (fun _=>?_)
   ·have c':byT w=true:=c
    rw [hb] at c';exact absurd c' (by decide)
   refine mr (fun c=>?_) (fun _=>?_)
   ·have c':(!t.plain&&decide ((ks.map el).toArray.size>1))=true:=c
    rw [S.2.1.pl] at c';simp at c'
   have hld:t.led=true:=by rw [S.2.2.1,hb];rfl
   show wpAny _ _ ((do if !t.led && !(ks.map el).toArray.isEmpty then unsupported "set:maker-not-led" : Sem Unit) >>= fun _=>_) _ _ _;rw [hld];simp only [g07,pk,gu, ↓reduceIte];refine g0 (gb (gb ?_));obtain⟨f1,f2⟩:=F hb;have hpl:t.place=(t.place.toList.take i++t.place.toList.drop i).toArray:=by simp
   have hbel:SetTable.below t.place slot=i:=by
    rw [hpl,below_at f1 f2];have:=S.2.1.sz;simp at this ⊢;lia
   have hei:(ks.map el).toArray[i]? = none:=by simp [hi]
   rw [hbel,hei];exact q
  ·refine mr (fun _=>?_) (fun c=>absurd hb c)
   rw [m4 (by simp)];refine g0 ?_;unfold setWalk setsByText;refine g0 (S.state ?_);dsimp only;refine g0 (g0 (nh (gb ?_)));refine mr (fun _=>?_) (fun c=>absurd hb c);refine g0 (nh (gb (gb ?_)));have:(pickOrder (w.params.setOrder a ep) (ks.map el).toArray)[i]? = none:=by rw [<- R.1 hb];simp [hi,hvl]
   show Q' (((pickOrder (w.params.setOrder a ep) (ks.map el).toArray)[i]?).map fun e=>(e.2,slot)) s;rw [this];exact q
 refine g0 (key ?_);dsimp only;refine g0 (g1c ho hd (by simp) ?_);show wpAny _ _ (newExc (.type "StopIteration") [] >>= _) _ _ _;refine g0 ?_;simp only [newExc,newTuple];refine g0 (nt ?_ (by size_fits));refine g0 (m:=firstArgMember _ _) (wpAny_of_eq (a:=Value.none) (by first|rfl|(simp only [firstArgMember];rfl)) ?_);refine nt ?_ (by size_fits);simp only [raiseNew];refine g0 (wpAny_handled ?_)
 first|rw [show A.in1.handled=none from hh]|rw [hh]
 refine g0 (gb (wpAny_throw ?_));refine g0 (g04 (T:="StopIteration") (b:=true) ⟨_,gi _ rfl,rfl⟩ isSubtype_stop ?_);exact gb (h _ (((nr ..).extBut.push _).push _))
theorem qg4(hh:A.handled=none)(hne:a≠it)(R:Row w a ep ks vals)(hvl:vals.length=ks.length):
  Walks prog w A it [it,a] [it] ks.length (fun i v=>∃p,vals[i]? = some p/\v=.int (p.1:Int) p.2) (fun i h=>∃slot,SIt h it a slot i ks.length ep/\SAt w h a t ks ep/\Far w t slot i) where
 sub:=fun b hb=>by simp at hb;simp [hb]
 frame:=fun i h h' st hk=>by
  obtain⟨slot,⟨o,ho,r⟩,S,F⟩:=st;exact⟨slot,⟨o,hk it (by simp) o ho,r⟩,S.keep (fun o e=>hk a (by simp) o e),F⟩
 item:=fun i s Q E hi st hQ=>by
  obtain⟨slot,I,S,F⟩:=st;have hi':i<vals.length:=by lia
  refine next_item I S R F (m9 hi') fun h' slot' I' F' sb=>?_;exact hQ _ h' s.toks ⟨_,m9 hi',rfl⟩ ⟨slot',I',S.keep (fun o e=>sb.extBut a o hne e),F'⟩ fun b o hb e=>sb.extBut b o (fun h=>hb (by simp [h])) e
 done:=fun s Q E st hQ=>by
  obtain⟨slot,I,S,F⟩:=st;exact next_end hh rfl I S R hvl F fun h' he=>hQ h' s.toks fun b o hb e=>he b o (fun h=>hb (by simp [h])) e
 self:=fun i s Q E st hQ=>by
  obtain⟨slot,I,S,F⟩:=st;refine wpAny_pyIter_slot I.typeIs q44 (mm q44 I.typeIs q94 ?_ (qaq _));show wpAny _ _ (ret (.ref it)) _ _ s;exact gb ⟨_,rfl,"set_iterator",_,I.typeIs,slot_si_next.lookup,hQ⟩
end
end Js
namespace Js
open PySem PyProof.Rows
section
variable{prog:Program}{w:World}{A:Around}{E:Value->Shared->Prop}{s:Shared}{a:Addr}{t:SetTable}{ks vals:List (Nat×Nat)}{ep:Nat}
theorem qif{Q:Bool->Shared->Prop}(hT:s.TypeIs (.ref a) "set")(h:Q false s): wpAny (model prog w) A (Builtin.List.listLengthHint (.ref a)) Q E s:=by
 unfold Builtin.List.listLengthHint;refine g0 (wpAny_specialOf hT F.slot_set_len.lookup ?_);generalize hid:("set.__len__" : String)=id0;dsimp only;rw [show splitId id0=some ("set","__len__") from by subst hid;decide +kernel];subst hid;dsimp only;refine g0 (g04 (T:="set") (b:=true) hT (by rw [g0n];kernel_rfl) ?_);refine mr (fun hab=>absurd hab (by decide)) (fun _=>?_);refine mr (fun _=>?_) (fun hab=>absurd (by decide +kernel) hab);refine g0 (g0k hT ?_);exact gb h
def iv'(p:Nat×Nat): Value:=.int (p.1:Int) p.2
theorem qig{vals:List (Nat×Nat)}{n:Nat}{acc:Array Value}(hn:vals.length=n)(h:ItemsOf (fun i v=>∃p,vals[i]? = some p/\v=.int (p.1:Int) p.2) acc n): acc.toList=vals.map iv':=by
 apply List.ext_getElem?;intro i
 by_cases hi:i<n
 ·have h1:i<acc.size:=by rw [h.1];exact hi
  have e:acc[i]? = some acc[i]:=g2n h1;obtain⟨p,hp,hv⟩:=h.2 i _ e;rw [g1r,e,gy,hp,hv];rfl
 ·rw [g1r,Array.getElem?_eq_none (by rw [h.1];omega),gy,g3i (by omega)];rfl
theorem qbt{Q:List Value->Shared->Prop}(hh:A.handled=none)(S:SAt w s.heap a t ks ep)
  (h:∀(s':Shared) (vals:List (Nat×Nat)),vals.Perm ks->(∀b o,b<s.heap.objs.size->s.heap.get? b=some o->s'.heap.get? b=some o)->s.heap.objs.size<=s'.heap.objs.size->s'.gens=s.gens->s'.drawn=s.drawn->s'.os=s.os->s.toks<=s'.toks->Q (vals.map iv') s') :
  wpAny (model prog w) A (collect (.ref a)) Q E s:=by
 have hla:a<s.heap.objs.size:=let⟨⟨o,ho,_⟩,_⟩:=S;gh ho
 unfold collect;refine g0 (wpAny_runValue (t5 F.entry_proto_collect ?_));rw [pq F.plain_proto_collect _];show wpAny _ A.in1 (newList [] >>= fun l=>again (.builtin "list.__iadd__" ⟨[l,.ref a],[]⟩)) _ _ s;refine g0 (nt ?_);refine gb ⟨g0x F.plain_list_iadd _,t5 F.entry_list_iadd ?_⟩;rw [pq F.plain_list_iadd _]
 let lo:Obj:={cls:=.type "list",data:=.seq ([]:List Value).toArray}
 have S1:SAt w (s.heap.push lo) a t ks ep:=S.keep fun o e=>gc _ e;show wpAny _ A.in1 (Builtin.List.listExtendWith (.ref s.heap.objs.size) (.ref a) (.ref s.heap.objs.size)) _ _ _;unfold Builtin.List.listExtendWith;refine g0 (g0k S1.typeIs ?_);have h1:Builtin.List.listSameRef (.ref s.heap.objs.size) (.ref a)=false:=by simp [Builtin.List.listSameRef];exact nk hla
 have h2:(Value.type "set" == Value.type "list")=false:=by decide
 have h3:(Value.type "set" == Value.type "tuple")=false:=by decide
 simp only [h1,h2,h3,g3j,gu,g02]
 let io:Obj:={cls:=.type "set_iterator",data:=.fields #[.int 0 0,.int 0 0,.ref a,.int ks.length 0,.int ep 0]}
 refine g0 (qie (s:={s with heap:=s.heap.push lo}) S1 ?_);have hsz1:(s.heap.push lo).objs.size=s.heap.objs.size+1:=nc ..;have S2:SAt w ((s.heap.push lo).push io) a t ks ep:=S1.keep fun o e=>gc _ e;refine g0 (nv (qif (s:={s with heap:=(s.heap.push lo).push io}) S2.typeIs ?_));refine mr (fun _=>?_) (fun hab=>absurd (by decide +kernel) hab);refine g0 (ud ?_);have hL1:((s.heap.push lo).push io).get? s.heap.objs.size=some lo:=gc _ (gi _ rfl);refine g0 ?_;show wpAny _ A.in1 (updateSeq s.heap.objs.size (·.push .none) >>= fun _=>updateSeq s.heap.objs.size (·.pop)) _ _ _;refine g0 (g34 (s:={s with heap:=(s.heap.push lo).push io}) hL1 rfl ?_);have hL2:=uq (Obj.mapSeq (·.push Value.none)) hL1 rfl;refine g34 hL2 rfl ?_;have hL3:=uq (Obj.mapSeq (·.pop)) hL2 rfl
 let h3':=(((s.heap.push lo).push io).update s.heap.objs.size (Obj.mapSeq (·.push Value.none))).update s.heap.objs.size (Obj.mapSeq (·.pop))
 have oth:∀b o,b≠s.heap.objs.size->((s.heap.push lo).push io).get? b=some o->h3'.get? b=some o:=
  fun b o hb e=>(uc _ _ (gw hb)).trans ((uc _ _ (gw hb)).trans e)
 obtain⟨vals,hR,hvp⟩:=qmv w a ep ks;have hvl:vals.length=ks.length:=hvp.length_eq;have W:=(qg4 (prog:=prog) (w:=w) (A:=A.in1) (it:=(s.heap.push lo).objs.size) (t:=t) (vals:=vals) (by simpa using hh) (by rw [hsz1];exact gr (g1k hla)) hR hvl).toS;have hIt:SIt h3' (s.heap.push lo).objs.size a 0 0 ks.length ep:=⟨io,oth _ _ (by rw [hsz1];exact Nat.succ_ne_self _) (gi _ rfl),rfl,rfl⟩
 have hn12:=S.2.1.n12;refine gb ⟨g0x F.plain_extend_loop _,codeAny_extend_loopS W (by rw [g0y];omega) s.heap.objs.size (by rw [hsz1];simp only [gm,mq,p9,g2f];exact⟨gr (t9 _),nk hla⟩) _ ks.length 0 _ _ _ rfl (t7 _)
  ⟨0,hIt,S2.keep fun o e=>oth a o (gr hla) e,fun _=>⟨by simp,by simp⟩⟩ hL3 (ItemsOf.nil _) fun s' acc' c' hm hS' hacc=>?_⟩
 show wpAny _ A (load s.heap.objs.size >>= _) _ _ s';refine g0 (wpAny_load hS' ?_);refine gb ?_;rw [qig hvl hacc];refine h s' vals hvp (fun b o hb e=>hm.heap b o (by rw [hsz1];simp only [gm,mq,p9,g2f];exact⟨gr hb,gr (g1k hb)⟩) (oth b o (gr hb) (gc _ (gc _ e)))) (g1t (gh hS')) hm.gens hm.drawn hm.os hm.toks
theorem qe4{Q:Value->Shared->Prop}(hh:A.handled=none)(S:SAt w s.heap a t ks ep)
  (h:∀(h':Heap) (tk:Nat) (c:Addr) (out:List Value) (ns':List Int) (e:Nat),IntsAre out ns'->ns'.Perm (ks.map fun p=>(p.1:Int))->ns'.Pairwise (· <= ·)->(∀b o,b<s.heap.objs.size->s.heap.get? b=some o->h'.get? b=some o) ->
   s.heap.objs.size<=c->h'.get? c=some (seqObj "list" out.toArray e)->s.toks<=tk->Q (.ref c) {s with heap:=h',toks:=tk}) :
  wpAny (model prog w) A (call (.builtin "sorted") [.ref a]) Q E s:=by
 refine Calls.call_function_entry kind_sorted plain_sorted entry_sorted (args_sorted1 _) ?_;unfold Builtin.«sorted»;refine g0 (m:=checkCount "sorted" 1 1 _) (gb ?_);have hn12:=S.2.1.n12;refine g0 (qbt (A:=A.in1) (by simpa using hh) S fun s1 vals hp hk hz hg hd ho ht=>?_);have hvl:vals.length=ks.length:=hp.length_eq;refine g0 (wpAny_newList ?_);have hoL:(s1.heap.push (seqObj "list" (vals.map iv').toArray 0)).get? s1.heap.objs.size=some (seqObj "list" (vals.map iv').toArray 0):=gi _ rfl;have hI:IntsAre (vals.map iv') (vals.map fun p=>(p.1:Int)):=by
  clear hoL hvl hp
  induction vals with
  | nil=>exact .nil
  | cons p l ih=>exact .cons _ _ ih
 refine g0 (nv (mm slot_list_sort ⟨_,hoL,rfl⟩ entry_list_sort (list_sort_tree (s:={s1 with heap:=s1.heap.push (seqObj "list" (vals.map iv').toArray 0)}) hoL hI (by simp;omega) fun out ns' a1 a2 a3=>⟨_,rfl,?_⟩) (args_list_sort _)));refine gb ⟨_,rfl,?_⟩;obtain⟨h1,g1,d1,t1,o1⟩:=s1;dsimp only at hk hz hg hd ho ht hoL;subst hg;subst hd;subst ho;have hz1:(h1.push (seqObj "list" (vals.map iv').toArray 0)).objs.size=h1.objs.size+1:=nc ..;have e1:=get?_update_seq hoL (fun _=> #[]);have e2:=gc (seqObj "tuple" (vals.map iv').toArray 0) e1;have e3:=gc (seqObj "list" #[] 0) e2;have e4:=get?_update_seq e3 (fun _=>out);refine h (sortedHeap (h1.push (seqObj "list" (vals.map iv').toArray 0)) h1.objs.size (vals.map iv') out) t1 h1.objs.size out.toList ns' _ a1 (a2.trans (hp.map _)) a3 (fun b ob hb e=>?_) hz (by unfold sortedHeap;simpa using e4) ht;have nb:b≠h1.objs.size:=gr (gs hb hz);unfold sortedHeap;refine(uc _ _ (gw nb)).trans ?_;refine gc _ (gc _ ?_);refine(uc _ _ (gw nb)).trans ?_;exact gc _ (hk b ob hb e)
end
end Js
namespace DL
open PySem PySem.Spec PyProof.Rows L2
variable[Lam]
def q29:List D->Option (List Nat)
 | []=>some []
 | .int i :: r=>if 0<=i/\i<12 then(q29 r).map (i.toNat :: ·) else none
 | _ :: _=>none
def qe5:D->D->Option (List D)
 | .tup ds,.tup es=>(q29 ds).bind fun a=>(q29 es).bind fun b=>some (((List.range 12).filter fun n=>decide (n∈a\/n∈b)).map fun n=>D.int (n:Nat))
 | _,_=>none
def qe6(f g:FE): FA:=fun ρ =>(f ρ).bind fun x=>(g ρ).bind fun y=>qe5 x y
def q38(w:World)(a:Addr)(ns:List Nat): HO:=.ext fun h=>∃t ks,Js.SI w h a t ks/\Js.MR t ks/\∀n,n∈ks.map Prod.fst↔n∈ns
def qe7(w:World)(a:Addr)(ns:List Nat): HO:=.ext fun h=>∃t ks,Js.SI w h a t ks/\(t.mask=7->ks.length<8)/\∀n,n∈ks.map Prod.fst↔n∈ns
def qpj(K:Frag)(w:World): List V->Hp->VK->Prop:=fun xs H Q=>∃F ds ns,Same F H/\RepL K F [.tup ds] xs/\q29 ds=some ns/\∀a,H a=none->Q (.ref a) (upd H a (q38 w a ns))
def rOr(w:World): R2:=fun x y H Q=>∃a b ns ms,x=.ref a/\y=.ref b/\a≠b/\H a=some (q38 w a ns)/\H b=some (q38 w b ms)/\∀c,H c=none->Q (.ref c) (upd H c (qe7 w c (ns++ms)))
def qoj(w:World): List V->Hp->VK->Prop:=fun xs H Q=>∃a ns,xs=[.ref a]/\H a=some (qe7 w a ns)/\∀c,H c=none->Q (.ref c) (upd H c (.lst (((List.range 12).filter fun n=>decide (n∈ns)).map fun n=>V.int (n:Nat))))
omit [Lam] in
theorem q8g{K:Frag}{F:Hp}: ∀ {ds:List D} {ys:List V} {its:List Value} {ns:List Nat},q29 ds=some ns->RepL K F ds ys->Vals ys its->∃qs:List (Nat×Nat),its=qs.map Js.iv/\(∀p∈qs,p.1<12)/\qs.map Prod.fst=ns
 | [],ys,its,ns,h,k,r=>by
  cases h;cases k.nil_inv;cases r;exact⟨[],rfl,by simp,rfl⟩
 | .int i :: ds,ys,its,ns,h,k,r=>by
  unfold q29 at h
  split at h
  ·rename_i hi
   obtain⟨ms,h1,rfl⟩:=gq.mp h;obtain⟨x,ys',rfl,a1,a2⟩:=k.cons_inv;cases rep_int.mp a1;cases r with
   | cons b1 b2=>
    obtain⟨qs,e1,e2,e3⟩:=q8g h1 a2 b2;obtain⟨tk,rfl⟩:=b1;refine⟨(i.toNat,tk) :: qs,?_,?_,by simp [e3]⟩
    ·rw [e1,gx]
     congr 1
     show _=Value.int ((i.toNat:Nat):Int) tk;rw [g26 hi.1]
    ·intro p hp
     rcases gm.mp hp with rfl|hp
     ·show i.toNat<12
      lia
     ·exact e2 p hp
  ·cases h
 | .non :: _,_,_,_,h,_,_=>by cases h
 | .bl _ :: _,_,_,_,h,_,_=>by cases h
 | .str _ :: _,_,_,_,h,_,_=>by cases h
 | .tup _ :: _,_,_,_,h,_,_=>by cases h
 | .lst _ :: _,_,_,_,h,_,_=>by cases h
 | .dct _ _ :: _,_,_,_,h,_,_=>by cases h
 | .dtt _ _ :: _,_,_,_,h,_,_=>by cases h
 | .obj _ :: _,_,_,_,h,_,_=>by cases h
 | .exc _ :: _,_,_,_,h,_,_=>by cases h
section
variable{X:Cx}
theorem qg5(hc:X.calm=true): zi X (.type "set") (qpj X.K X.w):=fun pins s σ H xs us Q I rv ⟨F,ds,ns,fh,rl,hn,q⟩=>by
 obtain⟨x,rfl,rx⟩:=rep1 rl;obtain⟨a,ys,rfl,k1,k2⟩:=rep_tup.mp rx;obtain⟨u,rfl,ru⟩:=vals1 rv;cases ru;obtain⟨its,r1,p1,hz⟩:=I.tuple (ql fh k1);obtain⟨qs,rfl,hq,rfl⟩:=q8g hn k2 r1;refine Js.q7r qs hq (I.ok.hd hc) p1 fun h' tk t ks S M m ht old=>?_;have hnn:H s.heap.objs.size=none:=I.hok.fresh (gp _);obtain⟨o,ep,ho,hx,hd⟩:=id S.ob;refine⟨.ref _,_,I.laid (t':=tk) (a:=s.heap.objs.size) (o:=q38 X.w s.heap.objs.size (qs.map Prod.fst)) (fun b ob qb=>old b ob (gh qb) qb) (gp _) ⟨⟨t,ks,S,M,m⟩,⟨o,ho⟩,fun h1 h2 ⟨t,ks,S,M,m⟩ e=>⟨t,ks,S.keep e,M,m⟩⟩,rfl,q _ hnn⟩
theorem qmw:OpR X (binaryOp .BitOr) (rOr X.w):=fun pins s σ H x y v u Q I rx ry ⟨a,b,ns,ms,e1,e2,hab,ha,hb,q⟩=>by
 subst e1;subst e2;cases rx;cases ry;obtain⟨⟨t,ks,S,M,m⟩,_,_⟩:=I.hok a _ ha;obtain⟨⟨t',ks',S',M',m'⟩,_,_⟩:=I.hok b _ hb;have m7:∀ {t:SetTable} {ks:List (Nat×Nat)},Js.MR t ks->t.mask=7->ks.length<8:=fun M e=>g01 fun c=>by
  have:=M.2 (by lia);lia
 refine Js.qoi hab S M.1 (m7 M) S' M'.1 (m7 M') fun h2 t2 ks2 old S2 h72 m2=>?_;have hnn:H s.heap.objs.size=none:=I.hok.fresh (gp _);obtain⟨o,ep,ho,hx,hd⟩:=id S2.ob;refine⟨.ref _,_,I.laid (t':=s.toks) (a:=s.heap.objs.size) (o:=qe7 X.w s.heap.objs.size (ns++ms)) (fun c ob qb=>old c ob (gh qb) qb) (gp _) ⟨⟨t2,ks2,S2,h72,fun n=>?_⟩,⟨o,ho⟩,fun h1 h2 ⟨t,ks,S,M,m⟩ e=>⟨t,ks,S.keep e,M,m⟩⟩,rfl,q _ hnn⟩;rw [m2 n,m n,m' n,p5]
theorem qk9(hc:X.calm=true): zi X (.builtin "sorted") (qoj X.w):=fun pins s σ H xs us Q I rv ⟨a,ns,e1,ha,q⟩=>by
 subst e1;obtain⟨u,rfl,ru⟩:=vals1 rv;cases ru;obtain⟨⟨t,ks,S,h7,m⟩,_,_⟩:=I.hok a _ ha;obtain⟨o,ep,ho,hx,hd⟩:=id S.ob;refine Js.qe4 (I.ok.hd hc) ⟨⟨o,ho,hx,hd⟩,S.tb,S.ld,h7⟩ fun h' tk c out ns' e hI hp hs old hc' hget ht=>?_;have hnn:H c=none:=I.hok.fresh hc';have hL:ns'=((List.range 12).filter fun n=>decide (n∈ns)).map fun n:Nat=>(n:Int):=by
  refine q42 (hp.trans ?_) hs ?_
  ·have:(ks.map Prod.fst).Perm ((List.range 12).filter fun n=>decide (n∈ns)):=by
    refine(g2j S.tb.nd (g20 _ g2x)).mpr fun n=>?_;rw [uj,pj,g0d, <- m n];refine⟨fun h=>⟨?_,h⟩,fun h=>h.2⟩;obtain⟨p,hp,rfl⟩:=ni.mp h;exact S.tb.lt p hp
   have h2:=this.map fun n:Nat=>(n:Int)
   rw [uh] at h2;exact h2
  ·rw [g2m]
   refine List.Pairwise.imp (fun {a b} h=>?_) (g20 _ (g3a (n:=12)));lia
 subst hL;have vo:=q0d hI;rw [uh] at vo;refine⟨.ref c,_,I.laid (t':=tk) (a:=c) (o:=.lst (((List.range 12).filter fun n=>decide (n∈ns)).map fun n=>V.int (n:Nat))) (fun b ob qb=>old b ob (gh qb) qb) hc' ⟨?_,out,e,vo,hget⟩,rfl,q _ hnn⟩;rw [mj];exact my (g1s _ _) (x9 (by simp;decide))
theorem qka{a b:Expr}{f g:FE}{p p1 p2 q1 q2 q3 pos:Pos}(hc:X.calm=true)(hgs:Gl X "sorted")(hms:X.mg "sorted" = none)(hgt:Gl X "set")(hmt:X.mg "set" = none)(ha:PE X a (tD X.K f))(hb:PE X b (tD X.K g))
  (s1:starEach [a] X.env=(false,eval a X.env) :: starEach [] X.env:=by rfl) (s2:starEach [b] X.env=(false,eval b X.env) :: starEach [] X.env:=by rfl)
  (s3:starEach [.BinOp (.Call (.Name "set" p1) [a] [] q1) .BitOr (.Call (.Name "set" p2) [b] [] q2) q3] X.env=(false,eval (.BinOp (.Call (.Name "set" p1) [a] [] q1) .BitOr (.Call (.Name "set" p2) [b] [] q2) q3) X.env) :: starEach [] X.env:=by rfl)
  (h1:∀pos,(backTo pos (starEach [] X.env)).any (·.1)=false:=by intro _;rfl) :
  PE X (.Call (.Name "sorted" p) [.BinOp (.Call (.Name "set" p1) [a] [] q1) .BitOr (.Call (.Name "set" p2) [b] [] q2) q3] [] pos) (tL X.K (qe6 f g)):=by
 refine za (q01 (qk9 hc) hgs hms boot_sorted (ze (qj1 qmw (q1y (qg5 hc) hgt hmt (T:="set") (by rfl) (ze ha y0 s1) (he:=s1) (hpl:=h1 _)) (q1y (qg5 hc) hgt hmt (T:="set") (by rfl) (ze hb y0 s2) (he:=s2) (hpl:=h1 _))) y0 s3) (he:=s3) (hpl:=h1 _)) fun σ H Q ⟨F0,H0,F, ρ,ds,r,hf,q⟩=>?_;obtain⟨x,hx,hf⟩:=g9.mp hf;obtain⟨y,hy,hj⟩:=g9.mp hf;unfold qe5 at hj
 split at hj
 ·rename_i xs ys
  obtain⟨ns,hn,hj⟩:=g9.mp hj;obtain⟨ms,hm,hj⟩:=g9.mp hj;cases hj;refine⟨F0,H0,F, ρ,.tup xs,r,hx,fun v F1 H1 g1 r1=>?_⟩;refine⟨F1,xs,ns,g1.fh,.cons r1 .nil,hn,fun c1 hc1=>?_⟩;have g2:Grow F1 H1 F1 (upd H1 c1 (q38 X.w c1 ns)):=Grow.own g1.fh hc1;refine⟨F0,H0,F1, ρ,.tup ys,r.grow (g1.trans g2),hy,fun u F3 H3 g3 r3=>?_⟩;refine⟨F3,ys,ms,g3.fh,.cons r3 .nil,hm,fun c2 hc2=>?_⟩;have g4:Grow F3 H3 F3 (upd H3 c2 (q38 X.w c2 ms)):=Grow.own g3.fh hc2;have e1:H3 c1=some (q38 X.w c1 ns):=g3.hh.ext _ _ qt;have hne:c1≠c2:=zq e1 hc2;refine⟨c1,c2,ns,ms,rfl,rfl,hne,by rw [qk hne];exact e1,qt,fun c3 hc3=>?_⟩;have g5:Grow F3 (upd H3 c2 (q38 X.w c2 ms)) F3 (upd (upd H3 c2 (q38 X.w c2 ms)) c3 (qe7 X.w c3 (ns++ms))):=Grow.own g4.fh hc3;refine⟨c3,ns++ms,rfl,qt,fun c4 hc4=>?_⟩;have g6:=Grow.own (o:=.lst (((List.range 12).filter fun n=>decide (n∈ns++ms)).map fun n=>V.int (n:Nat))) g5.fh hc4;have gg:=g1.trans (g2.trans (g3.trans (g4.trans (g5.trans g6))));refine q c4 _ F3 _ gg (g5.fh.free hc4) ((g1.trans (g2.trans (g3.trans (g4.trans g5)))).hh.free hc4) qt ?_
  ·have e:((List.range 12).filter fun n=>decide (n∈ns++ms))=(List.range 12).filter fun n=>decide (n∈ns\/n∈ms):=by
    congr 1;funext n;simp [p5]
   rw [e];have:=(RepL.ints (K:=X.K) (H:=F3) (ns:=((List.range 12).filter fun n=>decide (n∈ns\/n∈ms)).map fun n:Nat=>(n:Int)) (xs:=((List.range 12).filter fun n=>decide (n∈ns\/n∈ms)).map fun n=>V.int (n:Nat))).mpr (by rw [uh];rfl);rw [uh] at this;exact this
 ·cases hj
end
end DL
namespace Js
open PySem
open Sem (wp)
theorem qar:typeLookup (.type "list") "keys" = pure none:=by rw [g22,g0o];kernel_rfl
theorem q6p:typeLookup (.type "list") "__getattr__" = pure none:=by rw [g22,g0o];kernel_rfl
section
variable{prog:Program}{w:World}{A:Around}{E:Value->Shared->Prop}{s:Shared}{a:Addr}
theorem qg6{xs:Array Value}{n:Nat}{u:Tok}{Q:Value->Shared->Prop}{sl:Array (Option Value)}(hx:s.heap.get? a=some {cls:=.type "list",dict:=none,data:=.seq xs n,slots:=sl})(hh:A.handled=none)
  (h:∀h' tk e,Heap.NewAttrErr s.heap h' e (.ref a) "keys" -> E (.ref e) {s with heap:=h',toks:=tk}) :
  wpAny (model prog w) A (call (.builtin "list.__getattribute__") [.ref a,.str "keys" u]) Q E s:=by
 refine mm g1a ⟨_,hx,rfl⟩ F.entry_list_ga ?_ (F.args_list_getattribute_2 _ _);obtain⟨hp,g,d,tk,os⟩:=s;have hT:(⟨hp,g,d,tk,os⟩:Shared).TypeIs (.ref a) "list" :=⟨_,hx,rfl⟩
 have f4:=qar;unfold Builtin.«object.__getattribute__»
 repeat (any_goals (first|assumption|wp_step))
 exact wpAny_raiseAttrError (by simpa using hh) (fun h' tk e x=>h h' tk e x) (attrMsg_fits (by decide +kernel) (by size_fits))
theorem qg7{xs:Array Value}{n:Nat}{Q:Option Value->Shared->Prop}{sl:Array (Option Value)}(hx:s.heap.get? a=some {cls:=.type "list",dict:=none,data:=.seq xs n,slots:=sl})(hh:A.handled=none)
  (h:∀h' tk,(∀b o,s.heap.get? b=some o->h'.get? b=some o)->Q none {s with heap:=h',toks:=tk}) :
  wpAny (model prog w) A (getAttr? (.ref a) "keys") Q E s:=by
 obtain⟨hp,g,d,tk,os⟩:=s;have hT:(⟨hp,g,d,tk,os⟩:Shared).TypeIs (.ref a) "list" :=⟨_,hx,rfl⟩
 have f1:=sub_AttributeError;have f3:=g1a.lookup;have f4:=g1a.bind (.ref a);have f5:=q6p;unfold getAttr? getAttrBy? getAttrBy
 repeat (any_goals (first|assumption|((with_reducible show wpAny _ _ (call (Value.builtin "list.__getattribute__") _ _) _ _ _);refine qg6 hx (by first|exact hh|simpa using hh) fun h' tk' e x=>?_)|wp_step))
 obtain⟨t',u',he⟩:=x.there
 repeat (any_goals (first|assumption|wp_step))
 exact h _ _ x.keeps
end
end Js
namespace Js
open PySem
theorem q8h:entryFor table "dict.update.loop" = some Builtin.«dict.update.loop» :=entryFor_of_tree (by kernel_rfl)
theorem q21:plainId "dict.update.loop" = true:=by decide +kernel
abbrev TK(prog:Program)(w:World):=tupleKind (intKind prog w)
structure Prs(prog:Program)(w:World)(h:Heap)(vs:List Value)(ps:List (List Int×Addr×Value)): Prop where
 len:vs.length=ps.length
 pair:∀(i:Nat) (p:List Int×Addr×Value),ps[i]? = some p->∃q,vs[i]? = some (.ref q)/\h.IsTuple q #[.ref p.2.1,p.2.2]
 key:∀p∈ps,(TK prog w).is h p.1 p.2.1
theorem q5s{prog:Program}{w:World}{h h':Heap}{k:List Int}{a:Addr}(x:(TK prog w).is h k a)(e:∀o,h.get? a=some o->h'.get? a=some o): (TK prog w).is h' k a:=by
 obtain⟨o,items,n,ho,r⟩:=x;exact⟨o,items,n,e o ho,r⟩
section
variable{prog:Program}{w:World}{A:Around}{R:Result->Shared->Prop}
theorem qg8{vs:List Value}{ps:List (List Int×Addr×Value)}{N I S L:Addr}(hu:A.units+1<cLine)(hh:A.in1.handled=none)(hSN:N<=S)(hIN:N<=I)(hLN:L<N)(hSI:S≠I)(h0:Heap)(hN:∀b o,h0.get? b=some o->b<N)(P0:Prs prog w h0 vs ps)(hl0:h0.IsList L vs.toArray)(hnd:(ps.map (·.1)).Nodup)(hz:ps.length<=sizeLine):
  ∀(k i:Nat) (s:Shared) (j:Int) (tj:Tok),ps.length-i=k->i<=ps.length->s.heap.IsListIter I L i->(∀b o,h0.get? b=some o->s.heap.get? b=some o)->s.heap.DictOfH (TK prog w) S (ps.take i) ->
   (∀s',s'.gens=s.gens->s'.drawn=s.drawn->s'.os=s.os->s.toks<=s'.toks->(∀b o,h0.get? b=some o->s'.heap.get? b=some o)->s'.heap.DictOfH (TK prog w) S ps->R (.ok (.ret .none)) s') ->
   codeAny (model prog w) A (.builtin "dict.update.loop" ⟨[.ref S,.ref I,.int j tj,.none],[]⟩) R s:=by
 intro k
 induction k with
 | zero=>
  intro i s j tj hk hi hit hkeep hd hR;have hin:i=ps.length:=by lia
  subst hin;refine t5 q8h ?_;rw [pq q21 _];have hls:s.heap.IsList L vs.toArray:=let⟨o,ho,r⟩:=hl0; ⟨o,hkeep L o ho,r⟩
  show wpAny _ A.in1 (pyNext (.ref I) >>= _) _ _ s;refine g0 (wpAny_pyNext_list_end hh hit hls (by simp [P0.len]) fun h' he=>?_);show wpAny _ A.in1 (Builtin.Dict.addKeywords S [] >>= _) _ _ _;refine g0 (gb (gb ?_));rw [g0e (gp _)] at hd;refine hR _ rfl rfl rfl (gp _) (fun b o e=>he b o (gr (gs (hN b o e) hIN)) (hkeep b o e)) ?_;obtain⟨o,es,ep,ho,hc,hdd,hes,his,hn⟩:=hd;exact⟨o,es,ep,he S o hSI ho,hc,hdd,hes,fun x hx=>q5s (P0.key x hx) fun o' e=>he _ o' (gr (gs (hN _ o' e) hIN)) (hkeep _ o' e),hn⟩
 | succ k ih=>
  intro i s j tj hk hi hit hkeep hd hR;have hlt:i<ps.length:=by lia
  have hp:ps[i]? = some ps[i]:=m9 hlt;obtain⟨q,hq,hqt⟩:=P0.pair i _ hp;have hkey:=P0.key _ (g2w hlt);generalize ps[i]=p at hp hq hqt hkey;refine t5 q8h ?_;rw [pq q21 _];have hls:s.heap.IsList L vs.toArray:=let⟨o,ho,r⟩:=hl0; ⟨o,hkeep L o ho,r⟩
  show wpAny _ A.in1 (pyNext (.ref I) >>= _) _ _ s;refine g0 (wpAny_pyNext_list_item hit hls (x:=.ref q) (by simpa using hq) fun h' hit' hs'=>?_);have keep1:∀b o,h0.get? b=some o->h'.get? b=some o:=fun b o e=>hs'.extBut b o (gr (gs (hN b o e) hIN)) (hkeep b o e);have hqt1:h'.IsTuple q #[.ref p.2.1,p.2.2]:=let⟨o,ho,r⟩:=hqt; ⟨o,keep1 q o ho,r⟩
  have hkey1:(TK prog w).is h' p.1 p.2.1:=q5s hkey fun o e=>keep1 _ o e;have hd1:h'.DictOfH (TK prog w) S (ps.take i):=by
   obtain⟨o,es,ep,ho,hc,hdd,hes,his,hn⟩:=hd;exact⟨o,es,ep,hs'.extBut S o hSI ho,hc,hdd,hes,fun x hx=>q5s (P0.key x (List.mem_of_mem_take hx)) fun o' e=>keep1 _ o' e,hn⟩
  dsimp only;refine g0 (nv ?_);refine g0 (wpAny_tryCatch ?_);unfold Builtin.Dict.pairItems;obtain⟨oq,hoq,hcq,nq,hdq⟩:=hqt1;refine g0 (g0k (s:={s with heap:=h'}) (T:="tuple") ⟨oq,hoq,hcq⟩ ?_);rw [gz (by decide)];refine g0 (td (s:={s with heap:=h'}) hoq hdq (gb ?_));dsimp only [Option.getD_some];refine nv ?_;have hnone:atKey (ps.take i) p.1=none:=by
   refine atKey_none_of_get fun jj pp e=>?_;have hjj:jj<i:=by
    have:=(ma.mp e).1;rw [p8] at this;lia
   have e':ps[jj]? = some (p.1,pp):=by rw [g2q hjj] at e;exact e
   have:=idxH_unique hnd e' (show ps[i]? = some (p.1,p.2) from hp);lia
  refine wpAny_dictSet_heap (s:={s with heap:=h'}) (show(TK prog w).room A.in1 from hu) hkey1 hd1 (fun h2 hd2 hs2=>?_) (by rw [p8];lia);rw [storedH_new hnone,show ps.take i++[(p.1,p.2.1,p.2.2)]=ps.take (i+1) by rw [g3h,hp];rfl] at hd2;have ne2:∀b o,h0.get? b=some o->b≠S:=fun b o e=>gr (gs (hN b o e) hSN);refine gb ⟨g0x q21 _,ih (i+1) _ _ _ (by lia) hlt ?_ (fun b o e=>?_) hd2 fun s' a1 a2 a3 a4 a5 a6=>?_⟩
  ·obtain⟨o,ho,r⟩:=hit'
   exact⟨o,hs2.extBut I o (gw hSI) ho,r⟩
  ·exact hs2.extBut b o (ne2 b o e) (keep1 b o e)
  ·exact hR s' a1 a2 a3 (my (Nat.le_add_right _ _) a4) a5 a6
end
section
variable{prog:Program}{w:World}{A:Around}{E:Value->Shared->Prop}{s:Shared}
theorem q6q{L:Addr}{vs:List Value}{n0:Nat}{ps:List (List Int×Addr×Value)}{Q:Value->Shared->Prop}(hu:A.units+4<cLine)(hh:A.handled=none){sl:Array (Option Value)}(hL:s.heap.get? L=some {cls:=.type "list",dict:=none,data:=.seq vs.toArray n0,slots:=sl})(P0:Prs prog w s.heap vs ps)(hnd:(ps.map (·.1)).Nodup)(hz:ps.length<=sizeLine)
  (h:∀h' tk,(∀b o,s.heap.get? b=some o->h'.get? b=some o)->h'.DictOfH (TK prog w) s.heap.objs.size ps->Q (.ref s.heap.objs.size) {s with heap:=h',toks:=tk}) :
  wpAny (model prog w) A (call (.type "dict") [.ref L]) Q E s:=by
 refine callType_codes (Q₁:=fun obj s₁=>obj=.ref s.heap.objs.size/\s₁ = {s with heap:=s.heap.push {cls:=.type "dict",data:=.dict #[]} }) F.kt_called_dict (F.kt_typeCall_dict_1 _) F.entry_dict_init (kt_code_dict_new _ ⟨rfl,rfl⟩) ?_
 rintro obj s₁ ⟨rfl,rfl⟩
 let dO:Obj:={cls:=.type "dict",data:=.dict #[]}
 have hnew:(s.heap.push dO).DictOfH (TK prog w) s.heap.objs.size []:=Heap.DictOfH.new s.heap;have hTd:Shared.TypeIs {s with heap:=s.heap.push dO} (.ref s.heap.objs.size) "dict" :=⟨dO,gi _ rfl,rfl⟩
 have hL1:(s.heap.push dO).get? L=some {cls:=.type "list",dict:=none,data:=.seq vs.toArray n0,slots:=sl}:=gc _ hL;refine⟨hTd,F.args_dict_init_2 _ _,?_⟩;unfold Builtin.«dict.__init__»;refine g0 ?_;unfold Builtin.Dict.selfAndRest;refine g0 (wpAny_notOrdered_dict hTd ?_);show wpAny _ _ (pure (s.heap.objs.size,[Value.ref L])) _ _ _;refine gb ?_;show wpAny _ _ (Builtin.Dict.updateFrom "dict.__init__" s.heap.objs.size (.ref L) [] .none) _ _ _;unfold Builtin.Dict.updateFrom;refine g0 (g0k (T:="list") ⟨_,hL1,rfl⟩ ?_);rw [gz (by decide)];refine g0 (qg7 (s:={s with heap:=s.heap.push dO}) hL1 (by simpa using hh) fun h1 tk1 k1=>?_);rw [gz (by rfl)];refine g0 (ud ?_);have hL2:h1.IsList L vs.toArray:=⟨_,k1 _ _ hL1,rfl,n0,rfl⟩
 refine g0 (g1i (s:={s with heap:=h1,toks:=tk1}) hL2 ?_)
 let iO:Obj:={cls:=.type "list_iterator",data:=.fields #[.ref L,.int 0 0]}
 have hz1:s.heap.objs.size+1<=h1.objs.size:=gh (k1 _ _ (gi s.heap (o:=dO) rfl));have hLs:L<s.heap.objs.size:=gh hL;have keep:∀b o,s.heap.get? b=some o->(h1.push iO).get? b=some o:=fun b o e=>gc _ (k1 b o (gc _ e));have hd0:(h1.push iO).DictOfH (TK prog w) s.heap.objs.size []:=by
  obtain⟨o,es,ep,ho,hc,hdd,hes,his,hn⟩:=hnew;exact⟨o,es,ep,gc _ (k1 _ _ ho),hc,hdd,hes,fun x hx=>(nomatch hx),hn⟩
 refine gb ⟨g0x q21 _,qg8 (A:=A.in1) (N:=s.heap.objs.size) (I:=h1.objs.size) (S:=s.heap.objs.size) (L:=L) (vs:=vs) (ps:=ps) (by show A.units+1+1<cLine;lia) (by simpa using hh) (gp _) (Nat.le_of_succ_le hz1) hLs (gr hz1) s.heap (fun b o e=>gh e) P0 ⟨_,hL,rfl,n0,rfl⟩ hnd hz
  ps.length 0 _ _ _ rfl (t7 _) ⟨iO,gi _ rfl,rfl,rfl⟩ keep hd0 fun s' a1 a2 a3 a4 a5 a6=>?_⟩
 obtain⟨h',g',d',tk',os'⟩:=s';dsimp only at a1 a2 a3 a4 a5 a6;subst a1;subst a2;subst a3;exact⟨rfl,h h' tk' a5 a6⟩
end
end Js
namespace DL
open PySem PySem.Spec PyProof.Rows L2
variable[Lam]
def qe8:List D->Option (List (List Int)×List D)
 | []=>some ([],[])
 | .tup [.tup kd,v] :: r=>(q0y kd).bind fun k=>(qe8 r).map fun p=>(k :: p.1,v :: p.2)
 | _ :: _=>none
def q9f:List D->Option D
 | [.lst ds]=>(qe8 ds).bind fun p=>if p.1.Nodup/\ds.length<=lim then some (.dtt p.1 p.2) else none
 | _=>none
def qih:D->D->Option D
 | .tup kd,.dtt ks _=>(q0y kd).map fun k=>.bl (decide (k∈ks))
 | _,_=>none
omit [Lam] in
theorem ints_rep{K:Frag}{F:Hp}: ∀ {kd:List D} {xs:List V} {k:List Int},q0y kd=some k->RepL K F kd xs->xs=k.map V.int
 | [],xs,k,h,r=>by cases h;exact r.nil_inv
 | .int i :: kd,xs,k,h,r=>by
  obtain⟨k',h1,rfl⟩:=gq.mp h;obtain⟨x,ys,rfl,a1,a2⟩:=r.cons_inv;rw [rep_int.mp a1,ints_rep h1 a2];rfl
 | .non :: _,_,_,h,_=>by cases h
 | .bl _ :: _,_,_,h,_=>by cases h
 | .str _ :: _,_,_,h,_=>by cases h
 | .tup _ :: _,_,_,h,_=>by cases h
 | .lst _ :: _,_,_,h,_=>by cases h
 | .dct _ _ :: _,_,_,h,_=>by cases h
 | .dtt _ _ :: _,_,_,h,_=>by cases h
 | .obj _ :: _,_,_,h,_=>by cases h
 | .exc _ :: _,_,_,h,_=>by cases h
omit [Lam] in
theorem items_int{P:Program}{w:World}: ∀ {k:List Int} {us:List Value},Vals (k.map V.int) us->ItemsAre (intKind P w) k us
 | [],_,r=>by cases r;exact .nil
 | i :: k,_,r=>by
  cases r with
  | cons h t=>
   obtain⟨tk,rfl⟩:=h;exact .cons (g21 _ _ _ _) (items_int t)
section
variable{X:Cx}{pins:List (Addr×Obj)}{σ : St}{H F:Hp}{s:Shared}
omit [Lam] in
theorem qas(I:Inv X pins σ H s)(fh:Same F H){k:List Int}{a:Addr}(h:SqT X.K F a (k.map V.int)): (Js.TK X.prog X.w).is s.heap k a:=by
 obtain⟨its,r,⟨o,ho,hc,n,hd⟩,_⟩:=I.tuple (ql fh h);exact⟨o,its.toArray,n,ho,hc,hd,by simpa using items_int r⟩
omit [Lam] in
theorem qg9 (I:Inv X pins σ H s) (fh:Same F H):∀ {ds:List D} {ys:List V} {its:List Value} {ks:List (List Int)} {vs:List D},qe8 ds=some (ks,vs)->RepL X.K F ds ys->Vals ys its ->
  ∃(ps:List (List Int×Addr×Value)) (ws:List V),Js.Prs X.prog X.w s.heap its ps/\ps.map (·.1)=ks/\(∀p∈ps,SqT X.K F p.2.1 (p.1.map V.int))/\Vals ws (ps.map fun p=>p.2.2)/\RepL X.K F vs ws
 | [],ys,its,ks,vs,h,k,r=>by
  cases h;cases k.nil_inv;cases r;exact⟨[],[],⟨rfl,fun i p e=>by simp at e,fun p hp=>(nomatch hp)⟩,rfl,fun p hp=>(nomatch hp),.nil,.nil⟩
 | d :: ds,ys,its,ks,vs,h,k,r=>by
  unfold qe8 at h
  split at h
  ·cases ‹_ :: _=[]›
  ·rename_i kd v r' e
   injection e with e1 e2
   subst e1;subst e2;obtain⟨kk,h1,h2⟩:=g9.mp h;obtain⟨p,h3,h4⟩:=gq.mp h2;cases h4;obtain⟨x,ys',rfl,a1,a2⟩:=k.cons_inv;obtain⟨q,qs,rfl,b1,b2⟩:=rep_tup.mp a1;obtain⟨x1,z1,rfl,c1,c2⟩:=b2.cons_inv;obtain⟨x2,z2,rfl,d1,d2⟩:=c2.cons_inv;cases d2.nil_inv;obtain⟨ka,kxs,rfl,k1,k2⟩:=rep_tup.mp c1;rw [ints_rep h1 k2] at k1;cases r with
   | cons r1 r2=>
    cases r1;obtain⟨uu,hu,⟨oq,hoq,hcq,nq,hdq⟩,_⟩:=I.tuple (ql fh b1);cases hu with
    | cons u1 u2=>
     cases u1;cases u2 with
     | cons u3 u4=>
      cases u4;rename_i uv;obtain⟨ps,ws,P,e1,e2,e3,e4⟩:=qg9 I fh h3 a2 r2;refine⟨(kk,ka,uv) :: ps,x2 :: ws,⟨by simp [P.len],fun i p e=>?_,fun p hp=>?_⟩,by simp [e1],fun p hp=>?_,.cons u3 e3,.cons d1 e4⟩
      ·cases i with
       | zero=>
        simp only [g1f,g1g] at e;subst e;exact⟨q,rfl,oq,hoq,hcq,nq,hdq⟩
       | succ i=>exact P.pair i p (by simpa using e)
      ·rcases gm.mp hp with rfl|hp
       ·exact qas I fh k1
       ·exact P.key p hp
      ·rcases gm.mp hp with rfl|hp
       ·exact k1
       ·exact e2 p hp
  ·cases h
end
section
variable{X:Cx}
theorem qkb(hc:X.calm=true)(hu:X.A.units+64<cLine): zi X (.type "dict") (rC X.K q9f):=fun pins s σ H xs us Q I rv ⟨F,ds,d,fh,rl,ho,q⟩=>by
 unfold q9f at ho
 split at ho
 ·rename_i ds'
  obtain⟨⟨ks,vs⟩,h1,h2⟩:=g9.mp ho
  split at h2
  ·rename_i hok
   cases h2;obtain⟨x,rfl,rx⟩:=rep1 rl;obtain⟨a,ys,rfl,k1,k2⟩:=rep_lst.mp rx;obtain⟨u,rfl,ru⟩:=vals1 rv;cases ru;obtain⟨its,r1,⟨o,n,e1,e2,e3,e4⟩,hz⟩:=I.list (fh.seq k1);obtain⟨oc,od,oda,osl⟩:=o;dsimp only at e2 e3 e4;subst e2;subst e3;subst e4;obtain⟨ps,ws,P,p1,p2,p3,p4⟩:=qg9 I fh h1 k2 r1;have hl:ps.length<=lim:=by
    rw [<- P.len, <- r1.length, <- k2.length];exact hok.2
   refine Js.q6q (by lia) (I.ok.hd hc) e1 P (by rw [p1];exact hok.1) (x9 hl) fun h' tk old hd=>?_;have hnn:H s.heap.objs.size=none:=I.hok.fresh (gp _);obtain⟨o,es,ep,g1,g2,g3,g4,_,g5⟩:=hd;have de:DE s.heap.objs.size ps ep h':=⟨o,es,g1,g2,g3,g4⟩
   refine⟨.ref _,_,I.laid (t':=tk) (a:=s.heap.objs.size) (o:=.ext (DE s.heap.objs.size ps ep)) old (gp _) ⟨de,⟨o,g1⟩,fun h1 h2 ⟨o,es,z,r⟩ e=>⟨o,es,e o z,r⟩⟩,rfl,?_⟩;have g:=Grow.new (o:=.ext (DE s.heap.objs.size ps ep)) fh hnn;refine q _ _ _ g (rep_dtt.mpr ⟨_,ps,ws,ep,rfl,qt,p1,hok.1,x9 hl,g24.mpr (nk (qcx I)),fun x hx=>ql g.ff (p2 x hx),p3,p4.mono g.ff⟩)
  ·cases h2
 ·cases ho
theorem qmx(hu:X.A.units+64<cLine): OpR X (compareOp .In) (rD X.K qih):=fun pins s σ H x y v u Q I rx ry ⟨F,d1,d2,d,fh,r1,r2,ho,q⟩=>by
 unfold qih at ho
 split at ho
 ·rename_i kd ks vs
  obtain⟨k,h1,rfl⟩:=gq.mp ho;obtain⟨b,kxs,rfl,k1,k2⟩:=rep_tup.mp r1;obtain⟨a,xs,ys,ep,rfl,e1,e2,e3,e4,e5,e6,e7,e8⟩:=rep_dtt.mp r2;cases rx;cases ry;rw [ints_rep h1 k2] at k1;obtain⟨⟨o,es,g1,g2,g3,g4⟩,_,_⟩:=(show ObjOk X.prog X.w H s.heap a _ from I.hok a _ (fh _ _ e1))
  have dd:s.heap.DictOfH (Js.TK X.prog X.w) a xs:=⟨o,es,ep,g1,g2,g3,g4,fun x hx=>qas I fh (e6 x hx),by rw [e2];exact e3⟩
  refine wpAny_in_heap (tupleKind_room_in1 (by lia)) (qas I fh k1) e5 dd ?_;have:(atKey xs k).isSome=decide (k∈ks):=by
   rw [<- e2,pd,g0i]
   constructor
   ·intro h
    obtain⟨p,hp⟩:=tf.mp h;obtain⟨z,hz,rfl⟩:=gq.mp hp;have:=List.find?_some hz;exact ni.mpr ⟨z,List.mem_of_find?_eq_some hz,by simpa using this⟩
   ·intro h
    obtain⟨z,hz,rfl⟩:=ni.mp h;obtain⟨i,hi⟩:=g3c.mp hz;rw [atKey_of_get (by rw [e2];exact e3) (show xs[i]? = some (z.1,z.2) from hi)]
    rfl
  rw [this];exact⟨.bl _,H,I.tok _,rfl,q _ F H (.refl fh) (rep_bl.mpr rfl)⟩
 ·cases ho
end
end DL
namespace DL
open PySem PySem.Spec PyProof.Rows L2
def CXR(P:Program)(w:World): CXT:=fun outer H s E e s'=>s'.os=s.os/\AllBare s'.gens/\∃(B:Heap) (H':Hp) (a t C:Addr) (vs:List Value),e=.ref a /\
 Heap.FlyingW B outer a (.ref C) (.ref t) s'.heap/\B.get? t=none/\s'.heap.TupAt t vs/\(∀h6,B.StaysIn h6->s'.heap.UpToSlots h6->Un (frs outer) [] H H' s.heap h6/\HOk P w H' h6) /\
 s.heap.get? a=none/\H' a=none/\E (.ref C) none H'
theorem has_obj{P:Program}{w:World}{H:Hp}{h:Heap}{a:Addr}{o:HO}(x:ObjOk P w H h a o): ∃ob,h.get? a=some ob:=by
 cases o with
 | lst xs=>obtain⟨_,_,_,_,e⟩:=x;exact⟨_,e⟩
 | tup xs=>obtain⟨_,_,_,ob,e,_⟩:=x;exact⟨_,e⟩
 | dK kvs=>obtain⟨_,_,_,_,o,_,_,e,_⟩:=x;exact⟨_,e⟩
 | dT kvs=>obtain⟨_,_,_,_,o,_,_,e,_⟩:=x;exact⟨_,e⟩
 | set S n=>obtain⟨o,_,_,_,e,_⟩:=x;exact⟨_,e⟩
 | ins C dx fs=>obtain⟨_,_,_,e,_⟩:=x;exact⟨_,e⟩
 | own y=>obtain⟨_,e⟩:=x;exact⟨_,e⟩
 | xd fs=>obtain⟨_,⟨_,_,_,e,_⟩,_⟩:=x;exact⟨_,e⟩
 | rng lo hi=>obtain⟨_,_,_,e⟩:=x;exact⟨_,e⟩
 | frz ob u=>obtain⟨e,_⟩:=x;exact⟨_,e⟩
 | tbl ps=>exact⟨_,(show h.get? a=some _ from x)⟩
 | met f y=>exact⟨_,(show h.get? a=some _ from x)⟩
 | ext φ =>obtain⟨_,⟨_,e⟩,_⟩:=x;exact⟨_,e⟩
section
variable{P:Program}{w:World}{K:Frag}{mg:Str->Option Value}{base:Heap}{N:List Str}{qual:Str}{scope:Scope}{f:Addr}{cd:Value}{A:Around}{outer:List Env}{s0:Shared}{H0:Hp}{E:XK}
variable{pins:List (Addr×Obj)}{σ : St}{H:Hp}{s:Shared}
theorem qd1{l:List Env}: (envOfC qual scope s0.heap.objs.size f cd :: l).filterMap (·.frame)=s0.heap.objs.size :: l.filterMap (·.frame):=rfl
theorem qbu{C e:Addr}{vs:List Value}{h':Heap}(I:Inv (qw (CXR P w) P w K mg base N qual scope f cd A outer s0 H0 E) pins σ H s)(hx:Heap.MadeExcOf s.heap h' e (.ref C) vs)(q:E (.ref C) none H):
  (qw (CXR P w) P w K mg base N qual scope f cd A outer s0 H0 E).xe (.ref e) {s with heap:=h'}:=by
 have hfr:=I.ok.frames;have hst:=I.stack;have hin:∀env∈(envOfC qual scope s0.heap.objs.size f cd :: outer),∀b,env.frame=some b->b∈(envOfC qual scope s0.heap.objs.size f cd :: outer).filterMap (·.frame):=fun env he b hb=>g13.mpr ⟨env,he,hb⟩;refine wpAny_leaves_madeW (base:=PySem.W.hideAll s.heap ((envOfC qual scope s0.heap.objs.size f cd :: outer).filterMap (·.frame))) hfr rfl (fun b o q=>PySem.W.of_hideAll _ q) (PySem.W.funFrames_hide hst hin) hx fun h2 t x1 x2 x3 x4=>?_;have up:∀h6,h2.UpToSlots h6->s.heap.UpToSlots h6:=fun h6 u=>((Heap.UpToSlots.of_keeps hx.keeps).trans x4).trans u;have stays:∀h6,(PySem.W.hideAll s.heap ((envOfC qual scope s0.heap.objs.size f cd :: outer).filterMap (·.frame))).StaysIn h6->∀b o,s.heap.get? b=some o->b∉(envOfC qual scope s0.heap.objs.size f cd :: outer).filterMap (·.frame)->h6.get? b=some o:=
  fun h6 st b o e n=>st b o (PySem.W.hideAll_get _ e n)
 have there0:∀b o,s0.heap.get? b=some o->∃o',s.heap.get? b=some o':=fun b o e=>I.base.there b o e (by intro z;cases z);have any:∀h6,(PySem.W.hideAll s.heap ((envOfC qual scope s0.heap.objs.size f cd :: outer).filterMap (·.frame))).StaysIn h6->h2.UpToSlots h6->∀b o,s.heap.get? b=some o->∃sl,h6.get? b=some {o with slots:=sl}:=fun h6 st u b o e=>by
  by_cases hb:b∈(envOfC qual scope s0.heap.objs.size f cd :: outer).filterMap (·.frame)
  ·obtain⟨_,o',e',nf⟩:=hst.mem hb
   rw [e] at e';cases e';exact up h6 u b o e nf
  ·exact⟨o.slots,stays h6 st b o e hb⟩
 refine⟨I.os,I.bare,_,H,e,t,C,vs,rfl,x1,x3,x2,fun h6 st u=>⟨⟨fun b o e n hb _=>?_,fun b o e n hb _=>?_,fun b o e n _=>?_,fun b o e _=>?_,fun b xs e=>I.base.tups b xs e,fun b o xs e=>I.base.frzs b o xs e,fun b ps e=>I.base.tbls b ps e⟩,fun b o e=>?_⟩,?_,?_,q⟩
 ·have e1:=I.base.keep b o e n hb (by intro z;cases z)
  refine stays h6 st b o e1 fun z=>?_;rw [qd1] at z;rcases gm.mp z with z|z
  ·rw [z] at e;exact absurd (gh e) (ph _)
  ·exact hb z
 ·obtain⟨sl,e1⟩:=I.base.slot b o e n hb (by intro z;cases z)
  obtain⟨sl',e2⟩:=any h6 st u b _ e1;exact⟨sl',e2⟩
 ·exact I.base.free b o e n (by intro z;cases z)
 ·obtain⟨o',e1⟩:=there0 b o e
  obtain⟨sl,e2⟩:=any h6 st u b o' e1;exact⟨_,e2⟩
 ·refine(I.hok b o e).stay (fun c v hc r=>?_) (fun _ z=>z) fun _ _ z=>z
  refine stays h6 st c v r fun z=>?_;have n:=I.stkFree c z;rcases hc with hc|hc
  ·rw [hc,e] at n;cases n
  ·rw [n] at hc;cases hc
 ·cases z:s0.heap.get? e with
  | none=>rfl
  | some o=>
   obtain⟨o',e1⟩:=there0 e o z;rw [hx.new] at e1;cases e1
 ·cases z:H e with
  | none=>rfl
  | some o=>
   obtain⟨ob,e1⟩:=has_obj (I.hok e o z);rw [hx.new] at e1;cases e1
end
abbrev vB:List Value:=[.type "ValueError",.type "Exception",.type "BaseException",.type "object"]
theorem qkc:vB.contains (.type "BaseException")=true:=g2k.hasBase
abbrev q7t(K:Frag)(C:Addr): Prop:=PySem.W.excIn K C vB "ValueError.__new__" = true
theorem qkd{K:Frag}{h:Heap}{C:Addr}(X:K.In h)(q:q7t K C): ∃bm N nm q bs hdct sn sub ab col dd k0 k1 k2 k3 k5 mN,h.get? C=some (excClassObj nm q C N bs bm hdct sn sub ab col dd k0 k1 k2 k3 k5 "ValueError.__new__")/\h.Ns N mN/\mN "__init__" = none/\OwnTail h vB bm:=by
 unfold q7t PySem.W.excIn at q
 split at q
 ·rename_i dd cd sl ho
  split at q
  ·rename_i C' bm k0 k1 k2 k3 n k5 hm hs
   simp only [m6,g1b,Bool.not_eq_true'] at q;obtain⟨⟨⟨⟨⟨rfl,rfl⟩,hdel⟩,ht⟩,hok⟩,hni⟩:=q;obtain⟨nm,bs,mro,ns,qn,hd,sn,sub,ab,col,del⟩:=cd;dsimp only at hm hdel hok hni;subst hm hdel;have hsl:sl = #[k0,k1,k2,k3,some (.builtin "ValueError.__new__"),k5]:=by
    obtain⟨l⟩:=sl;simp only at hs;rw [hs]
   subst hsl;exact⟨bm,ns,nm,qn,bs,hd,sn,sub,ab,col,dd,k0,k1,k2,k3,k5,_,X _ _ ho,.of_isNs (PySem.W.isNs_of_in X hok),PySem.W.nsMap_none_of_in X hok hni,PySem.W.tail_of_in X ht⟩
  ·cases q
 ·cases q
section
variable{P:Program}{w:World}{K:Frag}{mg:Str->Option Value}{base:Heap}{N:List Str}{qual:Str}{scope:Scope}{f:Addr}{cd:Value}{A:Around}{outer:List Env}{s0:Shared}{H0:Hp}{E:XK}
theorem qii{C:Addr}{x m:Str}{np p2 cpos pos:Pos}{j}(hC:q7t K C)(hg:Gl (qw (CXR P w) P w K mg base N qual scope f cd A outer s0 H0 E) x)(hm:mg x=some (.ref C))(hd:(x==("__debug__" : Str))=false:=by decide):
  PS (qw (CXR P w) P w K mg base N qual scope f cd A outer s0 H0 E) (.Raise (some (.Call (.Name x np) [.Constant (.str m) j p2] [] cpos)) none pos) (fun _ _ H=>E (.ref C) none H):=by
 intro pins s σ H D I q;obtain⟨tl,N,nm,qn,bs,hdct,sn,sub,ab,col,dd,k0,k1,k2,k3,k5,mN,hC,hN,hni,T⟩:=qkd I.kIn hC;refine wpAny_Raise_call_subT (C:=C) (nm:=nm) (q:=qn) (N:=N) (bs:=bs) (bm:=tl) (hdct:=hdct) (sn:=sn) (sub:=sub) (ab:=ab) (col:=col) (dd:=dd) (k0:=k0) (k1:=k1) (k2:=k2) (k3:=k3) (k5:=k5)
  g2k (mN:=mN) (T.hasType qkc) (I.ok.hd rfl) rfl hni (q12 I hg hm ⟨rfl,?_⟩ hd)
 refine Calls.evalArgs_plain (Calls.spliced_cons ?_);show wpAny _ _ (eval (Expr.Constant (Const.str m) j p2) _) _ _ _;refine Calls.Constant_str ?_;show wpAny _ _ (spliced []) _ _ _;refine Calls.spliced_nil ⟨rfl,(by show 1<=sizeLine;decide),hC,hN,T,fun h' e hx=>?_⟩;exact qbu (I.tok _) hx q
end
section
variable{X:Cx}{pins:List (Addr×Obj)}{σ σ1:St}{H H1:Hp}{s s1:Shared}
theorem qmy{p:Addr}{o:HO}(I0:Inv X pins σ H s)(hp0:s.heap.get? p=none)(I:Inv X pins σ1 H1 s1)(hp:H1 p=none)(new:ObjOk X.prog X.w (upd H1 p o) s1.heap p o): Inv X pins σ1 (upd H1 p o) s1:=by
 have ne:∀ {b:Addr} {u:HO},H1 b=some u->upd H1 p o b=some u:=fun {b u} e=>by rw [qk (zq e hp)];exact e
 have nz:∀b ob,s.heap.get? b=some ob->b≠p:=fun b ob e z=>by subst z;rw [hp0] at e;cases e
 refine⟨I.ok,I.os,I.bare,⟨I.base.keep,I.base.slot,fun b ob e n hx=>?_,I.base.there,fun b xs e=>ne (I.base.tups b xs e),fun b ob xs e=>ne (I.base.frzs b ob xs e),fun b ps e=>?_⟩,I.loc,I.cell,?_,fun y c e=>?_,fun q hq=>?_,fun b u e=>?_,I.len⟩
 ·obtain⟨o',e1⟩:=I0.base.there b ob e hx
  rw [qk (nz b o' e1)];exact I.base.free b ob e n hx
 ·obtain⟨more,e1⟩:=I.base.tbls b ps e
  exact⟨more,ne e1⟩
 ·obtain⟨m,⟨ob,_,_,ho,_⟩,_⟩:=I0.loc
  rw [qk (nz _ ob ho)];exact I.free
 ·obtain⟨v,ob,ho,_⟩:=I0.cell y c e
  rw [qk (nz _ ob ho)];exact I.freeC y c e
 ·obtain⟨e1,e2,e3⟩:=I.pin q hq
  obtain⟨f1,_⟩:=I0.pin q hq;exact⟨e1,by rw [qk (nz _ _ f1)];exact e2,e3⟩
 ·by_cases hb:b=p
  ·subst hb;rw [qt] at e;cases e;exact new
  ·rw [qk hb] at e
   exact(I.hok b u e).stay (fun c v _ q=>q) (fun c q=>ne q) fun c xs q=>ne q
abbrev inX(X:Cx)(a:Addr): Cx:={X with A:=X.A.mark (some (.ref a)),calm:=false,xe:=fun _ _=>False}
theorem qmz{a:Addr}(ok:X.Ok): (inX X a).Ok:=
 ⟨ok.mod,ok.kind,ok.glob,ok.blt,ok.above,ok.inj,ok.has,ok.cab,(fun z=>by cases z),ok.frames,ok.stk,ok.exf,ok.bs,ok.bsz,ok.noex,ok.exfs,ok.funs,ok.frf⟩
theorem qd2{a:Addr}(I:Inv X pins σ H s): Inv (inX X a) pins σ H s:=⟨qmz I.ok,I.os,I.bare,I.base,I.loc,I.cell,I.free,I.freeC,I.pin,I.hok,I.len⟩
theorem q39{a:Addr}(ok:X.Ok)(I:Inv (inX X a) pins σ H s): Inv X pins σ H s:=⟨ok,I.os,I.bare,I.base,I.loc,I.cell,I.free,I.freeC,I.pin,I.hok,I.len⟩
end
def qij(i:Nat)(D:Ends): Ends:={nx:=fun σ H=>D.nx (σ.set i none) H,rt:=D.rt,bk:=fun σ H=>D.bk (σ.set i none) H,ct:=fun σ H=>D.ct (σ.set i none) H}
section
variable{X:Cx}{pins:List (Addr×Obj)}{σ : St}{H:Hp}{s:Shared}
theorem name_goes{M:Model}{A:Around}{E:Value->Shared->Prop}{i:Nat}{n:Str}{pos:Pos}{Q:Unit->Shared->Prop}(I:Inv X pins σ H s)(hN:X.N.Nodup)(hi:X.N[i]? = some n)(hx:X.env.scope.names.lookup n=some .local)
  (h:∀s',Inv X pins (σ.set i none) H s'->Q () s'):wpAny M A (do bindName X.env n .none;unbindBehindTheSuite X.env n pos) Q E s:=by
 obtain⟨m,hn,hl⟩:=id I.loc;have hcls:(X.env.scope.kind == .class || (X.env.scope.kind == .module&&X.env.locals != X.env.globals))=false:=by rw [I.ok.kind];rfl
 refine wpAny_nameGoes_keeps hx hn hcls fun h' v hn' hs=>h _ ?_;have same:∀b o,b≠X.env.locals->s.heap.get? b=some o->h'.get? b=some o:=fun b o q e=>(hs.2 b q).trans e;have l0:∀b o,X.s₀.heap.get? b=some o->b≠X.env.locals:=fun b o e=>gr (gs (gh e) I.ok.above);refine⟨I.ok,I.os,I.bare,⟨fun b o e n hb hx=>?_,fun b o e n hb hx=>?_,I.base.free,fun b o e hx=>?_,I.base.tups,I.base.frzs,I.base.tbls⟩,⟨_,hn',fun j y v' e1 e2 e3=>?_⟩,fun y c e=>?_,I.free,I.freeC,fun p hp=>?_,fun b u e=>?_,by simpa using I.len⟩
 ·exact same b o (l0 b o e) (I.base.keep b o e n hb hx)
 ·obtain⟨sl,e1⟩:=I.base.slot b o e n hb hx
  exact⟨sl,same b _ (l0 b o e) e1⟩
 ·obtain⟨o',e1⟩:=I.base.there b o e hx
  exact⟨o',same b _ (l0 b o e) e1⟩
 ·by_cases hj:j=i
  ·subst hj
   rw [g1h] at e2;simp only [pb] at e2
   split at e2 <;> cases e2
  ·rw [gd (gw hj)] at e2
   obtain⟨u,r,l⟩:=hl j y v' e1 e2 e3;have hy:y≠n:=fun z=>by
    subst z;exact hj ((List.getElem?_inj (ma.mp e1).1 hN).mp (e1.trans hi.symm))
   refine⟨u,r,?_⟩;rcases l with⟨k,l⟩|⟨k,c,e,z⟩
   ·exact .inl ⟨k,(show(if y=n then v else m y)=m y from m4 hy).trans l⟩
   ·obtain⟨o,ho,hd⟩:=z
    exact .inr ⟨k,c,e,o,same c o (I.cne y c e) ho,hd⟩
 ·obtain⟨v',o,ho,hd⟩:=I.cell y c e
  exact⟨v',o,same c o (I.cne y c e) ho,hd⟩
 ·obtain⟨e1,e2,e3,e4,e5⟩:=I.pin p hp
  exact⟨same _ _ e3 e1,e2,e3,e4,e5⟩
 ·refine(I.hok b u e).stay (fun c w' hc q=>same c _ ?_ q) (fun _ q=>q) fun _ _ q=>q
  rintro rfl
  rcases hc with hc|hc
  ·rw [<- hc,I.free] at e;cases e
  ·rw [I.free] at hc;cases hc
theorem qn0{D:Ends}{f:Flow}{s':Shared}{a:Addr}{i:Nat}{n:Str}{pos:Pos}{M:Model}{A:Around}{E:Value->Shared->Prop}(ok:X.Ok)(hN:X.N.Nodup)(hi:X.N[i]? = some n)(hx:X.env.scope.names.lookup n=some .local)(h:SP (inX X a) pins (qij i D) f s'):
  wpAny M A (do bindName X.env n .none;unbindBehindTheSuite X.env n pos) (fun _ s5=>SP X pins D f s5) E s':=by
 cases f with
 | next=>obtain⟨σ',H',I,q⟩:=h;exact name_goes (q39 ok I) hN hi hx fun s5 I5=>⟨_,H',I5,q⟩
 | brk=>obtain⟨σ',H',I,q⟩:=h;exact name_goes (q39 ok I) hN hi hx fun s5 I5=>⟨_,H',I5,q⟩
 | cont=>obtain⟨σ',H',I,q⟩:=h;exact name_goes (q39 ok I) hN hi hx fun s5 I5=>⟨_,H',I5,q⟩
 | ret u=>obtain⟨v, σ',H',I,r,q⟩:=h;exact name_goes (q39 ok I) hN hi hx fun s5 I5=>⟨v,_,H',I5,r,q⟩
end
end DL
namespace DL
open PySem PySem.Spec PyProof.Rows L2
variable[Lam]
section
variable{X:Cx}
abbrev oDivB:=oI (fun _ j=>decide (0<j)&&decide (j<18446744073709551616)) fun i j=>i / j
theorem qik:OpR X (binaryOp .FloorDiv) (rI (fun _ j=>0<j/\j<18446744073709551616) fun i j=>.int (i / j)):=opI fun i j _ _ _ _ _ hc q=>by
 have h1:(0:Int)<j:=hc.1;have h2:j<18446744073709551616:=hc.2;refine floordiv_int (by lia) (by rw [g2h i (by lia)];exact q) (.inl (PyProof.noPylong_of_log2 ?_));have h3:j.natAbs<2 ^ 64:=by lia
 exact gs ((Nat.log2_lt (by lia)).mpr h3) (by decide)
theorem qke:OpR X (binaryOp .FloorDiv) (rD X.K oDivB):=q4v qik fun i j h=>q03 h
end
def q1h(n:Nat)(ds:List D): Rho:=ds.map (fun d=>some (.fz d))++List.replicate (n-ds.length) none
theorem qil{K:Frag}{F H:Hp}{N:List Str}{ds:List D}{vs:List V}(fh:SameT F H)(rl:RepL K F ds vs)(hl:ds.length<=N.length): RS K F H F H (L2.start N vs) (q1h N.length ds):=by
 have hlen:=rl.length;have no:∀ {i:Nat} {b:B},(q1h N.length ds)[i]? = some (some b)->∃d,ds[i]? = some d/\b=.fz d:=fun {i b} h1=>by
  unfold q1h at h1
  by_cases hi:i<ds.length
  ·rw [n8 (by simpa using hi),gy] at h1
   cases z:ds[i]? with
   | none=>rw [z] at h1;cases h1
   | some d'=>rw [z] at h1;cases h1;exact⟨d',rfl,rfl⟩
  ·rw [mv (by simpa using hi),p7] at h1
   split at h1 <;> cases h1
 exact {
  t0:=⟨fh.t,fh.f⟩
  g:=.refl fh.s
  len:=by unfold L2.start q1h;simp only [m8,mj,g1p];lia
  fz:=fun i e h1=>by
   obtain⟨d,z,e1⟩:=no h1;cases e1;obtain⟨v,e1,e2⟩:=rl.get z;exact⟨v,q89 e1,e2⟩
  ow:=fun i es h1=>by obtain⟨d,z,e1⟩:=no h1;cases e1
  dj:=fun i j us es a _ h1=>by obtain⟨d,z,e1⟩:=no h1;cases e1
  od:=fun i us h1=>by obtain⟨d,z,e1⟩:=no h1;cases e1
  o1:=fun i j us es h1=>by obtain⟨d,z,e1⟩:=no h1;cases e1}
section
variable{P:Program}{w:World}{K:Frag}{mg:Str->Option Value}{base:Heap}{x qual:Str}{st:Stmt}{dV:Value}{f:Addr}{fd:FuncData}{N ps:List Str}
end
section
variable{X:Cx}{K:Frag}{F0 H0 F H:Hp}{σ : St}{ρ : Rho}
theorem RS.unset(r:RS K F0 H0 F H σ ρ)(i:Nat): RS K F0 H0 F H (σ.set i none) (ρ.set i none):=by
 have back:∀ {j:Nat} {b:B},(ρ.set i none)[j]? = some (some b)->j≠i /\ ρ[j]? = some (some b):=fun {j b} h=>by
  by_cases q:j=i
  ·subst q;obtain⟨z,_⟩:=qr h;cases z
  ·rw [gd (gw q)] at h;exact⟨q,h⟩
 exact {
  t0:=r.t0
  g:=r.g
  len:=by rw [t6,t6];exact r.len
  fz:=fun j e h=>by
   obtain⟨q,h⟩:=back h;rw [gd (gw q)];exact r.fz j e h
  ow:=fun j e h=>by
   obtain⟨q,h⟩:=back h;rw [gd (gw q)];exact r.ow j e h
  dj:=fun j k ds es a hjk h1 h2 h3=>by
   obtain⟨q1,h1⟩:=back h1;obtain⟨q2,h2⟩:=back h2;rw [gd (gw q1)] at h3;rw [gd (gw q2)];exact r.dj j k ds es a hjk h1 h2 h3
  od:=fun j kvs h=>by
   obtain⟨q,h⟩:=back h;obtain⟨a,bs,e1,e2,e3⟩:=r.od j kvs h;rw [gd (gw q)];refine⟨a,bs,e1,e2,fun k es b h2 h3=>?_⟩;obtain⟨q2,h2⟩:=back h2;rw [gd (gw q2)];exact e3 k es b h2 h3
  o1:=fun j k k1 k2 h1 h2=>by
   obtain⟨q1,h1⟩:=back h1;obtain⟨q2,h2⟩:=back h2;exact r.o1 j k k1 k2 h1 h2}
def isX(x:Str)(b:Bool): D->Option D
 | .exc y=>if x=y then some (.bl b) else none
 | _=>none
theorem q5t{x:Str}{b:Bool}{d d':D}(h:isX x b d=some d'): d=.exc x/\d'=.bl b:=by
 unfold isX at h
 split at h
 ·split at h
  ·rename_i e;subst e;cases h;exact⟨rfl,rfl⟩
  ·cases h
 ·cases h
theorem qat{x:Str}{b:Bool}{C:Addr}{v2:V}{c:Value}(hns:PySem.W.nsIn X.K mainGlobals x=some (some (.ref C)))(hv:∀u,RelV v2 u->u=c)(hk:PySem.W.kitOne X.K (.ref C) c=some b):
  zi X (.builtin "isinstance") (fun xs H Q=>∃y F,xs=[y,v2]/\Same F H/\Rep X.K F (.exc x) y/\Q (.bl b) H):=by
 intro pins s σ H xs us Q I r h;obtain⟨y,F,rfl,fh,rd,q⟩:=h;obtain⟨u,w',rfl,rx,rt⟩:=r.two;obtain rfl:=hv _ rt;obtain⟨a,C',rfl,h1,h2,c1,c2⟩:=rep_exc.mp rd;rw [hns] at h2;cases h2;cases rx;obtain⟨J,_,_⟩:=(show ObjOk X.prog X.w H s.heap a _ from I.hok a _ (fh _ _ h1))
 exact g1w (q5k c1) I.kIn J hk (fun z=>nomatch z) (fun tk=>⟨.bl _,H,I.tok _,rfl,q⟩)
variable{e:Expr}{pos:Pos}{f:FE}
theorem qkf{x y:Str}{b:Bool}{C C2:Addr}{p px:Pos}(hns:PySem.W.nsIn X.K mainGlobals x=some (some (.ref C)))(hk:PySem.W.kitOne X.K (.ref C) (.ref C2)=some b)(hg:Gl X "isinstance")(hm:X.mg "isinstance" = none)(hgT:Gl X y)(hmT:X.mg y=some (.ref C2))(ha:PE X e (tD X.K f))
  (hdT:(y==("__debug__" : Str))=false:=by decide) (he2:starEach [e,.Name y px] X.env=(false,eval e X.env) :: starEach [.Name y px] X.env:=by rfl) :
  PE X (.Call (.Name "isinstance" p) [e,.Name y px] [] pos) (tD X.K (eUn (isX x b) f)):=
 za (q01 (qat (v2:=.ref C2) hns (fun u h=>by cases h;rfl) hk) hg hm q35 (ze ha (ze (q00 (v:=.ref C2) hgT hmT rfl hdT) y0) he2) (by decide) (by decide) he2 rfl) fun σ H Q ⟨F0,H0,F, ρ,d,r,hf,q⟩=>by
  obtain⟨d',h1,h2⟩:=g9.mp hf;obtain⟨rfl,rfl⟩:=q5t h2;exact⟨F0,H0,F, ρ,_,r,h1,fun v F' H' g' r'=>⟨v,F',rfl,g'.fh,r',q _ F' H' g' (rep_bl.mpr rfl)⟩⟩
theorem qkg{x y:Str}{b:Bool}{C:Addr}{T:String}{p px:Pos}(hns:PySem.W.nsIn X.K mainGlobals x=some (some (.ref C)))(hk:PySem.W.kitOne X.K (.ref C) (.type T)=some b)(hg:Gl X "isinstance")(hm:X.mg "isinstance" = none)(hgT:Gl X y)(hmT:X.mg y=none)(hvT:bootBuiltins y=some (.type T))(ha:PE X e (tD X.K f))
  (hnT:y≠"__name__" :=by decide) (hdT:(y==("__debug__" : Str))=false:=by decide) (he2:starEach [e,.Name y px] X.env=(false,eval e X.env) :: starEach [.Name y px] X.env:=by rfl) :
  PE X (.Call (.Name "isinstance" p) [e,.Name y px] [] pos) (tD X.K (eUn (isX x b) f)):=
 za (q01 (qat (v2:=.ty T) hns (fun u h=>by cases h;rfl) hk) hg hm q35 (ze ha (ze (qcf (v:=.ty T) hgT hmT hvT rfl hnT hdT) y0) he2) (by decide) (by decide) he2 rfl) fun σ H Q ⟨F0,H0,F, ρ,d,r,hf,q⟩=>by
  obtain⟨d',h1,h2⟩:=g9.mp hf;obtain⟨rfl,rfl⟩:=q5t h2;exact⟨F0,H0,F, ρ,_,r,h1,fun v F' H' g' r'=>⟨v,F',rfl,g'.fh,r',q _ F' H' g' (rep_bl.mpr rfl)⟩⟩
theorem q8i:∀ {Cs:List Addr} {us:List Value},Vals (Cs.map V.ref) us->us=Cs.map Value.ref
 | [],_,h=>by cases h;rfl
 | _ :: _,_,h=>by cases h with|cons p q=>cases p;rw [q8i q];rfl
theorem qga{x:Str}{b:Bool}{C:Addr}{Cs:List Addr}(hns:PySem.W.nsIn X.K mainGlobals x=some (some (.ref C)))(hk:PySem.W.kitAny X.K (.ref C) (Cs.map Value.ref)=some b):
  zi X (.builtin "isinstance") (fun xs H Q=>∃y F p,xs=[y,.ref p]/\H p=some (.tup (Cs.map V.ref))/\Same F H/\Rep X.K F (.exc x) y/\Q (.bl b) H):=by
 intro pins s σ H xs us Q I r h;obtain⟨y,F,p,rfl,hp,fh,rd,q⟩:=h;obtain⟨u,w',rfl,rx,rt⟩:=r.two;cases rt;obtain⟨a,C',rfl,h1,h2,c1,c2⟩:=rep_exc.mp rd;rw [hns] at h2;cases h2;cases rx;obtain⟨J,_,_⟩:=(show ObjOk X.prog X.w H s.heap a _ from I.hok a _ (fh _ _ h1))
 obtain⟨_,its,rv,⟨oc,od,dt,sl⟩,e1,e2,n,e3⟩:=(show ObjOk X.prog X.w H s.heap p _ from I.hok p _ hp)
 cases q8i rv;dsimp only at e2 e3;subst e2 e3;exact PySem.W.kia_tup (q5k c1) I.kIn J e1 hk (fun z=>nomatch z) (fun tk=>⟨.bl _,H,I.tok _,rfl,q⟩)
theorem qd3{x:Str}{b:Bool}{C:Addr}{Cs:List Addr}{p px:Pos}{es:List Expr}{x1}{t:TA}(hns:PySem.W.nsIn X.K mainGlobals x=some (some (.ref C)))(hk:PySem.W.kitAny X.K (.ref C) (Cs.map Value.ref)=some b)(hg:Gl X "isinstance")(hm:X.mg "isinstance" = none)(hl:Cs.length<=sizeLine)
  (hes:PA X es t) (ht:∀ σ H Q,Q (Cs.map V.ref) H->t σ H Q) (ha:PE X e (tD X.K f)) (he2:starEach [e,.Tuple es x1 px] X.env=(false,eval e X.env) :: starEach [.Tuple es x1 px] X.env:=by rfl) :
  PE X (.Call (.Name "isinstance" p) [e,.Tuple es x1 px] [] pos) (tD X.K (eUn (isX x b) f)):=
 za (q01 (qga hns hk) hg hm q35 (ze ha (ze (qf9 hes) y0) he2) (by decide) (by decide) he2 rfl) fun σ H Q ⟨F0,H0,F, ρ,d,r,hf,q⟩=>by
  obtain⟨d',h1,h2⟩:=g9.mp hf;obtain⟨rfl,rfl⟩:=q5t h2;refine⟨F0,H0,F, ρ,_,r,h1,fun v F' H' g' r'=>ht _ _ _ ⟨by rw [mj];exact hl,fun p hp=>?_⟩⟩;have g2:Grow F' H' F' (upd H' p (.tup (Cs.map V.ref))):=Grow.own g'.fh hp;exact⟨v,F',p,rfl,qt,g2.fh,r',q _ F' _ (g'.trans g2) (rep_bl.mpr rfl)⟩
end
end DL
namespace DL
open PySem
theorem qd4{K:Frag}{C:Addr}(h1:PySem.W.kitOne K (.ref C) (.type "int")=some false)(h2:PySem.W.kitOne K (.ref C) (.type "bool")=some false)(h3:PySem.W.kitOne K (.ref C) (.type "tuple")=some false)(h4:PySem.W.kitOne K (.ref C) (.type "list")=some false)
  (h5:PySem.W.kitOne K (.ref C) (.type "str")=some false) (h6:PySem.W.kitOne K (.ref C) (.type "dict")=some false):∀T:String,T∈["int","bool","tuple","list","str","dict"]->PySem.W.kitOne K (.ref C) (.type T)=some false:=by
 intro T hT;simp only [gm,g0w,p9] at hT;rcases hT with rfl|rfl|rfl|rfl|rfl|rfl <;> assumption
end DL
namespace DL
open PySem PySem.Spec PyProof.Rows L2
variable[Lam]
section
variable{P:Program}{w:World}{K:Frag}{mg:Str->Option Value}{base:Heap}{N:List Str}{qual:Str}{scope:Scope}{f:Addr}{cd:Value}{A:Around}{outer:List Env}{s0:Shared}{H0:Hp}{E:XK}
theorem qok:q3p (CXR P w) (qw (CXR P w) P w K mg base N qual scope f cd A outer s0 H0 E) E:=by
 intro pins σ H s e s' I h;obtain⟨os,bare,B,H2,a,t,C,vs,rfl,hfl,hnt,htup,hun,hna,hH2,q⟩:=h;refine wpAny_leaves_onW I.ok.frames rfl hfl fun h' x1 x2=>?_;have nl:∀b o,s0.heap.get? b=some o->b∉frs outer->b∉frs (envOfC qual scope s0.heap.objs.size f cd :: outer):=fun b o e n z=>by
  unfold frs at z;rw [qd1] at z;rcases gm.mp z with z|z
  ·rw [z] at e;exact absurd (gh e) (ph _)
  ·exact n z
 have nx:∀ {b:Addr},b∉([]:List Addr):=fun {b} z=>by cases z
 refine⟨os.trans I.os,bare,B,H2,a,t,C,vs,rfl,x1,hnt,htup.of_slots x2,fun h6 st u=>?_,?_,hH2,q⟩
 ·obtain⟨un,hok⟩:=hun h6 st (x2.trans u)
  refine⟨⟨fun b o e n hb _=>?_,fun b o e n hb _=>?_,fun b o e n _=>?_,fun b o e _=>?_,fun b xs e=>un.tups b xs (I.base.tups b xs e),fun b o xs e=>un.frzs b o xs (I.base.frzs b o xs e),fun b ps e=>?_⟩,hok⟩
  ·exact un.keep b o (I.base.keep b o e n hb nx) (I.base.free b o e n nx) (nl b o e hb) nx
  ·obtain⟨sl,e1⟩:=I.base.slot b o e n hb nx
   obtain⟨sl',e2⟩:=un.any e1 (I.base.free b o e n nx) nx;exact⟨sl',e2⟩
  ·obtain⟨o',e1⟩:=I.base.there b o e nx
   exact un.free b o' e1 (I.base.free b o e n nx) nx
  ·obtain⟨o',e1⟩:=I.base.there b o e nx
   exact un.there b o' e1 nx
  ·obtain⟨m1,e1⟩:=I.base.tbls b ps e
   obtain⟨m2,e2⟩:=un.tbls b _ e1;exact⟨m1++m2,by rw [e2,g2a]⟩
 ·cases z:s0.heap.get? a with
  | none=>rfl
  | some o=>
   obtain⟨o',e1⟩:=I.base.there a o z nx;rw [hna] at e1;cases e1
end
abbrev FX:=Rho->Option Str
def tXS(K:Frag)(v:FX)(E:XK): TS:=fun _ σ H=>∃F0 H0 F ρ x C,RS K F0 H0 F H σ ρ /\ v ρ = some x/\PySem.W.nsIn K mainGlobals x=some (some (.ref C))/\∀F' H',Grow F0 H0 F' H'->E (.ref C) none H'
def tXE(K:Frag)(v:FX)(E:XK): TE:=fun σ H _=>∃F0 H0 F ρ x C,RS K F0 H0 F H σ ρ /\ v ρ = some x/\PySem.W.nsIn K mainGlobals x=some (some (.ref C))/\∀F' H',Grow F0 H0 F' H'->E (.ref C) none H'
def spR(K:Frag)(ar:Nat)(op:List D->Option Str): Sp:=fun vs H _ E=>∃F ds x C,SameT F H/\RepL K F ds vs/\ds.length=ar/\op ds=some x/\PySem.W.nsIn K mainGlobals x=some (some (.ref C))/\∀F' H',Grow F H F' H'->E (.ref C) none H'
def q45:FX:=fun _=>none
def qau(x:Str): FX:=fun _=>some x
def xIf(t:FT)(a b:FX): FX:=fun ρ =>(t ρ).bind fun c=>if c then a ρ else b ρ
def q46(u:FS)(a b:FX): FX:=fun ρ =>(a ρ).or (match u ρ with|some (.nx, ρ')=>b ρ'|_=>none)
def wo(ar:Nat)(op:List D->Option Str)(fa:FA): FX:=fun ρ =>(fa ρ).bind fun ds=>if ds.length=ar then op ds else none
theorem PS.nox{X:Cx}{st:Stmt}{t:TS}(h:PS X.nox st t): PS X st t:=fun pins s σ H D I hw=>
 n9 (h pins s σ H D (I.wish _) hw) (fun _ _ q=>q.unwish) fun _ _ z=>False.elim z
theorem PA.nox'{X:Cx}{es:List Expr}{t:TA}(h:PA X.nox es t): PA X es t:=fun pos pins s σ H Q I hw=>
 n9 (h pos pins s σ H Q (I.wish _) hw) (fun _ _ ⟨v,H',I',r,q⟩=>⟨v,H',I'.unwish,r,q⟩) fun _ _ z=>False.elim z
section
variable{P:Program}{w:World}{K:Frag}{mg:Str->Option Value}{base:Heap}{N:List Str}{qual:Str}{scope:Scope}{f:Addr}{cd:Value}{A:Around}{outer:List Env}{s0:Shared}{H0:Hp}{E:XK}
variable{st:Stmt}{rest:List Stmt}{u:FS}{v v':FX}{t:FT}{pos:Pos}
theorem q47{X:Cx}{sts:List Stmt}: PSs X sts (tXS K q45 E):=fun _ _ _ _ _ _ ⟨_,_,_,_,_,_,_,h,_⟩=>by cases h
theorem qim{C:Addr}{x m:Str}{np p2 cpos:Pos}{j}(hC:q7t K C)(hg:Gl (qw (CXR P w) P w K mg base N qual scope f cd A outer s0 H0 E) x)(hm:mg x=some (.ref C))(hns:PySem.W.nsIn K mainGlobals x=some (some (.ref C)))(hd:(x==("__debug__" : Str))=false:=by decide):
  PS (qw (CXR P w) P w K mg base N qual scope f cd A outer s0 H0 E) (.Raise (some (.Call (.Name x np) [.Constant (.str m) j p2] [] cpos)) none pos) (tXS K (qau x) E):=jq (qii hC hg hm hd) fun D σ H ⟨F0,H0,F, ρ,y,C',r,hv,hn,hE⟩=>by
 cases hv;rw [hns] at hn;cases hn;exact hE _ _ r.g
theorem qn1{X:Cx}(h:PS X st (tXS K v E)): PSs X [st] (tXS K v E):=qcg h
theorem qgb{X:Cx}(h1:PS X st (tDS K u))(h1x:PS X st (tXS K v E))(h2x:PSs X rest (tXS K v' E)): PSs X (st :: rest) (tXS K (q46 u v v') E):=by
 intro pins s σ H D I ⟨F0,H0,F, ρ,x,C,r,hv,hn,hE⟩;unfold q46 at hv;cases h:v ρ with
 | some y=>
  rw [h,g0p] at hv;cases hv;refine g0r (thn (h1x pins s σ H {nx:=fun _ _=>False,rt:=fun _ _=>False} I ⟨F0,H0,F, ρ,x,C,r,h,hn,hE⟩) fun fl s1 q=>?_);cases fl with
  | next=>obtain⟨_,_,_,q⟩:=q;exact q.elim
  | brk=>obtain⟨_,_,_,q⟩:=q;exact q.elim
  | cont=>obtain⟨_,_,_,q⟩:=q;exact q.elim
  | ret z=>obtain⟨_,_,_,_,_,q⟩:=q;exact q.elim
 | none=>
  rw [h,g1d] at hv
  split at hv
  ·rename_i ρ' hu
   refine g0r (thn (h1 pins s σ H {D with nx:=fun σ' H'=>tXS K v' E D σ' H'} I ⟨F0,H0,F, ρ,.nx, ρ',r,hu,fun σ' F' H' s' r'=>⟨F0,H0,F', ρ',x,C,r',hv,hn,hE⟩⟩) fun fl s1 q=>?_);cases fl with
   | next=>obtain⟨σ',H',I',q⟩:=q;exact h2x pins s1 σ' H' D I' q
   | brk=>exact q
   | cont=>exact q
   | ret z=>exact q
  ·cases hv
theorem qol{X:Cx}{c:Expr}{a b:List Stmt}(hc:PT X c (tDT K t))(ha:PSs X a (tXS K v E))(hb:PSs X b (tXS K v' E)): PS X (.If c a b pos) (tXS K (xIf t v v') E):=jq (qdf hc ha hb) fun D σ H ⟨F0,H0,F, ρ,x,C,r,hv,hn,hE⟩=>by
 obtain⟨d,h1,h2⟩:=g9.mp hv;refine⟨F0,H0,F, ρ,d,r,h1,fun F' H' g=>?_⟩;cases d with
 | true=>exact qhf ⟨F0,H0,F', ρ,x,C,r.grow g,h2,hn,hE⟩
 | false=>exact qhe ⟨F0,H0,F', ρ,x,C,r.grow g,h2,hn,hE⟩
theorem qkh{k k' ar:Nat}{fn:Addr}{fd:FuncData}{ps:List Str}{op:List D->Option Str}{x:Str}{p:Pos}{e:Expr}{es:List Expr}{fa:FA}(G:FnOk P w K mg base (CXR P w) k fn fd ps (spR K ar op))(hr:Room k' (qw (CXR P w) P w K mg base N qual scope f cd A outer s0 H0 E).A)(hk':k<=k')(hg:Gl (qw (CXR P w) P w K mg base N qual scope f cd A outer s0 H0 E) x)(hm:mg x=some (.ref fn))(hk:PySem.W.keepIn K (.ref fn)=true)(hb:Binds K fd ps [])
  (ha:PA (qw (CXR P w) P w K mg base N qual scope f cd A outer s0 H0 E).nox (e :: es) (tDA K fa)) (hdb:(x==("__debug__" : Str))=false:=by decide) (he:starEach (e :: es) (qw (CXR P w) P w K mg base N qual scope f cd A outer s0 H0 E).env=(false,eval e (qw (CXR P w) P w K mg base N qual scope f cd A outer s0 H0 E).env) :: starEach es (qw (CXR P w) P w K mg base N qual scope f cd A outer s0 H0 E).env:=by rfl) (hpl:(backTo pos (starEach es (qw (CXR P w) P w K mg base N qual scope f cd A outer s0 H0 E).env)).any (·.1)=false:=by rfl) :
  PE (qw (CXR P w) P w K mg base N qual scope f cd A outer s0 H0 E) (.Call (.Name x p) (e :: es) [] pos) (tXE K (wo ar op fa) E):=
 za (qcl (X:=(qw (CXR P w) P w K mg base N qual scope f cd A outer s0 H0 E)) G (hr.mono hk') hg hm hk hb .nil qok (PA.nox' ha) hdb he hpl) fun σ H Q ⟨F0,H0,F, ρ,y,C,r,hv,hn,hE⟩=>by
  obtain⟨ds,h1,h2⟩:=g9.mp hv
  split at h2
  ·rename_i hl
   refine⟨F0,H0,F, ρ,ds,r,h1,fun vs F1 H1 g rl=>⟨F1,ds,y,C,r.sameT g,by rw [uo];exact rl,hl,h2,hn,fun F2 H2 g2=>hE F2 H2 ((r.g.trans g).trans g2)⟩⟩
  ·cases h2
theorem qn2{X:Cx}{e:Expr}{i:Nat}{x:Str}{px:Pos}(hN:X.N.Nodup)(hi:X.N[i]? = some x)(hx:Loc X.env.scope x)(h:PE X e (tXE K v E))(hs:swapsWith e (some (.Name x px)) pos.line X.env=pure false:=by rfl)(hf:X.fn x=true\/X.env.scope.names.lookup x=some .local:=by first|exact .inl rfl|exact .inr rfl|assumption):
  PS X (.Assign [.Name x px] e pos) (tXS K v E):=jq (q9k hN hi hx h hs hf) fun D σ H q=>q
end
section
variable{P:Program}{w:World}{K:Frag}{mg:Str->Option Value}{base:Heap}{x qual:Str}{st:Stmt}{dV:Value}{f:Addr}{fd:FuncData}{N ps:List Str}
theorem q8j{k n ar k1:Nat}{v:FX}(F:Fun2 K x qual st dV f fd)(S:FnScope N ps (qd st))(hn:N.length=n)(ha:ps.length=ar)(hk:k+1=k1)
  (hb:∀(cdv:Value) (A:Around) (outer:List Env) (s:Shared) (H:Hp) (E:XK),Room k (A.deeper (envOfC qual (qd st) s.heap.objs.size f cdv))->PSs (qw (CXR P w) P w K mg base N qual (qd st) f cdv A outer s H E) (qq st) (tXS K v E)) :
  FnOk P w K mg base (CXR P w) k1 f fd ps (spR K ar fun ds=>v (q1h n ds)):=by
 subst hn ha hk;obtain⟨oc,od,kV,doc,pm,an,cdv,ct,osl,rfl,lk,hcd⟩:=F.ex;have hpl:ps.length<=N.length:=by have:=pw List.length S.pre;rw [p8] at this;lia
 refine qj2 lk hcd S (fun vs H Q E h=>?_) fun A outer s H vs Q E hr hsp=>?_
 ·obtain⟨F,ds,_,_,_,rl,el,_⟩:=h
  rw [<- rl.length];exact el
 ·obtain⟨F1,ds,y,C,fh,rl,el,hp,hn,q⟩:=hsp
  exact⟨_,hb cdv A outer s H E hr,⟨_,_,_,_,y,C,qil fh rl (by lia),hp,hn,q⟩⟩
end
section
variable{P:Program}{w:World}{K:Frag}{mg:Str->Option Value}{base:Heap}{CX:CXT}{k:Nat}{f:Addr}{fd:FuncData}{ps:List Str}{sp sp':Sp}
end
section
variable{M:Model}{A:Around}{E:Value->Shared->Prop}{s:Shared}{K:Frag}{a C C2:Addr}
open PySem.W in
theorem qbv{b:Bool}{Q:Bool->Shared->Prop}(X:K.In s.heap)(e:XE a C s.heap)(c2:ExcC K C2)(ht:typeIn K (.ref C2)=some (.type "type"))(hs:mroIn K C (.ref C2)=some b)(hq:Q b s): wpAny M A (excMatches (.ref a) (.ref C2)) Q E s:=by
 obtain⟨hh,g,d,t,os⟩:=s;have L0:Looks M hh (isInstance (.ref C2) (.type "tuple")) false:=(looks_typeIn X ht).andThen (Looks.of_pure tc_notTuple);have L1:Looks M hh (isType (.ref C2)) true:=by
  obtain⟨cdD,hcD⟩:=tf.mp (q7j c2);unfold PySem.W.clsIn at hcD
  split at hcD
  ·rename_i c' d' cd' sl' ho
   intro A' Q' E' s' k q;unfold isType loadHead;exact g0 (wpAny_loadPart (k _ _ (X _ _ ho)) (gb q))
  ·cases hcD
 have L2:Looks M hh (isExcClass (.ref C2)) true:=by
  refine L1.andThen ?_;rw [gz rfl];exact looks_mroIn X c2.cb
 have L3:=q13 (M:=M) e;have L4:=looks_mroIn (M:=M) X hs;unfold excMatches;refine g0 (L0.at ?_);simp only [gu,g02];refine g0 (gb ?_);simp only [g09,g29,bind_assoc,pure_bind];refine g0 (L2.at ?_);simp only [g07,gu,g02,pure_bind];refine g0 (L3.at ?_);refine g0 (L4.at ?_);cases b with
 | true=>
  simp only [pb,pure_bind];exact gb hq
 | false=>
  simp only [gu,g02,pure_bind];exact gb hq
end
section
variable{X:Cx}
def Handles(X:Cx)(C:Addr)(hs:List ExceptHandler)(th:Addr->TS): Prop:=∀(pins:List (Addr×Obj)) (σ : St) (H H2:Hp) (s s':Shared) (B:Heap) (a t:Addr) (D:Ends),Inv X pins σ H s->s.heap.get? a=none->H2 a=none ->
 (∀h6,B.StaysIn h6->s'.heap.UpToSlots h6->Inv X pins σ H2 {s' with heap:=h6})->Heap.FlyingW B (X.env :: X.outer) a (.ref C) (.ref t) s'.heap->th a D σ H2 ->
 wpAny (model X.prog X.w) X.A (handleBy (.ref a) X.env hs) (SP X pins D) X.xe s'
theorem qki{pins:List (Addr×Obj)}{σ : St}{H2:Hp}{s':Shared}{B:Heap}(inv:∀h6,B.StaysIn h6->s'.heap.UpToSlots h6->Inv X pins σ H2 {s' with heap:=h6})(st:B.StaysIn s'.heap): Inv X pins σ H2 s':=inv s'.heap st (Heap.UpToSlots.refl _)
variable{C C2:Addr}{cx n:Str}{np hpos:Pos}{b₀:Stmt}{suite:List Stmt}{rest:List ExceptHandler}{ts:TS}{th:Addr->TS}{i:Nat}
theorem qj9{B h:Heap}{l:List Env}{a t:Addr}(fl:Heap.FlyingW B l a (.ref C) (.ref t) h): XE a C h:=by
 obtain⟨oe,ws,hoe,hoec,hoed,_⟩:=fl.first;exact⟨oe,ws,hoe,hoec,hoed⟩
theorem qe9(c2:ExcC X.K C2)(ht:PySem.W.typeIn X.K (.ref C2)=some (.type "type"))(hs:PySem.W.mroIn X.K C (.ref C2)=some true)(hg:Gl X cx)(hm:X.mg cx=some (.ref C2))(hN:X.N.Nodup)(hi:X.N[i]? = some n)(hx:X.env.scope.names.lookup n=some .local)
  (hb:∀a,PSs (inX X a) (b₀ :: suite) ts) (hdb:(cx==("__debug__" : Str))=false:=by decide) :
  Handles X C (.ExceptHandler (some (.Name cx np)) (some n) (b₀ :: suite) hpos :: rest) (fun a D σ H2=>ts (qij i D) (σ.set i (some (.ref a))) (upd H2 a (.ext (XE a C)))):=by
 intro pins σ H H2 s s' B a t D I hna hH2 inv hfl q;have I5:=qki inv hfl.1;refine wpAny_handleBy_cons (codeAny_handlers_test (q12 (qd2 (a:=a) I5) hg hm ?_ hdb)) (by intro q;cases q);refine qbv I5.kIn (qj9 hfl) c2 ht hs ?_;refine codeAny_handlers_suite_as (lands_againW hfl fun h6 fl6 sm6=>?_);have I6:=inv h6 fl6.1 sm6;obtain⟨oe,ws,hoe,hoec,hoed⟩:=qj9 fl6;have I7:Inv X pins σ (upd H2 a (.ext (XE a C))) {s' with heap:=h6}:=qmy I hna I6 hH2 ⟨⟨oe,ws,hoe,hoec,hoed⟩,⟨oe,hoe⟩,fun h1 h2 ⟨o,vs,e1,e2,e3⟩ k=>⟨o,vs,k o e1,e2,e3⟩⟩;refine q2x (X:=X) I7 hN hi (Or.inl hx) (v:=.ref a) rfl (fun s8 I8=>?_) (.inr hx);exact n9 (hb a pins s8 _ _ (qij i D) (qd2 I8) q) (fun f s9 z=>qn0 I.ok hN hi hx z) fun _ _ z=>z.elim
end
section
variable{X:Cx}
abbrev pnX(X:Cx)(pins:List (Addr×Obj)): Cx:={X with pn:=X.pn++pins}
abbrev XT(X:Cx)(pins:List (Addr×Obj))(σ0:St)(Ex:XK): Cx:=(pnX X pins).wish fun e s1=>∃p H1 s,Inv (pnX X pins) p σ0 H1 s/\CXR X.prog X.w X.stack H1 s Ex e s1
theorem qom{pins:List (Addr×Obj)}(ok:X.Ok): (pnX X pins).Ok:=
 ⟨ok.mod,ok.kind,ok.glob,ok.blt,ok.above,ok.inj,ok.has,ok.cab,ok.hd,ok.frames,ok.stk,ok.exf,ok.bs,ok.bsz,ok.noex,ok.exfs,ok.funs,ok.frf⟩
theorem qkj{pins:List (Addr×Obj)}(ok:(pnX X pins).Ok): X.Ok:=
 ⟨ok.mod,ok.kind,ok.glob,ok.blt,ok.above,ok.inj,ok.has,ok.cab,ok.hd,ok.frames,ok.stk,ok.exf,ok.bs,ok.bsz,ok.noex,ok.exfs,ok.funs,ok.frf⟩
theorem qn3{pins:List (Addr×Obj)}{σ : St}{H:Hp}{s:Shared}(I:Inv X pins σ H s): Inv (pnX X pins) [] σ H s:=
 ⟨qom I.ok,I.os,I.bare,I.base,I.loc,I.cell,I.free,I.freeC,fun p hp=>I.pin p (by rw [uo] at hp;exact hp),I.hok,I.len⟩
theorem q1i{pins p:List (Addr×Obj)}{σ : St}{H:Hp}{s:Shared}(I:Inv (pnX X pins) p σ H s): Inv X pins σ H s:=
 ⟨qkj I.ok,I.os,I.bare,I.base,I.loc,I.cell,I.free,I.freeC,fun q hq=>I.pin q (g0q _ hq),I.hok,I.len⟩
theorem qkk{pins p:List (Addr×Obj)}{D:Ends}{f:Flow}{s':Shared}(h:SP (pnX X pins) p D f s'): SP X pins D f s':=by
 cases f with
 | next=>obtain⟨σ',H',I,q⟩:=h;exact⟨σ',H',q1i I,q⟩
 | brk=>obtain⟨σ',H',I,q⟩:=h;exact⟨σ',H',q1i I,q⟩
 | cont=>obtain⟨σ',H',I,q⟩:=h;exact⟨σ',H',q1i I,q⟩
 | ret u=>obtain⟨v, σ',H',I,r,q⟩:=h;exact⟨v, σ',H',q1i I,r,q⟩
def exT(okC:Addr->Prop)(th:Addr->Addr->TS)(D:Ends)(σ : St): XK:=fun c _ H2=>∃C,c=.ref C/\okC C/\∀a,H2 a=none->th C a D σ H2
theorem qkl{body:List Stmt}{h0:ExceptHandler}{hs:List ExceptHandler}{pos:Pos}{tb:St->XK->TS}{okC:Addr->Prop}{th:Addr->Addr->TS}(hst:X.stack=X.env :: X.outer/\X.env.frame=some X.env.locals)
  (hbody:∀(pins:List (Addr×Obj)) (σ0:St) (Ex:XK),PSs (XT X pins σ0 Ex) body (tb σ0 Ex)) (hh:∀C,okC C->Handles X C (h0 :: hs) (th C)):PS X (.Try body (h0 :: hs) [] [] pos) (fun D σ H=>tb σ (exT okC th D σ) D σ H):=by
 intro pins s σ H D I h;refine wpAny_Try_except ?_;refine n9 (hbody pins σ (exT okC th D σ) [] s σ H D ((qn3 I).wish _) h) (fun f s1 q=>?_) fun e s1 q=>?_
 ·have q':SP X pins D f s1:=qkk (SP.unwish q)
  cases f with
  | next=>exact g10 q'
  | brk=>exact q'
  | cont=>exact q'
  | ret u=>exact q'
 ·obtain⟨p,H1,s2,I2,os,bare,B,H2,a,t,C',vs',rfl,hfl,hnt,htup,hun,hna,hH2,C,hc,hok,hq⟩:=q
  cases hc;have I3:Inv X pins σ H1 s2:=q1i I2;rw [hst.1] at hfl;have hfr:X.A.frames=some (X.env :: X.outer):=by rw [I.ok.frames,hst.1]
  refine wpAny_looks_onW hfr hst.2 hfl fun h4 held4 sm4=>?_;refine wpAny_landsW held4 fun h5 held sm5=>?_;exact hh C' hok pins σ H1 H2 s2 {s1 with heap:=h5} B a t D I3 hna hH2 (fun h6 st u=>I3.call' (s':={s1 with heap:=h6}) (ch:=[]) os (hun h6 st ((sm4.trans sm5).trans u)).1 (hun h6 st ((sm4.trans sm5).trans u)).2 bare fun b z=>absurd z (by simp)) held (hq a hH2)
end
def tXC(K:Frag)(v:FX)(σ0:St)(E:XK): TS:=fun _ σ H=> σ = σ0/\∃F0 H0 F ρ x C,RS K F0 H0 F H σ ρ /\ v ρ = some x/\PySem.W.nsIn K mainGlobals x=some (some (.ref C))/\∀F' H',Grow F H F' H'->E (.ref C) none H'
def qn4(K:Frag)(v:FX)(σ0:St)(E:XK): TE:=fun σ H _=> σ = σ0/\∃F0 H0 F ρ x C,RS K F0 H0 F H σ ρ /\ v ρ = some x/\PySem.W.nsIn K mainGlobals x=some (some (.ref C))/\∀F' H',Grow F H F' H'->E (.ref C) none H'
section
variable{X:Cx}{K:Frag}{st:Stmt}{v v':FX}{t:FT}{pos:Pos}{σ0:St}{E:XK}{pins:List (Addr×Obj)}
theorem qon{c:Expr}{a b:List Stmt}(hc:PT X c (tDT K t))(ha:PSs X a (tXC K v σ0 E))(hb:PSs X b (tXC K v' σ0 E)): PS X (.If c a b pos) (tXC K (xIf t v v') σ0 E):=jq (qdf hc ha hb) fun D σ H ⟨e0,F0,H0,F, ρ,x,C,r,hv,hn,hE⟩=>by
 obtain⟨d,h1,h2⟩:=g9.mp hv;refine⟨F0,H0,F, ρ,d,r,h1,fun F' H' g=>?_⟩;cases d with
 | true=>exact qhf ⟨e0,F0,H0,F', ρ,x,C,r.grow g,h2,hn,fun F2 H2 g2=>hE F2 H2 (g.trans g2)⟩
 | false=>exact qhe ⟨e0,F0,H0,F', ρ,x,C,r.grow g,h2,hn,fun F2 H2 g2=>hE F2 H2 (g.trans g2)⟩
theorem qd5{e:Expr}(h:PE X e (qn4 K v σ0 E))(hs:swapsWith e none pos.line X.env=pure false:=by rfl): PS X (.Expr e pos) (tXC K v σ0 E):=jq (q4t h hs) fun D σ H q=>q
theorem qd6{k k' ar:Nat}{fn:Addr}{fd:FuncData}{ps:List Str}{op:List D->Option Str}{x:Str}{p:Pos}{e:Expr}{es:List Expr}{fa:FA}(G:FnOk X.prog X.w X.K X.mg X.base (CXR X.prog X.w) k fn fd ps (spR X.K ar op))(hr:Room k' X.A)(hk':k<=k')(hg:Gl X x)(hm:X.mg x=some (.ref fn))(hk:PySem.W.keepIn X.K (.ref fn)=true)(hb:Binds X.K fd ps [])
  (ha:PA (XT X pins σ0 E).nox (e :: es) (tDA X.K fa)) (hdb:(x==("__debug__" : Str))=false:=by decide) (he:starEach (e :: es) X.env=(false,eval e X.env) :: starEach es X.env:=by rfl) (hpl:(backTo pos (starEach es X.env)).any (·.1)=false:=by rfl) :
  PE (XT X pins σ0 E) (.Call (.Name x p) (e :: es) [] pos) (qn4 X.K (wo ar op fa) σ0 E):=by
 intro q0 s σ H Q I ⟨e0,F0,H0,F, ρ,y,C,r,hv,hn,hE⟩;subst e0;obtain⟨ds,h1,h2⟩:=g9.mp hv
 split at h2
 ·rename_i hl
  refine g08 (q12 I hg hm ?_ hdb);refine g2b (h₀:=X.base) I.ok.mod.kin hk (n9 (ha pos q0 s σ H (fun vs H1=>spR X.K ar op vs H1 (fun _ _=>False) E) (I.wish _) ⟨F0,H0,F, ρ,ds,r,h1,fun vs F1 H1 g rl=>⟨F1,ds,y,C,r.sameT g,rl,hl,h2,hn,fun F2 H2 g2=>hE F2 H2 (g.trans g2)⟩⟩) (fun us s1 ⟨vs,H1,I1,rv,q⟩=>⟨I1.kIn,?_⟩) fun _ _ z=>False.elim z) he hpl;have I1:=I1.unwish;have hlu:us.length=ps.length:=by rw [<- rv.length];exact G.len _ _ _ _ q
  have hl':(us++[]).length=ps.length:=by rw [uo];exact hlu
  have hb':=hb s1 us I1.kIn hl';rw [uo] at hb';refine g1u (g14 (G.run X.A X.stack s1 H1 ⟨us,[]⟩ us vs _ _ (hr.mono hk') I1.env0 hb' rv q) fun rr s' hq=>?_);cases rr with
  | error e1=>exact⟨q0,H1,s1,I1.unwish,hq⟩
  | ok fl=>
   cases fl with
   | ret u=>obtain⟨_,_,_,_,_,_,_,z⟩:=hq;exact z.elim
   | next=>exact False.elim hq
   | brk=>exact False.elim hq
   | cont=>exact False.elim hq
 ·cases h2
end
def sAs(i:Nat)(x:Str)(us:FS): FS:=fun ρ =>(us (ρ.set i (some (.fz (.exc x))))).map fun r=>(r.1,r.2.set i none)
def q3a(ub:FS)(vb:FX)(xs:List Str)(hd:Str->FS): FS:=fun ρ =>match vb ρ with
 | some x=>if x∈xs then hd x ρ else none
 | none=>ub ρ
section
variable{X:Cx}
theorem Handles.imp{C:Addr}{hs:List ExceptHandler}{th th':Addr->TS}(k:Handles X C hs th)(i:∀a D σ H,H a=none->th' a D σ H->th a D σ H): Handles X C hs th':=
 fun pins σ H H2 s s' B a t D I hna hH2 inv hfl q=>k pins σ H H2 s s' B a t D I hna hH2 inv hfl (i a D σ H2 hH2 q)
variable{C C2:Addr}{cx n x:Str}{np hpos:Pos}{b₀:Stmt}{suite:List Stmt}{rest:List ExceptHandler}{us:FS}{i:Nat}
theorem qoo(c2:ExcC X.K C2)(ht:PySem.W.typeIn X.K (.ref C2)=some (.type "type"))(hs:PySem.W.mroIn X.K C (.ref C2)=some true)(hns:PySem.W.nsIn X.K mainGlobals x=some (some (.ref C)))(hcx:q1a X.K C)(hg:Gl X cx)(hm:X.mg cx=some (.ref C2))(hN:X.N.Nodup)(hi:X.N[i]? = some n)(hx:X.env.scope.names.lookup n=some .local)
  (hb:∀a,PSs (inX X a) (b₀ :: suite) (tDS X.K us)) (hdb:(cx==("__debug__" : Str))=false:=by decide) :
  Handles X C (.ExceptHandler (some (.Name cx np)) (some n) (b₀ :: suite) hpos :: rest) (fun _=>tDS X.K (sAs i x us)):=
 (qe9 c2 ht hs hg hm hN hi hx hb hdb).imp fun a D σ H hna ⟨F0,H0,F, ρ,fl, ρ',r,hf,q⟩=>by
  obtain⟨⟨fl1, ρ1⟩,h5,h6⟩:=gq.mp hf;cases h6;have g3:Grow F H (upd F a (.ext (XE a C))) (upd H a (.ext (XE a C))):=Grow.new r.fh hna;have r4:=(r.grow g3).set i (rep_exc.mpr ⟨a,C,rfl,qt,hns,hcx⟩:Rep X.K (upd F a (.ext (XE a C))) (.exc x) (.ref a));refine⟨F0,H0,_,_,_, ρ1,r4,h5,?_⟩;cases fl1 with
  | nx=>exact fun σ' F' H' s' r'=>q _ F' H' (g3.ff.trans s') (r'.unset i)
  | bk=>exact fun σ' F' H' s' r'=>q _ F' H' (g3.ff.trans s') (r'.unset i)
  | ct=>exact fun σ' F' H' s' r'=>q _ F' H' (g3.ff.trans s') (r'.unset i)
  | rt d=>exact q
theorem qkm{body:List Stmt}{h0:ExceptHandler}{hs:List ExceptHandler}{pos:Pos}{ub:FS}{vb:FX}{xs:List Str}{hd:Str->FS}(hst:X.stack=X.env :: X.outer/\X.env.frame=some X.env.locals)
  (hb:∀(pins:List (Addr×Obj)) (σ0:St) (Ex:XK),PSs (XT X pins σ0 Ex) body (tDS X.K ub)) (hx:∀(pins:List (Addr×Obj)) (σ0:St) (Ex:XK),PSs (XT X pins σ0 Ex) body (tXC X.K vb σ0 Ex))
  (hh:∀x C,x∈xs->PySem.W.nsIn X.K mainGlobals x=some (some (.ref C))->Handles X C (h0 :: hs) (fun _=>tDS X.K (hd x))) (hn:∀x,x∈xs->∃C,PySem.W.nsIn X.K mainGlobals x=some (some (.ref C))) :
  PS X (.Try body (h0 :: hs) [] [] pos) (tDS X.K (q3a ub vb xs hd)):=by
 refine jq (qkl (tb:=fun σ0 Ex D σ H=>tXC X.K vb σ0 Ex D σ H\/tDS X.K ub D σ H) (okC:=fun C=>∃x,x∈xs/\PySem.W.nsIn X.K mainGlobals x=some (some (.ref C)))
  (th:=fun C _ D σ H=>∃x,x∈xs/\PySem.W.nsIn X.K mainGlobals x=some (some (.ref C))/\tDS X.K (hd x) D σ H) hst (fun pins σ0 Ex p s σ H D I h=>h.elim (hx pins σ0 Ex p s σ H D I) (hb pins σ0 Ex p s σ H D I))
  fun C _ pins σ H H2 s s' B a t D I hna hH2 inv hfl ⟨x,h1,h2,q⟩=>hh x C h1 h2 pins σ H H2 s s' B a t D I hna hH2 inv hfl q) fun D σ H ⟨F0,H0,F, ρ,fl, ρ',r,hf,q⟩=>?_
 unfold q3a at hf
 split at hf
 ·rename_i x hv
  split at hf
  ·rename_i hxs
   obtain⟨C,hC⟩:=hn x hxs;refine .inl ⟨rfl,F0,H0,F, ρ,x,C,r,hv,hC,fun F' H' g=>⟨C,rfl,⟨x,hxs,hC⟩,fun a _=>⟨x,hxs,hC,F0,H0,F', ρ,fl, ρ',r.grow g,hf,?_⟩⟩⟩;cases fl with
   | nx=>exact fun σ' F2 H2 s' r'=>q _ F2 H2 (g.ff.trans s') r'
   | bk=>exact fun σ' F2 H2 s' r'=>q _ F2 H2 (g.ff.trans s') r'
   | ct=>exact fun σ' F2 H2 s' r'=>q _ F2 H2 (g.ff.trans s') r'
   | rt d=>exact q
  ·cases hf
 ·exact .inr ⟨F0,H0,F, ρ,fl, ρ',r,hf,q⟩
end
theorem q5u{X:Cx}{K:Frag}{st:Stmt}{rest:List Stmt}{v:FX}{σ0:St}{E:XK}(h:PS X st (tXC K v σ0 E)): PSs X (st :: rest) (tXC K v σ0 E):=by
 intro pins s σ H D I q;refine g0r (thn (h pins s σ H {nx:=fun _ _=>False,rt:=fun _ _=>False} I q) fun fl s1 q=>?_);cases fl with
 | next=>obtain⟨_,_,_,q⟩:=q;exact q.elim
 | brk=>obtain⟨_,_,_,q⟩:=q;exact q.elim
 | cont=>obtain⟨_,_,_,q⟩:=q;exact q.elim
 | ret z=>obtain⟨_,_,_,_,_,q⟩:=q;exact q.elim
def qin(l:List (Str×FS))(x:Str): FS:=(l.lookup x).getD q2n
section
variable{X:Cx}{e:Expr}{pos:Pos}{f:FE}
end
end DL
namespace DL
open PySem PySem.Spec PyProof.Rows L2 PySem.W
variable[Lam]
def qea(x:Str)(g:FE)(v:FX): FX:=fun ρ =>(g ρ).bind fun d=>if isO x d then v ρ else none
section
variable{X:Cx}
theorem PE.nox'{e:Expr}{t:TE}(h:PE X.nox e t): PE X e t:=fun pins s σ H Q I hw=>
 n9 (h pins s σ H Q (I.wish _) hw) (fun _ _ ⟨v,H',I',r,q⟩=>⟨v,H',I'.unwish,r,q⟩) fun _ _ z=>False.elim z
theorem qn5{x m:Str}{C:Addr}{o e:Expr}{es:List Expr}{apos pos:Pos}{k k' ar:Nat}{fn:Addr}{fd:FuncData}{ps:List Str}{op:List D->Option D}{g:FE}{fa:FA}{v:FX}{E:XK}{pl:Sem Bool}(O:ClsOk X.K x C)
  (M:CalM X.prog X.w X.K X.mg X.base x m C k ps ar op fn fd) (b:Binds X.K fd ps []) (hr:Room k' X.A) (hk:k<=k') (ho:PE X.nox o (tD X.K g)) (he:PE X e (tXE X.K v E)) (hes:PA X.nox es (tDA X.K fa))
  (hst:starEach (e :: es) X.env=(false,eval e X.env) :: starEach es X.env:=by rfl) (hpl:(backTo pos (starEach es X.env)).any (·.1)=false:=by rfl)
  (ht:eval (.Call (.Attribute o m apos) (e :: es) [] pos) X.env=(do
   let ov <- eval o X.env
   standAt apos.atName
   let(f,first) <- holding [ov] (getMethod ov m pl)
   callWith pos f first (backTo pos (starEach (e :: es) X.env)) (backToKw pos (keywordEach [] X.env))):=by rfl) :
  PE X (.Call (.Attribute o m apos) (e :: es) [] pos) (tXE X.K (qea x g v) E):=
 za (qcm (pl:=pl) (PE.nox' ho) O.cls M.me M.ok (hr.mono hk) b .nil qdo (ze he (PA.nox' hes) hst) hst hpl ht) fun σ H Q ⟨F0,H0,F, ρ,y,C',r,hv,hn,hE⟩=>by
  obtain⟨d1,h1,hv⟩:=g9.mp hv
  split at hv
  ·rename_i hi
   obtain rfl:d1=.obj x:=by
    cases d1 <;> simp only [isO] at hi <;> first|(cases hi;done)|skip
    rw [(by simpa using hi:x=_)]
   refine⟨F0,H0,F, ρ,.obj x,r,h1,fun v F1 H1 g1 r1=>?_⟩;obtain⟨a,dx,C2,rfl,e1,e2,e3⟩:=rep_obj.mp r1;have hC:C2=C:=by
    have:=e2.symm.trans O.ns;cases this;rfl
   subst hC;exact⟨a,dx,[],rfl,g1.fh _ _ e1,rfl,F0,H0,F1, ρ,y,C',r.grow g1,hv,hn,hE⟩
  ·cases hv
def qeb:List D->Option D
 | [.int i]=>if i.natAbs.log2<1920 then some (.str (toString i)) else none
 | _=>none
theorem qn6:zi X (.type "str") (rC X.K qeb):=yo q9m fun xs H Q ⟨F,ds,d,fh,rl,ho,q⟩=>by
 unfold qeb at ho
 split at ho
 ·rename_i i
  split at ho
  ·rename_i hz
   cases ho;exact⟨i,RepL.ints (ns:=[i]).mp rl,hz,q _ F H (.refl fh) (rep_str.mpr rfl)⟩
  ·cases ho
 ·cases ho
end
end DL
namespace DL
open PySem L2
theorem qav(a b:Int): decide (V.int a=V.int b)=decide (a=b):=g2y.mpr ⟨fun h=>by injection h,fun h=>by rw [h]⟩
theorem qd7(a b:Int): oEq (.int a) (.int b)=some (.bl (decide (a=b))):=by
 simp only [oEq,qho,flD,q7f,mf,pb,g0p,qav]
theorem q15(a b:Int): q27 (.int a) (.int b)=some (.bl (!decide (a=b))):=by
 simp only [q27,flD,q7f,mf,pb,qav]
theorem qn7(a b:Bool): oEq (.bl a) (.bl b)=some (.bl (a==b)):=by
 cases a <;> cases b <;> rfl
theorem qaw(a b:Int)(h:0<b): oMod (.int a) (.int b)=some (.int (a%b)):=by simp [oMod,oI,h]
theorem qio(a b:Int)(h:0<b)(h2:b<1073741824): oDiv (.int a) (.int b)=some (.int (a / b)):=by simp [oDiv,oI,h,h2]
theorem qgc(a b:Int): zm (.int a) (.int b)=some (.int (a+b)):=rfl
theorem qip(a b:Int): oSub (.int a) (.int b)=some (.int (a-b)):=rfl
theorem qkn(a b:Int): oLt' (.int a) (.int b)=some (.bl (decide (a<b))):=rfl
theorem qko(a b:Int): oLe (.int a) (.int b)=some (.bl (decide (a<=b))):=rfl
theorem qkp(a b:Int): oGt (.int a) (.int b)=some (.bl (decide (b<a))):=rfl
theorem qkq(a b:Int): oGe (.int a) (.int b)=some (.bl (decide (b<=a))):=rfl
theorem q48(xs ys:List D)(h:xs.length+ys.length<=1000000): zm (.tup xs) (.tup ys)=some (.tup (xs++ys)):=by
 show(oAdd (.tup xs) (.tup ys)).or (q5n (.tup xs) (.tup ys))=_;simp only [oAdd,oI,g1d,q5n,lim,gz h]
theorem qgd(xs ys:List D)(h:xs.length+ys.length<=1000000): zm (.lst xs) (.lst ys)=some (.lst (xs++ys)):=by
 show(oAdd (.lst xs) (.lst ys)).or (q5n (.lst xs) (.lst ys))=_;simp only [oAdd,oI,g1d,q5n,lim,gz h]
theorem qiq(a b:Int)(h:0<=b)(h2:b<=1000000)(h3:a.natAbs<2 ^ 64): oShl (.int a) (.int b)=some (.int (a*2 ^ b.toNat)):=by simp [oShl,oI,h,h2,h3]
theorem qir(a b:Int)(h:0<=b)(h2:b<=1000000)(h3:a.natAbs<2 ^ 64): oPow (.int a) (.int b)=some (.int (a ^ b.toNat)):=by simp [oPow,oI,h,h2,h3]
theorem q8k(ns:List Int): q9x [.lst (ns.map .int)]=some (.int ns.sum):=by simp [q9x,o1L,q8c]
theorem q6r(bs:List Bool): q9y [.lst (bs.map .bl)]=some (.bl (bs.all id)):=by simp [q9y,o1L,q6g]
theorem q7u{α : Type}{xs:List α}{i:Int}(h0:0<=i): atI xs i=xs[i.toNat]? :=by
 unfold atI ixN;rw [gz h0]
 by_cases h:i<xs.length
 ·rw [gz h];rfl
 ·rw [m4 h,g3i (by omega)];rfl
section
variable{b:FB}{body:FS}{d:D}{ds:List D}{ρ ρ1 ρ2:Rho}
theorem j8(h1:b d ρ = some ρ1)(h2:body ρ1=some (.nx, ρ2)): runFor b body (d :: ds) ρ = runFor b body ds ρ2:=by simp only [runFor,h1,h2,mf]
end
theorem q6s{b:FB}{c:FT}{f:FE}{ρ : Rho}(p:D->Bool)(g:D->D): ∀ {ds:List D},(∀d∈ds,∃ ρ1,b d ρ = some ρ1/\c ρ1=some (p d)/\(p d=true->f ρ1=some (g d)))->z8 b c f ρ ds=some ((ds.filter p).map g)
 | [],_=>rfl
 | d :: ds,h=>by
  obtain⟨ρ1,e1,e2,e3⟩:=h d gv;have ih:=q6s p g fun e he=>h e (m5 _ he);simp only [z8,e1,e2,mf];cases hp:p d with
  | true=>simp only [pb,e3 hp,mf,ih,p6,g1o,hp,gx]
  | false=>simp only [gu,g02,ih,g1o,hp]
theorem qbw{b:FB}{f:FE}{ρ : Rho}(g:D->D){ds:List D}(h:∀d∈ds,∃ ρ1,b d ρ = some ρ1/\f ρ1=some (g d)): z8 b zw f ρ ds=some (ds.map g):=by
 have:=q6s (b:=b) (c:=zw) (f:=f) (ρ := ρ) (fun _=>true) g (ds:=ds) fun d hd=>let⟨ρ1,e1,e2⟩:=h d hd; ⟨ρ1,e1,rfl,fun _=>e2⟩
 rw [List.filter_eq_self.mpr (fun _ _=>rfl)] at this;exact this
theorem jv(lo:Int)(n:Nat): qz lo (n+1)=.int lo :: qz (lo+1) n:=by
 unfold qz;rw [g0f,gx,uh]
 congr 1
 ·simp
 ·apply List.map_congr_left
  intro a _;simp only [Function.comp,Nat.succ_eq_add_one,Int.natCast_add]
  congr 1
  omega
theorem q6t(lo:Int)(n:Nat): (qz lo n).length=n:=by simp [qz]
theorem q2p(fa:FA)(ρ : Rho)(j:Int)(h:fa ρ = some [.int j])(h1 : -(2 ^ 62)<=j)(h2:j<2 ^ 62): iR1 fa ρ = some (qz 0 j.toNat):=by
 simp only [iR1,h,mf,md h1,md h2,Bool.and_self,pb]
theorem qbx{α : Type}(xs:List D)(k:Nat): cutD xs none (some (k:Int))=xs.take k:=by
 unfold cutD;rw [HT.sIx_nat,HT.sIx_none];simp only [g27,Nat.sub_zero]
 by_cases h:k<=xs.length
 ·rw [Nat.min_eq_left h]
 ·rw [Nat.min_eq_right (by omega),List.take_length,g0e (by omega)]
theorem qis{α : Type}(xs:List D)(k:Nat): cutD xs (some (k:Int)) none=xs.drop k:=by
 unfold cutD;rw [HT.sIx_nat,HT.sIx_none]
 by_cases h:k<=xs.length
 ·rw [Nat.min_eq_left h,g0e (by rw [g0s];exact gp _)]
 ·rw [Nat.min_eq_right (by omega),g2t,List.drop_eq_nil_of_le (by omega)];simp
section
variable{ρ ρ1 ρ':Rho}{f g:FE}{d x y z:D}{i n m ar:Nat}{fa fk:FA}{ds es:List D}{t t2:FT}{c:Bool}{u w:FS}{r:Option (Fl×Rho)}
theorem x_c:eC d ρ = some d:=rfl
theorem x_v(h : ρ[i]? = some (some (.fz d))): eV i ρ = some d:=by unfold eV;rw [h]
theorem qpk{o:D->D->Option D}(h1:f ρ = some x)(h2:g ρ = some y)(h3:o x y=some z): eOp o f g ρ = some z:=by unfold eOp;rw [h1,mf,h2,mf,h3]
theorem qn8(h:u (ds.map (fun d=>some (.fz d))++List.replicate (n-ds.length) none)=some (.rt d, ρ')): z5 n u ds=some d:=by unfold z5;rw [h]
end
theorem eV0(d:D)(r:Rho): eV 0 (some (.fz d) :: r)=some d:=rfl
theorem eVs(i:Nat)(x:Option B)(r:Rho): eV (i+1) (x :: r)=eV i r:=rfl
theorem qop(ds:List D): wm [.tup ds]=some (.int ds.length):=rfl
theorem qoq(ds:List D): wm [.lst ds]=some (.int ds.length):=rfl
theorem qpl(i:Int): (match D.int i with | .int i=>some (some i)|_=>none:Option (Option Int))=some (some i):=rfl
theorem qpm(ds:List D)(r:Rho): frz 0 (some (.ow ds) :: r)=some (.fz (.lst ds)) :: r:=rfl
theorem frzs(i:Nat)(x:Option B)(r:Rho): frz (i+1) (x :: r)=x :: frz i r:=by
 unfold frz;rw [g30];cases h:r[i]? with
 | none=>rfl
 | some y=>
  cases y with
  | none=>rfl
  | some z=>cases z <;> rfl
theorem q10(a b:Int)(h : -(2 ^ 64)<b/\b<2 ^ 64): xr (.int a) (.int b)=some (.int (a*b)):=by
 have h2:(decide (-(2 ^ 64)<b)&&decide (b<2 ^ 64))=true:=by rw [md h.1,md h.2];rfl
 show(if((decide (-(2 ^ 64)<a)&&decide (a<2 ^ 64)) || (decide (-(2 ^ 64)<b)&&decide (b<2 ^ 64)))=true then some (D.int (a*b)) else none).or _=_;rw [h2,Bool.or_true,gz rfl,g0p]
theorem qby(a b:Int)(h : -(2 ^ 64)<a/\a<2 ^ 64): xr (.int a) (.int b)=some (.int (a*b)):=by
 have h2:(decide (-(2 ^ 64)<a)&&decide (a<2 ^ 64))=true:=by rw [md h.1,md h.2];rfl
 show(if((decide (-(2 ^ 64)<a)&&decide (a<2 ^ 64)) || (decide (-(2 ^ 64)<b)&&decide (b<2 ^ 64)))=true then some (D.int (a*b)) else none).or _=_;rw [h2,Bool.true_or,gz rfl,g0p]
theorem qpn(ds:List D)(i:Int): oIx (.lst ds) (.int i)=atI ds i:=rfl
theorem qpo(ds:List D)(i:Int): oIx (.tup ds) (.int i)=atI ds i:=rfl
theorem qkr{α : Type}(xs:List α)(n:Nat): atI xs (no_index (OfNat.ofNat n:Int))=xs[n]? :=by
 show atI xs (n:Int)=xs[n]?;rw [q7u (show(0:Int)<=(n:Int) by omega)]
 rfl
theorem qit{α : Type}(xs:List α)(n:Nat): atI xs (n:Int)=xs[n]? :=by
 rw [q7u (show(0:Int)<=(n:Int) by omega)]
 rfl
theorem qks(ds:List D): q6i [.lst ds]=some ds:=rfl
theorem qkt(ds:List D): q6i [.tup ds]=some ds:=rfl
theorem qax(ds:List D): vg [.lst ds]=some (.tup ds):=rfl
theorem qiu(ds:List D): vg [.tup ds]=some (.tup ds):=rfl
theorem q22(ds:List D)(r:Rho): q5m 0 (some (.ow ds) :: r)=some ds:=rfl
theorem q23(i:Nat)(x:Option B)(r:Rho): q5m (i+1) (x :: r)=q5m i r:=rfl
theorem qy{n:Nat}{u:FS}{ds:List D}{d:D}(h:(u (ds.map (fun d=>some (.fz d))++List.replicate (n-ds.length) none)).map Prod.fst=some (.rt d)): z5 n u ds=some d:=by
 cases e:u (ds.map (fun d=>some (.fz d))++List.replicate (n-ds.length) none) with
 | none=>rw [e] at h;cases h
 | some p=>
  obtain⟨fl, ρ'⟩:=p;rw [e] at h;have h':fl=.rt d:=by simpa using h
  subst h';exact qn8 e
theorem qn9:qa0 [.bl true]=some (.int 1):=rfl
theorem qna:qa0 [.bl false]=some (.int 0):=rfl
theorem qku:z0 .int .non=false/\(∀b:Bool,z0 .int (.bl b)=true)/\(∀i:Int,z0 .int (.int i)=true)/\(∀x:Str,z0 .int (.str x)=false)/\(∀ds:List D,z0 .int (.tup ds)=false)/\(∀ds:List D,z0 .int (.lst ds)=false)/\(∀(ks:List Key) (vs:List D),z0 .int (.dct ks vs)=false)/\(∀(ks:List (List Int)) (vs:List D),z0 .int (.dtt ks vs)=false)/\z0 .bool .non=false/\(∀b:Bool,z0 .bool (.bl b)=true)/\(∀i:Int,z0 .bool (.int i)=false)/\(∀x:Str,z0 .bool (.str x)=false)/\(∀ds:List D,z0 .bool (.tup ds)=false)/\(∀ds:List D,z0 .bool (.lst ds)=false)/\(∀(ks:List Key) (vs:List D),z0 .bool (.dct ks vs)=false)/\(∀(ks:List (List Int)) (vs:List D),z0 .bool (.dtt ks vs)=false)/\z0 .tuple .non=false/\(∀b:Bool,z0 .tuple (.bl b)=false)/\(∀i:Int,z0 .tuple (.int i)=false)/\(∀x:Str,z0 .tuple (.str x)=false)/\(∀ds:List D,z0 .tuple (.tup ds)=true)/\(∀ds:List D,z0 .tuple (.lst ds)=false)/\(∀(ks:List Key) (vs:List D),z0 .tuple (.dct ks vs)=false)/\(∀(ks:List (List Int)) (vs:List D),z0 .tuple (.dtt ks vs)=false)/\z0 .list .non=false/\(∀b:Bool,z0 .list (.bl b)=false)/\(∀i:Int,z0 .list (.int i)=false)/\(∀x:Str,z0 .list (.str x)=false)/\(∀ds:List D,z0 .list (.tup ds)=false)/\(∀ds:List D,z0 .list (.lst ds)=true)/\(∀(ks:List Key) (vs:List D),z0 .list (.dct ks vs)=false)/\(∀(ks:List (List Int)) (vs:List D),z0 .list (.dtt ks vs)=false)/\z0 .str .non=false/\(∀b:Bool,z0 .str (.bl b)=false)/\(∀i:Int,z0 .str (.int i)=false)/\(∀x:Str,z0 .str (.str x)=true)/\(∀ds:List D,z0 .str (.tup ds)=false)/\(∀ds:List D,z0 .str (.lst ds)=false)/\(∀(ks:List Key) (vs:List D),z0 .str (.dct ks vs)=false)/\(∀(ks:List (List Int)) (vs:List D),z0 .str (.dtt ks vs)=false)/\z0 .dict .non=false/\(∀b:Bool,z0 .dict (.bl b)=false)/\(∀i:Int,z0 .dict (.int i)=false)/\(∀x:Str,z0 .dict (.str x)=false)/\(∀ds:List D,z0 .dict (.tup ds)=false)/\(∀ds:List D,z0 .dict (.lst ds)=false)/\(∀(ks:List Key) (vs:List D),z0 .dict (.dct ks vs)=true)/\(∀(ks:List (List Int)) (vs:List D),z0 .dict (.dtt ks vs)=true):=by
 refine⟨?_,?_,?_,?_,?_,?_,?_,?_,?_,?_,?_,?_,?_,?_,?_,?_,?_,?_,?_,?_,?_,?_,?_,?_,?_,?_,?_,?_,?_,?_,?_,?_,?_,?_,?_,?_,?_,?_,?_,?_,?_,?_,?_,?_,?_,?_,?_,?_⟩ <;> intros <;> rfl
theorem qkv{x:Int}{n:Nat}(hn:0<n): ∃k:Nat,k<n/\oMod (.int x) (.int (n:Int))=some (.int (k:Int)):=by
 have h1:=tu x (show(n:Int)≠0 by omega);have h2:=ui x (show(0:Int)<(n:Int) by omega);refine⟨(x%n).toNat,by omega,?_⟩;rw [qaw _ _ (by omega),g26 h1]
end DL
namespace My
open PySem PySem.Spec PyProof.Rows L2 DL
local macro_rules | `(tactic| walk_at "A")=> `(tactic| ((refine qcr (hs:=?hs) ?a ?_);(case hs=>exact q4x rfl)))
local macro_rules | `(tactic| walk_at "L")=> `(tactic| first|exact .inl rfl|exact .inr rfl|assumption)
def top(i:Nat): Stmt:=PySem.Challenge.pw_oftentogether_k51_standing_above.main.body.getD i (.Pass ⟨0,0,0,0⟩)
def qnb(i j:Nat): Stmt:=match top i with | .ClassDef _ _ _ body _ _ _ _ _ _ _=>body.getD j (.Pass ⟨0,0,0,0⟩)|x=>x
section
variable[Lam]{P:Program}{w:World}{K:Frag}{mg:Str->Option Value}{base:Heap}
abbrev yf:Stmt:=top 40
noncomputable def q2a:List Str:=["_law_number_here","_law_wares","_law_above_here","_law_ware","_law_step"]
theorem yr:(q2a).Nodup:=by decide +kernel
theorem qay:FnScope q2a ["_law_number_here","_law_wares"] (qd yf):=⟨rfl,rfl,rfl,yr,rfl,by decide +kernel,by decide +kernel⟩
noncomputable def lb_law_above_1:FS:=(qu (zh 4 (eOp oMod (eV 0) (eOp oSub (eV 1) (eV 3)))) (qu (zh 0 (eOp oDivB (eV 0) (eOp oSub (eV 1) (eV 3)))) (ky 2 (eOp oIx (eL (kx (qc (eC .non) (qc (eOp zm (eV 3) (eV 4)) qf)))) (qg qa0 (qc (eOp oGt (eV 4) (eC (.int 0))) qf))))))
noncomputable def kh:FS:=(qu (q0p 2 (kx qf)) (qu (xg (iR1 (qc (eV 1) qf)) (bN 3) lb_law_above_1) (q1d 2 (zb (qg vg (qc (eV 2) qf))))))
noncomputable def ki:List D->Option D:=z5 5 kh
theorem q49{fa:Addr}{cdv:Value}{A:Around}{outer:List Env}{s:Shared}{H:Hp}{E:XK}(n_range:mg "range" = none)(n_tuple:mg "tuple" = none)(n_int:mg "int" = none)(hr:Room 0 (A.deeper (envOfC "_law_above" (qd yf) s.heap.objs.size fa cdv))):
  PSs (qw CX0 P w K mg base q2a "_law_above" (qd yf) fa cdv A outer s H E).nox (qq yf) (tDS K kh):=by
 unfold kh lb_law_above_1;refine(qi ?_ ?_);exact(q1b (i:=2) yr rfl (Or.inl rfl) (ve qe));refine(qi ?_ ?_);refine(y8 ng rfl ?_ (qx yr rfl (Or.inl rfl) (.inl rfl)) (qi ?_ ?_));refine(w6 rfl n_range ?_);walk_at "A";exact(qa (pv 1));exact qe;refine(z6 (i:=4) ?_ ?_ ?_ ?_ ?_ ?_);exact yr;exact rfl;exact(Or.inl rfl);refine(qm vd ?_ ?_);exact(qa (pv 0));refine(qm q0f ?_ ?_);exact(qa (pv 1));exact(qa (pv 3));exact rfl;walk_at "L";refine(qi ?_ ?_);refine(z6 (i:=0) ?_ ?_ ?_ ?_ ?_ ?_);exact yr;exact rfl;exact(Or.inl rfl);refine(qm qke ?_ ?_);exact(qa (pv 0));refine(qm q0f ?_ ?_);exact(qa (pv 1));exact(qa (pv 3));exact rfl;walk_at "L";refine(qj ?_);refine(q1c (pv 2) ?_);refine(xq ?_ ?_);refine(xl ?_);refine(ve ?_);walk_at "A";exact q0e;walk_at "A";refine(qm zf ?_ ?_);exact(qa (pv 3));exact(qa (pv 4));exact qe;refine(j7 (qmg) rfl n_int DL.boot_int ?_);walk_at "A";refine(q3s qj5 ?_ qh);exact(qa (pv 4));exact qe;refine(wg 2 (qj ?_));refine(qv ?_);refine(j7 (vw) rfl n_tuple DL.boot_tuple ?_);walk_at "A";exact(qa (pv 2));exact qe
theorem qaz{fa:Addr}{dV:Value}{fd:FuncData}(F:Fun2 K "_law_above" "_law_above" yf dV fa fd)(n_range:mg "range" = none)(n_tuple:mg "tuple" = none)(n_int:mg "int" = none): FnOk P w K mg base CX0 1 fa fd ["_law_number_here","_law_wares"] (spD K 2 ki):=
 F.okn (k:=0) (n:=5) (ar:=2) (k1:=1) (u:=kh) qay rfl rfl rfl fun cdv A outer s H E hr=>(by first|(with_reducible exact q49 n_range n_tuple n_int hr)|exact q49 n_range n_tuple n_int hr)
abbrev yg:Stmt:=top 38
noncomputable def q2b:List Str:=["_law_cell_here","_law_k","_law_first","_law_second"]
theorem q1j:(q2b).Nodup:=by decide +kernel
theorem qb0:FnScope q2b ["_law_cell_here","_law_k"] (qd yg):=⟨rfl,rfl,rfl,q1j,rfl,by decide +kernel,by decide +kernel⟩
noncomputable def kj:FS:=(qu (zh 2 (eOp oMod (eOp zm (eOp zm (eOp xr (eOp oMod (eV 0) (eC (.int 2147483629))) (eC (.int 48271))) (eOp xr (eOp xr (eV 1) (eV 1)) (eC (.int 7919)))) (eC (.int 104729))) (eC (.int 2147483647)))) (qu (zh 3 (eOp oMod (eOp xr (eV 2) (eV 2)) (eC (.int 2147483629)))) (zb (eOp oMod (eOp xr (eOp oMod (eOp zm (eOp zm (eOp xr (eV 3) (eC (.int 69621))) (eOp xr (eV 1) (eC (.int 40692)))) (eC (.int 7))) (eC (.int 2147483587))) (eV 3)) (eC (.int 2147483579))))))
noncomputable def xy:List D->Option D:=z5 4 kj
theorem q4a{fa:Addr}{cdv:Value}{A:Around}{outer:List Env}{s:Shared}{H:Hp}{E:XK}(hr:Room 0 (A.deeper (envOfC "_law_mixed" (qd yg) s.heap.objs.size fa cdv))):
  PSs (qw CX0 P w K mg base q2b "_law_mixed" (qd yg) fa cdv A outer s H E).nox (qq yg) (tDS K kj):=by
 unfold kj;refine(qi ?_ ?_);refine(z6 (i:=2) ?_ ?_ ?_ ?_ ?_ ?_);exact q1j;exact rfl;exact(Or.inl rfl);refine(qm vd ?_ qh);refine(qm zf ?_ qh);refine(qm zf ?_ ?_);refine(qm yq ?_ qh);refine(qm vd ?_ qh);exact(qa (pv 0));refine(qm yq ?_ qh);refine(qm yq ?_ ?_);exact(qa (pv 1));exact(qa (pv 1));exact rfl;walk_at "L";refine(qi ?_ ?_);refine(z6 (i:=3) ?_ ?_ ?_ ?_ ?_ ?_);exact q1j;exact rfl;exact(Or.inl rfl);refine(qm vd ?_ qh);refine(qm yq ?_ ?_);exact(qa (pv 2));exact(qa (pv 2));exact rfl;walk_at "L";refine(qj ?_);refine(qv ?_);refine(qm vd ?_ qh);refine(qm yq ?_ ?_);refine(qm vd ?_ qh);refine(qm zf ?_ qh);refine(qm zf ?_ ?_);refine(qm yq ?_ qh);exact(qa (pv 3));refine(qm yq ?_ qh);exact(qa (pv 1));exact(qa (pv 3))
theorem qb1{fa:Addr}{dV:Value}{fd:FuncData}(F:Fun2 K "_law_mixed" "_law_mixed" yg dV fa fd): FnOk P w K mg base CX0 1 fa fd ["_law_cell_here","_law_k"] (spD K 2 xy):=
 F.okn (k:=0) (n:=4) (ar:=2) (k1:=1) (u:=kj) qb0 rfl rfl rfl fun cdv A outer s H E hr=>(by first|(with_reducible exact q4a  hr)|exact q4a  hr)
abbrev yw:Stmt:=top 37
noncomputable def q3b:List Str:=["_law_script","_law_k"]
theorem qbz:(q3b).Nodup:=by decide +kernel
theorem qc0:FnScope q3b ["_law_script","_law_k"] (qd yw):=⟨rfl,rfl,rfl,qbz,rfl,by decide +kernel,by decide +kernel⟩
noncomputable def yx:FS:=(qu (sIf (xa oLt' (eV 1) (qg wm (qc (eV 0) qf))) (zb (eOp oIx (eV 0) (eV 1))) yp) (zb (eC (.int 0))))
noncomputable def j3:List D->Option D:=z5 2 yx
theorem q5a{fa:Addr}{cdv:Value}{A:Around}{outer:List Env}{s:Shared}{H:Hp}{E:XK}(n_len:mg "len" = none)(hr:Room 0 (A.deeper (envOfC "_law_cell" (qd yw) s.heap.objs.size fa cdv))):
  PSs (qw CX0 P w K mg base q3b "_law_cell" (qd yw) fa cdv A outer s H E).nox (qq yw) (tDS K yx):=by
 unfold yx;refine(qi ?_ ?_);refine(va ?_ (qj ?_) xf);refine(xb qmn ?_ ?_);exact(qa (pv 1));refine(zy (q0g) rfl n_len DL.vn ?_);walk_at "A";exact(qa (pv 0));exact qe;refine(qv ?_);refine(xq ?_ ?_);exact(qa (pv 0));exact(qa (pv 1));refine(qj ?_);exact(qv qh)
theorem qc1{fa:Addr}{dV:Value}{fd:FuncData}(F:Fun2 K "_law_cell" "_law_cell" yw dV fa fd)(n_len:mg "len" = none): FnOk P w K mg base CX0 1 fa fd ["_law_script","_law_k"] (spD K 2 j3):=
 F.okn (k:=0) (n:=2) (ar:=2) (k1:=1) (u:=yx) qc0 rfl rfl rfl fun cdv A outer s H E hr=>(by first|(with_reducible exact q5a n_len hr)|exact q5a n_len hr)
abbrev vh:Stmt:=top 39
noncomputable def q1k:List Str:=["_law_script","_law_k"]
theorem q95:(q1k).Nodup:=by decide +kernel
theorem q96:FnScope q1k ["_law_script","_law_k"] (qd vh):=⟨rfl,rfl,rfl,q95,rfl,by decide +kernel,by decide +kernel⟩
noncomputable def vi:FS:=(qu (sIf (xa oEq (eOp oMod (qg (qp 2 [] j3) (qc (eV 0) (qc (eC (.int 0)) qf))) (eC (.int 2))) (eC (.int 0))) (zb (eOp oMod (qg (qp 2 [] j3) (qc (eV 0) (qc (eV 1) qf))) (eOp oPow (eC (.int 10)) (eC (.int 60))))) yp) (zb (eOp zm (eOp xr (qg (qp 2 [] xy) (qc (qg (qp 2 [] j3) (qc (eV 0) (qc (eV 1) qf))) (qc (eOp zm (eV 1) (eC (.int 5))) qf))) (eC (.int 2147483647))) (qg (qp 2 [] xy) (qc (qg (qp 2 [] j3) (qc (eV 0) (qc (eC (.int 0)) qf))) (qc (eOp zm (eV 1) (eC (.int 9))) qf))))))
noncomputable def j4:List D->Option D:=z5 2 vi
theorem q3l{fa:Addr}{cdv:Value}{A:Around}{outer:List Env}{s:Shared}{H:Hp}{E:XK}{a__law_mixed:Addr}{fd__law_mixed:FuncData}(c_14:Cal P w K mg base "_law_mixed" 1 ["_law_cell_here","_law_k"] 2 xy a__law_mixed fd__law_mixed)(b_14:Binds K fd__law_mixed ["_law_cell_here","_law_k"] []){a__law_cell:Addr}{fd__law_cell:FuncData}(c_12:Cal P w K mg base "_law_cell" 1 ["_law_script","_law_k"] 2 j3 a__law_cell fd__law_cell)(b_12:Binds K fd__law_cell ["_law_script","_law_k"] [])(hr:Room 1 (A.deeper (envOfC "_law_number" (qd vh) s.heap.objs.size fa cdv))):
  PSs (qw CX0 P w K mg base q1k "_law_number" (qd vh) fa cdv A outer s H E).nox (qq vh) (tDS K vi):=by
 unfold vi;refine(qi ?_ ?_);refine(va ?_ (qj ?_) xf);refine(xb (q6j hr.units) ?_ qh);refine(qm vd ?_ qh);refine(qo c_12 b_12 hr (by decide) rfl ?_);walk_at "A";exact(qa (pv 0));walk_at "A";exact qh;exact qe;refine(qv ?_);refine(qm vd ?_ ?_);refine(qo c_12 b_12 hr (by decide) rfl ?_);walk_at "A";exact(qa (pv 0));walk_at "A";exact(qa (pv 1));exact qe;exact(qm q6b qh qh);refine(qj ?_);refine(qv ?_);refine(qm zf ?_ ?_);refine(qm yq ?_ qh);refine(qo c_14 b_14 hr (by decide) rfl ?_);walk_at "A";refine(qo c_12 b_12 hr (by decide) rfl ?_);walk_at "A";exact(qa (pv 0));walk_at "A";exact(qa (pv 1));exact qe;walk_at "A";refine(qm zf ?_ qh);exact(qa (pv 1));exact qe;refine(qo c_14 b_14 hr (by decide) rfl ?_);walk_at "A";refine(qo c_12 b_12 hr (by decide) rfl ?_);walk_at "A";exact(qa (pv 0));walk_at "A";exact qh;exact qe;walk_at "A";refine(qm zf ?_ qh);exact(qa (pv 1));exact qe
theorem q97{fa:Addr}{dV:Value}{fd:FuncData}(F:Fun2 K "_law_number" "_law_number" vh dV fa fd){a__law_mixed:Addr}{fd__law_mixed:FuncData}(c_14:Cal P w K mg base "_law_mixed" 1 ["_law_cell_here","_law_k"] 2 xy a__law_mixed fd__law_mixed)(b_14:Binds K fd__law_mixed ["_law_cell_here","_law_k"] []){a__law_cell:Addr}{fd__law_cell:FuncData}(c_12:Cal P w K mg base "_law_cell" 1 ["_law_script","_law_k"] 2 j3 a__law_cell fd__law_cell)(b_12:Binds K fd__law_cell ["_law_script","_law_k"] []): FnOk P w K mg base CX0 2 fa fd ["_law_script","_law_k"] (spD K 2 j4):=
 F.okn (k:=1) (n:=2) (ar:=2) (k1:=2) (u:=vi) q96 rfl rfl rfl fun cdv A outer s H E hr=>(by first|(with_reducible exact q3l c_14 b_14 c_12 b_12 hr)|exact q3l c_14 b_14 c_12 b_12 hr)
abbrev jx:Stmt:=top 47
noncomputable def q04:List Str:=["_law_above_here","_law_number_here","_law_wares","_law_far","_law_bad","_law_at","_law_over_here"]
theorem jl:(q04).Nodup:=by decide +kernel
theorem q6u:FnScope q04 ["_law_above_here","_law_number_here"] (qd jx):=⟨rfl,rfl,rfl,jl,rfl,by decide +kernel,by decide +kernel⟩
noncomputable def jr:FS:=(ky 4 (eOp zm (eOp zm (eSl (eV 0) oNo (oAt (eV 5))) (yk (qc (eV 6) qf))) (eSl (eV 0) (oAt (eOp zm (eV 5) (eC (.int 1)))) oNo)))
noncomputable def jy:FS:=(qu (zh 2 (qg wm (qc (eV 0) qf))) (qu (zh 3 (eOp oMod (eOp oDiv (eV 1) (eC (.int 64))) (eOp oPow (eC (.int 10)) (eC (.int 9))))) (qu (q0p 4 (kx (qc (eL (q9b q6i (qc (eV 0) qf))) (qc (eOp zm (eV 0) (yk (qc (eC .non) qf))) (qc (eC .non) (qc (eC (.int 3)) (qc (eC (.str "0")) (qc qdy (qc (eL (kx (qc (eV 0) qf))) (qc (yk (qc (eV 0) qf)) qf)))))))))) (qu (sIf (xa oGt (eV 2) (eC (.int 0))) (qu (zh 5 (eOp oMod (eV 1) (eV 2))) (qu (ky 4 (eSl (eV 0) oNo (oAt (eUn q7n (eC (.int 1)))))) (xg (vf (eL (kx (qc (eV 5) (qc (eOp oSub (eV 5) (eC (.int 1))) (qc (eV 2) (qc (eOp zm (eV 2) (eV 3)) (qc (eOp oSub (eUn q7n (eC (.int 1))) (eV 3)) (qc (eC (.bl true)) (qc (eC (.bl false)) (qc (qg qeb (qc (eOp oSub (eV 2) (eC (.int 1))) qf)) (qc (yk (qc (eOp oSub (eV 2) (eC (.int 1))) qf)) (qc (eL (kx (qc (eC .non) qf))) qf))))))))))))) (bN 6) jr))) yp) (q1d 4 (zb (eV 4)))))))
noncomputable def jz:List D->Option D:=z5 7 jy
theorem q24{fa:Addr}{cdv:Value}{A:Around}{outer:List Env}{s:Shared}{H:Hp}{E:XK}(n_len:mg "len" = none)(n_list:mg "list" = none)(n_str:mg "str" = none)(hr:Room 0 (A.deeper (envOfC "_law_no_trees" (qd jx) s.heap.objs.size fa cdv))):
  PSs (qw CX0 P w K mg base q04 "_law_no_trees" (qd jx) fa cdv A outer s H E).nox (qq jx) (tDS K jy):=by
 unfold jy jr;refine(qi ?_ ?_);refine(z6 (i:=2) ?_ ?_ ?_ ?_ ?_ ?_);exact jl;exact rfl;exact(Or.inl rfl);refine(zy (q0g) rfl n_len DL.vn ?_);walk_at "A";exact(qa (pv 0));exact qe;exact rfl;walk_at "L";refine(qi ?_ ?_);refine(z6 (i:=3) ?_ ?_ ?_ ?_ ?_ ?_);exact jl;exact rfl;exact(Or.inl rfl);refine(qm vd ?_ ?_);refine(qm q3r ?_ qh);exact(qa (pv 1));exact(qm q6b qh qh);exact rfl;walk_at "L";refine(qi ?_ ?_);refine(q1b (i:=4) jl rfl (Or.inl rfl) (ve ?_));walk_at "A";refine(xl ?_);refine(qfp (qjv) rfl n_list DL.boot_list ?_);walk_at "A";exact(qa (pv 0));exact qe;walk_at "A";refine(qm zf ?_ ?_);exact(qa (pv 0));refine(xc ?_);walk_at "A";exact q0e;exact qe;walk_at "A";exact q0e;walk_at "A";exact qh;walk_at "A";exact qm2;walk_at "A";exact qmo;walk_at "A";refine(xl ?_);refine(ve ?_);walk_at "A";exact(qa (pv 0));exact qe;walk_at "A";refine(xc ?_);walk_at "A";exact(qa (pv 0));exact qe;exact qe;refine(qi ?_ ?_);refine(va ?_ (qi ?_ ?_) xf);refine(xb qj5 ?_ qh);exact(qa (pv 2));refine(z6 (i:=5) ?_ ?_ ?_ ?_ ?_ ?_);exact jl;exact rfl;exact(Or.inl rfl);refine(qm vd ?_ ?_);exact(qa (pv 1));exact(qa (pv 2));exact rfl;walk_at "L";refine(qi ?_ ?_);refine(q1c (pv 4) ?_);refine(q1g ?_ q1e (q1f ?_));exact(qa (pv 0));exact(qa5 qh);refine(qj ?_);refine(y8 ng rfl ?_ (qx jl rfl (Or.inl rfl) (.inl rfl)) (qj ?_));refine(jb ?_);refine(xl ?_);refine(ve ?_);walk_at "A";exact(qa (pv 5));walk_at "A";refine(qm q0f ?_ qh);exact(qa (pv 5));walk_at "A";exact(qa (pv 2));walk_at "A";refine(qm zf ?_ ?_);exact(qa (pv 2));exact(qa (pv 3));walk_at "A";refine(qm q0f ?_ ?_);exact(qa5 qh);exact(qa (pv 3));walk_at "A";exact vv;walk_at "A";exact vv;walk_at "A";refine(j7 (qn6) rfl n_str DL.boot_str ?_);walk_at "A";refine(qm q0f ?_ qh);exact(qa (pv 2));exact qe;walk_at "A";refine(xc ?_);walk_at "A";refine(qm q0f ?_ qh);exact(qa (pv 2));exact qe;walk_at "A";refine(xl ?_);refine(ve ?_);walk_at "A";exact q0e;exact qe;exact qe;refine(q1c (pv 4) ?_);refine(qm zf ?_ ?_);refine(qm zf ?_ ?_);refine(q1g ?_ q1e (q1f ?_));exact(qa (pv 0));exact(qa (pv 5));refine(xc ?_);walk_at "A";exact(qa (pv 6));exact qe;refine(q1g ?_ (q1f ?_) q1e);exact(qa (pv 0));refine(qm zf ?_ qh);exact(qa (pv 5));refine(wg 4 (qj ?_));refine(qv ?_);exact(qa (pv 4))
theorem q6v{fa:Addr}{dV:Value}{fd:FuncData}(F:Fun2 K "_law_no_trees" "_law_no_trees" jx dV fa fd)(n_len:mg "len" = none)(n_list:mg "list" = none)(n_str:mg "str" = none): FnOk P w K mg base CX0 1 fa fd ["_law_above_here","_law_number_here"] (spD K 2 jz):=
 F.okn (k:=0) (n:=7) (ar:=2) (k1:=1) (u:=jy) q6u rfl rfl rfl fun cdv A outer s H E hr=>(by first|(with_reducible exact q24 n_len n_list n_str hr)|exact q24 n_len n_list n_str hr)
abbrev w8:Stmt:=top 41
noncomputable def q4b:List Str:=["_law_mark","_law_wares","_law_found","_law_ware"]
theorem q11:(q4b).Nodup:=by decide +kernel
theorem qec:FnScope q4b ["_law_mark","_law_wares"] (qd w8):=⟨rfl,rfl,rfl,q11,rfl,by decide +kernel,by decide +kernel⟩
noncomputable def xh:FS:=(qu (sIf (xa oEq (eOp oMod (eV 0) (eC (.int 2))) (eC (.int 1))) (ky 2 (eV 3)) yp) (zh 0 (eOp oDiv (eV 0) (eC (.int 2)))))
noncomputable def q0j:FS:=(qu (q0p 2 (kx qf)) (qu (xg (iR1 (qc (eV 1) qf)) (bN 3) xh) (q1d 2 (zb (qg vg (qc (eV 2) qf))))))
noncomputable def w9:List D->Option D:=z5 4 q0j
theorem q6w{fa:Addr}{cdv:Value}{A:Around}{outer:List Env}{s:Shared}{H:Hp}{E:XK}(n_range:mg "range" = none)(n_tuple:mg "tuple" = none)(hr:Room 0 (A.deeper (envOfC "_law_set" (qd w8) s.heap.objs.size fa cdv))):
  PSs (qw CX0 P w K mg base q4b "_law_set" (qd w8) fa cdv A outer s H E).nox (qq w8) (tDS K q0j):=by
 unfold q0j xh;refine(qi ?_ ?_);exact(q1b (i:=2) q11 rfl (Or.inl rfl) (ve qe));refine(qi ?_ ?_);refine(y8 ng rfl ?_ (qx q11 rfl (Or.inl rfl) (.inl rfl)) (qi ?_ ?_));refine(w6 rfl n_range ?_);walk_at "A";exact(qa (pv 1));exact qe;refine(va ?_ (qj ?_) xf);refine(xb (q6j hr.units) ?_ qh);refine(qm vd ?_ qh);exact(qa (pv 0));refine(q1c (pv 2) ?_);exact(qa (pv 3));refine(qj ?_);refine(z6 (i:=0) ?_ ?_ ?_ ?_ ?_ ?_);exact q11;exact rfl;exact(Or.inl rfl);refine(qm q3r ?_ qh);exact(qa (pv 0));exact rfl;walk_at "L";refine(wg 2 (qj ?_));refine(qv ?_);refine(j7 (vw) rfl n_tuple DL.boot_tuple ?_);walk_at "A";exact(qa (pv 2));exact qe
theorem qed{fa:Addr}{dV:Value}{fd:FuncData}(F:Fun2 K "_law_set" "_law_set" w8 dV fa fd)(n_range:mg "range" = none)(n_tuple:mg "tuple" = none): FnOk P w K mg base CX0 1 fa fd ["_law_mark","_law_wares"] (spD K 2 w9):=
 F.okn (k:=0) (n:=4) (ar:=2) (k1:=1) (u:=q0j) qec rfl rfl rfl fun cdv A outer s H E hr=>(by first|(with_reducible exact q6w n_range n_tuple hr)|exact q6w n_range n_tuple hr)
abbrev q05:Stmt:=top 15
noncomputable def q5v:List Str:=["one","other"]
theorem qge:(q5v).Nodup:=by decide +kernel
theorem qgf:FnScope q5v ["one","other"] (qd q05):=⟨rfl,rfl,rfl,qge,rfl,by decide +kernel,by decide +kernel⟩
noncomputable def q1l:FS:=(zb (qg vg (qc (eL (qe6 (eV 0) (eV 1))) qf)))
noncomputable def jn:List D->Option D:=z5 2 q1l
theorem q8l{fa:Addr}{cdv:Value}{A:Around}{outer:List Env}{s:Shared}{H:Hp}{E:XK}(n_tuple:mg "tuple" = none)(n_sorted:mg "sorted" = none)(n_set:mg "set" = none)(hr:Room 0 (A.deeper (envOfC "joined" (qd q05) s.heap.objs.size fa cdv))):
  PSs (qw CX0 P w K mg base q5v "joined" (qd q05) fa cdv A outer s H E).nox (qq q05) (tDS K q1l):=by
 unfold q1l;refine(qj ?_);refine(qv ?_);refine(j7 (vw) rfl n_tuple DL.boot_tuple ?_);walk_at "A";refine(xl ?_);refine(qka rfl rfl n_sorted rfl n_set ?_ ?_);exact(qa (pv 0));exact(qa (pv 1));exact qe
theorem qgg{fa:Addr}{dV:Value}{fd:FuncData}(F:Fun2 K "joined" "joined" q05 dV fa fd)(n_tuple:mg "tuple" = none)(n_sorted:mg "sorted" = none)(n_set:mg "set" = none): FnOk P w K mg base CX0 1 fa fd ["one","other"] (spD K 2 jn):=
 F.okn (k:=0) (n:=2) (ar:=2) (k1:=1) (u:=q1l) qgf rfl rfl rfl fun cdv A outer s H E hr=>(by first|(with_reducible exact q8l n_tuple n_sorted n_set hr)|exact q8l n_tuple n_sorted n_set hr)
abbrev jf:Stmt:=top 30
noncomputable def kz:List Str:=["above","ware","found","higher"]
theorem vc:(kz).Nodup:=by decide +kernel
theorem q52:FnScope kz ["above","ware"] (qd jf):=⟨rfl,rfl,rfl,vc,rfl,by decide +kernel,by decide +kernel⟩
noncomputable def jc:FS:=(qu (ky 2 (eV 3)) (zh 3 (eOp oIx (eV 0) (eV 3))))
noncomputable def xi:FS:=(qu (q0p 2 (kx qf)) (qu (zh 3 (eOp oIx (eV 0) (eV 1))) (qu (jd (xa (oIs true) (eV 3) (eC .non)) jc 100000) (q1d 2 (zb (qg vg (qc (eV 2) qf)))))))
noncomputable def zk:List D->Option D:=z5 4 xi
theorem q0s{fa:Addr}{cdv:Value}{A:Around}{outer:List Env}{s:Shared}{H:Hp}{E:XK}(n_tuple:mg "tuple" = none)(hr:Room 0 (A.deeper (envOfC "standing_above" (qd jf) s.heap.objs.size fa cdv))):
  PSs (qw CX0 P w K mg base kz "standing_above" (qd jf) fa cdv A outer s H E).nox (qq jf) (tDS K xi):=by
 unfold xi jc;refine(qi ?_ ?_);exact(q1b (i:=2) vc rfl (Or.inl rfl) (ve qe));refine(qi ?_ ?_);refine(z6 (i:=3) ?_ ?_ ?_ ?_ ?_ ?_);exact vc;exact rfl;exact(Or.inl rfl);refine(xq ?_ ?_);exact(qa (pv 0));exact(qa (pv 1));exact rfl;walk_at "L";refine(qi ?_ ?_);refine(q9u 100000 ng ?_ (qi ?_ ?_));refine(xb (qa7 rfl) ?_ q0e);exact(qa (pv 3));refine(q1c (pv 2) ?_);exact(qa (pv 3));refine(qj ?_);refine(z6 (i:=3) ?_ ?_ ?_ ?_ ?_ ?_);exact vc;exact rfl;exact(Or.inl rfl);refine(xq ?_ ?_);exact(qa (pv 0));exact(qa (pv 3));exact rfl;walk_at "L";refine(wg 2 (qj ?_));refine(qv ?_);refine(j7 (vw) rfl n_tuple DL.boot_tuple ?_);walk_at "A";exact(qa (pv 2));exact qe
theorem q53{fa:Addr}{dV:Value}{fd:FuncData}(F:Fun2 K "standing_above" "standing_above" jf dV fa fd)(n_tuple:mg "tuple" = none): FnOk P w K mg base CX0 1 fa fd ["above","ware"] (spD K 2 zk):=
 F.okn (k:=0) (n:=4) (ar:=2) (k1:=1) (u:=xi) q52 rfl rfl rfl fun cdv A outer s H E hr=>(by first|(with_reducible exact q0s n_tuple hr)|exact q0s n_tuple hr)
abbrev yy:Stmt:=top 31
noncomputable def q3c:List Str:=["above","some","found","ware"]
theorem q09:(q3c).Nodup:=by decide +kernel
theorem qc2:FnScope q3c ["above","some"] (qd yy):=⟨rfl,rfl,rfl,q09,rfl,by decide +kernel,by decide +kernel⟩
noncomputable def y9:FS:=(zh 2 (qg (qp 2 [] jn) (qc (eV 2) (qc (qg (qp 2 [] zk) (qc (eV 0) (qc (eV 3) qf))) qf))))
noncomputable def wq:FS:=(qu (zh 2 (yk qf)) (qu (xg (vf (eV 1)) (bN 3) y9) (zb (eV 2))))
noncomputable def j5:List D->Option D:=z5 4 wq
theorem q5b{fa:Addr}{cdv:Value}{A:Around}{outer:List Env}{s:Shared}{H:Hp}{E:XK}{a_joined:Addr}{fd_joined:FuncData}(c_8:Cal P w K mg base "joined" 1 ["one","other"] 2 jn a_joined fd_joined)(b_8:Binds K fd_joined ["one","other"] []){a_standing_above:Addr}{fd_standing_above:FuncData}(c_28:Cal P w K mg base "standing_above" 1 ["above","ware"] 2 zk a_standing_above fd_standing_above)(b_28:Binds K fd_standing_above ["above","ware"] [])(hr:Room 1 (A.deeper (envOfC "kinds_of" (qd yy) s.heap.objs.size fa cdv))):
  PSs (qw CX0 P w K mg base q3c "kinds_of" (qd yy) fa cdv A outer s H E).nox (qq yy) (tDS K wq):=by
 unfold wq y9;refine(qi ?_ ?_);refine(z6 (i:=2) ?_ ?_ ?_ ?_ ?_ ?_);exact q09;exact rfl;exact(Or.inl rfl);exact(xc qe);exact rfl;walk_at "L";refine(qi ?_ ?_);refine(y8 ng rfl ?_ (qx q09 rfl (Or.inl rfl) (.inl rfl)) (qj ?_));refine(jb ?_);exact(qa (pv 1));refine(z6 (i:=2) ?_ ?_ ?_ ?_ ?_ ?_);exact q09;exact rfl;exact(Or.inl rfl);refine(qo c_8 b_8 hr (by decide) rfl ?_);walk_at "A";exact(qa (pv 2));walk_at "A";refine(qo c_28 b_28 hr (by decide) rfl ?_);walk_at "A";exact(qa (pv 0));walk_at "A";exact(qa (pv 3));exact qe;exact qe;exact rfl;walk_at "L";refine(qj ?_);refine(qv ?_);exact(qa (pv 2))
theorem qc3{fa:Addr}{dV:Value}{fd:FuncData}(F:Fun2 K "kinds_of" "kinds_of" yy dV fa fd){a_joined:Addr}{fd_joined:FuncData}(c_8:Cal P w K mg base "joined" 1 ["one","other"] 2 jn a_joined fd_joined)(b_8:Binds K fd_joined ["one","other"] []){a_standing_above:Addr}{fd_standing_above:FuncData}(c_28:Cal P w K mg base "standing_above" 1 ["above","ware"] 2 zk a_standing_above fd_standing_above)(b_28:Binds K fd_standing_above ["above","ware"] []): FnOk P w K mg base CX0 2 fa fd ["above","some"] (spD K 2 j5):=
 F.okn (k:=1) (n:=4) (ar:=2) (k1:=2) (u:=wq) qc2 rfl rfl rfl fun cdv A outer s H E hr=>(by first|(with_reducible exact q5b c_8 b_8 c_28 b_28 hr)|exact q5b c_8 b_8 c_28 b_28 hr)
abbrev q2q:Stmt:=top 32
noncomputable def qb2:List Str:=["above","some","kinds"]
theorem qd8:(qb2).Nodup:=by decide +kernel
theorem qkw:FnScope qb2 ["above","some"] (qd q2q):=⟨rfl,rfl,rfl,qd8,rfl,by decide +kernel,by decide +kernel⟩
theorem qgh:(["ware","kinds"]:List Str).Nodup:=by decide +kernel
noncomputable def q4c:FS:=(qu (zh 2 (qg (qp 2 [] j5) (qc (eV 0) (qc (eV 1) qf)))) (zb (qg vg (qc (eL (zc (vf (eV 1)) [none,some 2] (bN 0) (xa (oIn true) (eV 0) (eV 1)) (eV 0))) qf))))
noncomputable def yt:List D->Option D:=z5 3 q4c
theorem qd9{fa:Addr}{cdv:Value}{A:Around}{outer:List Env}{s:Shared}{H:Hp}{E:XK}{a_kinds_of:Addr}{fd_kinds_of:FuncData}(c_9:Cal P w K mg base "kinds_of" 2 ["above","some"] 2 j5 a_kinds_of fd_kinds_of)(b_9:Binds K fd_kinds_of ["above","some"] [])(n_tuple:mg "tuple" = none)(hr:Room 2 (A.deeper (envOfC "lean" (qd q2q) s.heap.objs.size fa cdv))):
  PSs (qw CX0 P w K mg base qb2 "lean" (qd q2q) fa cdv A outer s H E).nox (qq q2q) (tDS K q4c):=by
 unfold q4c;refine(qi ?_ ?_);refine(z6 (i:=2) ?_ ?_ ?_ ?_ ?_ ?_);exact qd8;exact rfl;exact(Or.inr rfl);refine(qo c_9 b_9 hr (by decide) rfl ?_);walk_at "A";exact(qa (pv 0));walk_at "A";exact(qa (pv 1));exact qe;exact rfl;walk_at "L";refine(qj ?_);refine(qv ?_);refine(j7 (vw) rfl n_tuple DL.boot_tuple ?_);walk_at "A";refine(xl ?_);refine(jk (N':=["ware","kinds"]) (cap:=[none,some 2]) rfl (zt rfl rfl) (j0 rfl) ?_ (fun _ _ _ _ _=>(qx qgh rfl (Or.inl rfl) (.inr rfl))) (fun _ _ _ _ _=>(q40 ?_)) (fun _ _ _ _ _=>?_));refine(jb ?_);exact(qa (pv 1));refine(xb qa1 ?_ ?_);exact(qa (pv 0));exact(qa (pv 1));exact(qa (pv 0));exact qe
theorem qkx{fa:Addr}{dV:Value}{fd:FuncData}(F:Fun2 K "lean" "lean" q2q dV fa fd){a_kinds_of:Addr}{fd_kinds_of:FuncData}(c_9:Cal P w K mg base "kinds_of" 2 ["above","some"] 2 j5 a_kinds_of fd_kinds_of)(b_9:Binds K fd_kinds_of ["above","some"] [])(n_tuple:mg "tuple" = none): FnOk P w K mg base CX0 3 fa fd ["above","some"] (spD K 2 yt):=
 F.okn (k:=2) (n:=3) (ar:=2) (k1:=3) (u:=q4c) qkw rfl rfl rfl fun cdv A outer s H E hr=>(by first|(with_reducible exact qd9 c_9 b_9 n_tuple hr)|exact qd9 c_9 b_9 n_tuple hr)
abbrev wa:Stmt:=top 43
noncomputable def q4d:List Str:=["_law_found","_law_due","_law_one","_law_other"]
theorem q3d:(q4d).Nodup:=by decide +kernel
theorem qee:FnScope q4d ["_law_found","_law_due"] (qd wa):=⟨rfl,rfl,rfl,q3d,rfl,by decide +kernel,by decide +kernel⟩
noncomputable def yu:FS:=(sIf (bOr (we (bT (q41 .int (eV 2)))) (bOr (bT (q41 .bool (eV 2))) (xa q27 (eV 2) (eV 3)))) (zb (eC (.bl false))) yp)
noncomputable def q0k:FS:=(qu (sIf (bOr (we (bT (q41 .tuple (eV 0)))) (xa q27 (qg wm (qc (eV 0) qf)) (qg wm (qc (eV 1) qf)))) (zb (eC (.bl false))) yp) (qu (xg (qhx (qc (eV 0) (qc (eV 1) qf))) (wk 2 (ji (bN 2) (ji (bN 3) wj))) yu) (zb (eC (.bl true)))))
noncomputable def wb:List D->Option D:=z5 4 q0k
theorem q6x{fa:Addr}{cdv:Value}{A:Around}{outer:List Env}{s:Shared}{H:Hp}{E:XK}(n_zip:mg "zip" = none)(n_isinstance:mg "isinstance" = none)(n_tuple:mg "tuple" = none)(n_len:mg "len" = none)(n_bool:mg "bool" = none)(n_int:mg "int" = none)(hr:Room 0 (A.deeper (envOfC "_law_row" (qd wa) s.heap.objs.size fa cdv))):
  PSs (qw CX0 P w K mg base q4d "_law_row" (qd wa) fa cdv A outer s H E).nox (qq wa) (tDS K q0k):=by
 unfold q0k yu;refine(qi ?_ ?_);refine(va ?_ (qj ?_) xf);refine(PW.pt (q30 ?_ (q2h ?_)));refine(y4 ?_);refine(ja ?_);refine(q2k .tuple rfl n_isinstance rfl n_tuple DL.boot_tuple ?_);exact(qa (pv 0));refine(xb q6c ?_ ?_);refine(zy (q0g) rfl n_len DL.vn ?_);walk_at "A";exact(qa (pv 0));exact qe;refine(zy (q0g) rfl n_len DL.vn ?_);walk_at "A";exact(qa (pv 1));exact qe;exact(qv vv);refine(qi ?_ ?_);refine(y8 ng rfl ?_ (q3x rfl (ye (qx q3d rfl (Or.inl rfl) (.inl rfl)) (ye (qx q3d rfl (Or.inl rfl) (.inl rfl)) q3w))) (qj ?_));refine(qmk rfl n_zip ?_);walk_at "A";exact(qa (pv 0));walk_at "A";exact(qa (pv 1));exact qe;refine(va ?_ (qj ?_) xf);refine(PW.pt (q30 ?_ (q30 ?_ (q2h ?_))));refine(y4 ?_);refine(ja ?_);refine(q2k .int rfl n_isinstance rfl n_int DL.boot_int ?_);exact(qa (pv 2));refine(ja ?_);refine(q2k .bool rfl n_isinstance rfl n_bool DL.boot_bool ?_);exact(qa (pv 2));refine(xb q6c ?_ ?_);exact(qa (pv 2));exact(qa (pv 3));exact(qv vv);refine(qj ?_);exact(qv vv)
theorem qef{fa:Addr}{dV:Value}{fd:FuncData}(F:Fun2 K "_law_row" "_law_row" wa dV fa fd)(n_zip:mg "zip" = none)(n_isinstance:mg "isinstance" = none)(n_tuple:mg "tuple" = none)(n_len:mg "len" = none)(n_bool:mg "bool" = none)(n_int:mg "int" = none): FnOk P w K mg base CX0 1 fa fd ["_law_found","_law_due"] (spD K 2 wb):=
 F.okn (k:=0) (n:=4) (ar:=2) (k1:=1) (u:=q0k) qee rfl rfl rfl fun cdv A outer s H E hr=>(by first|(with_reducible exact q6x n_zip n_isinstance n_tuple n_len n_bool n_int hr)|exact q6x n_zip n_isinstance n_tuple n_len n_bool n_int hr)
abbrev yh:Stmt:=top 45
noncomputable def q2c:List Str:=["_law_error"]
theorem qb3:(q2c).Nodup:=by decide +kernel
theorem qb4:FnScope q2c ["_law_error"] (qd yh):=⟨rfl,rfl,rfl,qb3,rfl,by decide +kernel,by decide +kernel⟩
noncomputable def kl:FS:=(qu (sIf (bOr (we (bT (eUn (isX "NoTree" true) (eV 0)))) (we (bT (eUn (isX "NoTree" true) (eV 0))))) (zb (eC (.bl false))) yp) (zb (q3t (q5l (eUn (isX "NoTree" false) (eV 0))) (q5l (eUn (isX "NoTree" false) (eV 0))))))
noncomputable def km:List D->Option D:=z5 1 kl
theorem q4e{fa:Addr}{cdv:Value}{A:Around}{outer:List Env}{s:Shared}{H:Hp}{E:XK}{C_NoTree:Addr}(ns_NoTree:PySem.W.nsIn K mainGlobals "NoTree" = some (some (.ref C_NoTree)))(cx_NoTree:q1a K C_NoTree)(m_NoTree:mg "NoTree" = some (.ref C_NoTree))(kt_NoTree_NoTree:PySem.W.kitOne K (.ref C_NoTree) (.ref C_NoTree)=some true)(kt_NoTree_ValueError:PySem.W.kitOne K (.ref C_NoTree) (.type "ValueError")=some true){C_NoRun:Addr}(m_NoRun:mg "NoRun" = some (.ref C_NoRun)){C_NoShare:Addr}(m_NoShare:mg "NoShare" = some (.ref C_NoShare)){C_NoStore:Addr}(m_NoStore:mg "NoStore" = some (.ref C_NoStore)){C_NoText:Addr}(m_NoText:mg "NoText" = some (.ref C_NoText))(ka_NoTree_NoRun_NoShare_NoStore_NoText:PySem.W.kitAny K (.ref C_NoTree) ([C_NoRun,C_NoShare,C_NoStore,C_NoText].map Value.ref)=some false){C_NotThere:Addr}(m_NotThere:mg "NotThere" = some (.ref C_NotThere)){C_TooGreat:Addr}(m_TooGreat:mg "TooGreat" = some (.ref C_TooGreat))(ka_NoTree_NotThere_TooGreat:PySem.W.kitAny K (.ref C_NoTree) ([C_NotThere,C_TooGreat].map Value.ref)=some false)(n_isinstance:mg "isinstance" = none)(n_ValueError:mg "ValueError" = none)(hr:Room 0 (A.deeper (envOfC "_law_alone" (qd yh) s.heap.objs.size fa cdv))):
  PSs (qw CX0 P w K mg base q2c "_law_alone" (qd yh) fa cdv A outer s H E).nox (qq yh) (tDS K kl):=by
 unfold kl;refine(qi ?_ ?_);refine(va ?_ (qj ?_) xf);refine(PW.pt (q30 ?_ (q2h ?_)));refine(y4 ?_);refine(ja ?_);refine(qkf ns_NoTree kt_NoTree_NoTree rfl n_isinstance rfl m_NoTree ?_);exact(qa (pv 0));refine(y4 ?_);refine(ja ?_);refine(qkg ns_NoTree kt_NoTree_ValueError rfl n_isinstance rfl n_ValueError PyProof.Rows.Boot.«ValueError» ?_);exact(qa (pv 0));exact(qv vv);refine(qj ?_);refine(qv ?_);refine(q2j ?_ (q2i ?_));refine(q3u ?_);refine(qd3 (Cs:=[C_NoRun,C_NoShare,C_NoStore,C_NoText]) ns_NoTree ka_NoTree_NoRun_NoShare_NoStore_NoText rfl n_isinstance (show 4<=sizeLine by decide) (ze (q00 (v:=.ref C_NoRun) rfl m_NoRun rfl) (ze (q00 (v:=.ref C_NoShare) rfl m_NoShare rfl) (ze (q00 (v:=.ref C_NoStore) rfl m_NoStore rfl) (ze (q00 (v:=.ref C_NoText) rfl m_NoText rfl) y0)))) (fun _ _ _ q=>q) ?_);exact(qa (pv 0));refine(q3u ?_);refine(qd3 (Cs:=[C_NotThere,C_TooGreat]) ns_NoTree ka_NoTree_NotThere_TooGreat rfl n_isinstance (show 2<=sizeLine by decide) (ze (q00 (v:=.ref C_NotThere) rfl m_NotThere rfl) (ze (q00 (v:=.ref C_TooGreat) rfl m_TooGreat rfl) y0)) (fun _ _ _ q=>q) ?_);exact(qa (pv 0))
theorem qb5{fa:Addr}{dV:Value}{fd:FuncData}(F:Fun2 K "_law_alone" "_law_alone" yh dV fa fd){C_NoTree:Addr}(ns_NoTree:PySem.W.nsIn K mainGlobals "NoTree" = some (some (.ref C_NoTree)))(cx_NoTree:q1a K C_NoTree)(m_NoTree:mg "NoTree" = some (.ref C_NoTree))(kt_NoTree_NoTree:PySem.W.kitOne K (.ref C_NoTree) (.ref C_NoTree)=some true)(kt_NoTree_ValueError:PySem.W.kitOne K (.ref C_NoTree) (.type "ValueError")=some true){C_NoRun:Addr}(m_NoRun:mg "NoRun" = some (.ref C_NoRun)){C_NoShare:Addr}(m_NoShare:mg "NoShare" = some (.ref C_NoShare)){C_NoStore:Addr}(m_NoStore:mg "NoStore" = some (.ref C_NoStore)){C_NoText:Addr}(m_NoText:mg "NoText" = some (.ref C_NoText))(ka_NoTree_NoRun_NoShare_NoStore_NoText:PySem.W.kitAny K (.ref C_NoTree) ([C_NoRun,C_NoShare,C_NoStore,C_NoText].map Value.ref)=some false){C_NotThere:Addr}(m_NotThere:mg "NotThere" = some (.ref C_NotThere)){C_TooGreat:Addr}(m_TooGreat:mg "TooGreat" = some (.ref C_TooGreat))(ka_NoTree_NotThere_TooGreat:PySem.W.kitAny K (.ref C_NoTree) ([C_NotThere,C_TooGreat].map Value.ref)=some false)(n_isinstance:mg "isinstance" = none)(n_ValueError:mg "ValueError" = none): FnOk P w K mg base CX0 1 fa fd ["_law_error"] (spD K 1 km):=
 F.okn (k:=0) (n:=1) (ar:=1) (k1:=1) (u:=kl) qb4 rfl rfl rfl fun cdv A outer s H E hr=>(by first|(with_reducible exact q4e ns_NoTree cx_NoTree m_NoTree kt_NoTree_NoTree kt_NoTree_ValueError m_NoRun m_NoShare m_NoStore m_NoText ka_NoTree_NoRun_NoShare_NoStore_NoText m_NotThere m_TooGreat ka_NoTree_NotThere_TooGreat n_isinstance n_ValueError hr)|exact q4e ns_NoTree cx_NoTree m_NoTree kt_NoTree_NoTree kt_NoTree_ValueError m_NoRun m_NoShare m_NoStore m_NoText ka_NoTree_NoRun_NoShare_NoStore_NoText m_NotThere m_TooGreat ka_NoTree_NotThere_TooGreat n_isinstance n_ValueError hr)
abbrev yz:Stmt:=top 24
noncomputable def q3e:List Str:=["pairs","least"]
theorem qc4:(q3e).Nodup:=by decide +kernel
theorem qc5:FnScope q3e ["pairs","least"] (qd yz):=⟨rfl,rfl,rfl,qc4,rfl,by decide +kernel,by decide +kernel⟩
theorem q98:(["pair","least"]:List Str).Nodup:=by decide +kernel
noncomputable def k6:FS:=(zb (qg vg (qc (eL (zc (vf (eV 0)) [none,some 1] (bN 0) (xa oGe (eOp oIx (eV 0) (eC (.int 1))) (eV 1)) (eV 0))) qf)))
noncomputable def xu:List D->Option D:=z5 2 k6
theorem q5c{fa:Addr}{cdv:Value}{A:Around}{outer:List Env}{s:Shared}{H:Hp}{E:XK}(n_tuple:mg "tuple" = none)(hr:Room 0 (A.deeper (envOfC "at_least" (qd yz) s.heap.objs.size fa cdv))):
  PSs (qw CX0 P w K mg base q3e "at_least" (qd yz) fa cdv A outer s H E).nox (qq yz) (tDS K k6):=by
 unfold k6;refine(qj ?_);refine(qv ?_);refine(j7 (vw) rfl n_tuple DL.boot_tuple ?_);walk_at "A";refine(xl ?_);refine(jk (N':=["pair","least"]) (cap:=[none,some 1]) rfl (zt rfl rfl) (j0 rfl) ?_ (fun _ _ _ _ _=>(qx q98 rfl (Or.inl rfl) (.inr rfl))) (fun _ _ _ _ _=>(q40 ?_)) (fun _ _ _ _ _=>?_));refine(jb ?_);exact(qa (pv 0));refine(xb qj6 ?_ ?_);refine(xq ?_ qh);exact(qa (pv 0));exact(qa (pv 1));exact(qa (pv 0));exact qe
theorem qc6{fa:Addr}{dV:Value}{fd:FuncData}(F:Fun2 K "at_least" "at_least" yz dV fa fd)(n_tuple:mg "tuple" = none): FnOk P w K mg base CX0 1 fa fd ["pairs","least"] (spD K 2 xu):=
 F.okn (k:=0) (n:=2) (ar:=2) (k1:=1) (u:=k6) qc5 rfl rfl rfl fun cdv A outer s H E hr=>(by first|(with_reducible exact q5c n_tuple hr)|exact q5c n_tuple hr)
abbrev wc:Stmt:=top 13
noncomputable def q4f:List Str:=["some"]
theorem qeg:(q4f).Nodup:=by decide +kernel
theorem qeh:FnScope q4f ["some"] (qd wc):=⟨rfl,rfl,rfl,qeg,rfl,by decide +kernel,by decide +kernel⟩
theorem qb6:(["ware"]:List Str).Nodup:=by decide +kernel
noncomputable def q0l:FS:=(zb (qg q9x (qc (eL (zc (vf (eV 0)) [none] (bN 0) zw (eOp oShl (eC (.int 1)) (eV 0)))) qf)))
noncomputable def vq:List D->Option D:=z5 1 q0l
theorem q6y{fa:Addr}{cdv:Value}{A:Around}{outer:List Env}{s:Shared}{H:Hp}{E:XK}(n_sum:mg "sum" = none)(hr:Room 0 (A.deeper (envOfC "mark_of" (qd wc) s.heap.objs.size fa cdv))):
  PSs (qw CX0 P w K mg base q4f "mark_of" (qd wc) fa cdv A outer s H E).nox (qq wc) (tDS K q0l):=by
 unfold q0l;refine(qj ?_);refine(qv ?_);refine(zy (qfn rfl) rfl n_sum DL.boot_sum ?_);walk_at "A";refine(xl ?_);refine(jk (N':=["ware"]) (cap:=[none]) rfl (zt rfl rfl) (j0 rfl) ?_ (fun _ _ _ _ _=>(qx qb6 rfl (Or.inl rfl) (.inr rfl))) (fun _ _ _ _ _=>kg) (fun _ _ _ _ _=>?_));refine(jb ?_);exact(qa (pv 0));refine(qm qm5 qh ?_);exact(qa (pv 0));exact qe
theorem qei{fa:Addr}{dV:Value}{fd:FuncData}(F:Fun2 K "mark_of" "mark_of" wc dV fa fd)(n_sum:mg "sum" = none): FnOk P w K mg base CX0 1 fa fd ["some"] (spD K 1 vq):=
 F.okn (k:=0) (n:=1) (ar:=1) (k1:=1) (u:=q0l) qeh rfl rfl rfl fun cdv A outer s H E hr=>(by first|(with_reducible exact q6y n_sum hr)|exact q6y n_sum hr)
abbrev q06:Stmt:=top 21
noncomputable def q5w:List Str:=["pile"]
theorem qgi:(q5w).Nodup:=by decide +kernel
theorem qgj:FnScope q5w ["pile"] (qd q06):=⟨rfl,rfl,rfl,qgi,rfl,by decide +kernel,by decide +kernel⟩
theorem q5d:(["many","basket"]:List Str).Nodup:=by decide +kernel
noncomputable def q1m:FS:=(zb (eL (zc (vf (eOp oIx (eV 0) (eC (.int 1)))) [none,none] (wk 2 (ji (bN 0) (ji (bN 1) wj))) zw (yk (qc (eV 0) (qc (qg (qp 1 [] vq) (qc (eV 1) qf)) qf))))))
noncomputable def q1n:List D->Option D:=z5 1 q1m
theorem q8m{fa:Addr}{cdv:Value}{A:Around}{outer:List Env}{s:Shared}{H:Hp}{E:XK}{a_mark_of:Addr}{fd_mark_of:FuncData}(c_23:Cal P w K mg base "mark_of" 1 ["some"] 1 vq a_mark_of fd_mark_of)(b_23:Binds K fd_mark_of ["some"] [])(hr:Room 1 (A.deeper (envOfC "marked" (qd q06) s.heap.objs.size fa cdv))):
  PSs (qw CX0 P w K mg base q5w "marked" (qd q06) fa cdv A outer s H E).nox (qq q06) (tDS K q1m):=by
 unfold q1m;refine(qj ?_);refine(qv ?_);refine(xl ?_);refine(jk (N':=["many","basket"]) (cap:=[none,none]) rfl (zt rfl rfl) (q1z (ju rfl (ju rfl q0x))) ?_ (fun _ _ _ _ _=>(q3x rfl (ye (qx q5d rfl (Or.inl rfl) (.inr rfl)) (ye (qx q5d rfl (Or.inl rfl) (.inr rfl)) q3w)))) (fun _ _ _ _ _=>kg) (fun _ _ _ _ _=>?_));refine(jb ?_);refine(xq ?_ qh);exact(qa (pv 0));refine(xc ?_);walk_at "A";exact(qa (pv 0));walk_at "A";refine(qo c_23 b_23 hr (by decide) rfl ?_);walk_at "A";exact(qa (pv 1));exact qe;exact qe
theorem qgk{fa:Addr}{dV:Value}{fd:FuncData}(F:Fun2 K "marked" "marked" q06 dV fa fd){a_mark_of:Addr}{fd_mark_of:FuncData}(c_23:Cal P w K mg base "mark_of" 1 ["some"] 1 vq a_mark_of fd_mark_of)(b_23:Binds K fd_mark_of ["some"] []): FnOk P w K mg base CX0 2 fa fd ["pile"] (spD K 1 q1n):=
 F.okn (k:=1) (n:=1) (ar:=1) (k1:=2) (u:=q1m) qgj rfl rfl rfl fun cdv A outer s H E hr=>(by first|(with_reducible exact q8m c_23 b_23 hr)|exact q8m c_23 b_23 hr)
abbrev jm:Stmt:=top 18
noncomputable def wt:List Str:=["some","wares","first"]
theorem q1o:(wt).Nodup:=by decide +kernel
theorem q5x:FnScope wt ["some","wares"] (qd jm):=⟨rfl,rfl,rfl,q1o,rfl,by decide +kernel,by decide +kernel⟩
theorem q4g:(["ware","some"]:List Str).Nodup:=by decide +kernel
noncomputable def ym:FS:=(qu (zh 2 (eIf (bT (eV 0)) (eOp zm (eOp oIx (eV 0) (eUn q7n (eC (.int 1)))) (eC (.int 1))) (eC (.int 0)))) (zb (eL (zc (iR2 (qc (eV 2) (qc (eV 1) qf))) [none,some 0] (bN 0) zw (eOp zm (eV 1) (yk (qc (eV 0) qf)))))))
noncomputable def yn:List D->Option D:=z5 3 ym
theorem q1p{fa:Addr}{cdv:Value}{A:Around}{outer:List Env}{s:Shared}{H:Hp}{E:XK}(n_range:mg "range" = none)(hr:Room 0 (A.deeper (envOfC "one_ware_more" (qd jm) s.heap.objs.size fa cdv))):
  PSs (qw CX0 P w K mg base wt "one_ware_more" (qd jm) fa cdv A outer s H E).nox (qq jm) (tDS K ym):=by
 unfold ym;refine(qi ?_ ?_);refine(z6 (i:=2) ?_ ?_ ?_ ?_ ?_ ?_);exact q1o;exact rfl;exact(Or.inl rfl);refine(qo7 ?_ ?_ qh);refine(ja ?_);exact(qa (pv 0));refine(qm zf ?_ qh);refine(xq ?_ ?_);exact(qa (pv 0));exact(qa5 qh);exact rfl;walk_at "L";refine(qj ?_);refine(qv ?_);refine(xl ?_);refine(jk (N':=["ware","some"]) (cap:=[none,some 0]) rfl (zt rfl rfl) (j0 rfl) ?_ (fun _ _ _ _ _=>(qx q4g rfl (Or.inl rfl) (.inr rfl))) (fun _ _ _ _ _=>kg) (fun _ _ _ _ _=>?_));refine(qfl rfl n_range ?_);walk_at "A";exact(qa (pv 2));walk_at "A";exact(qa (pv 1));exact qe;refine(qm zf ?_ ?_);exact(qa (pv 1));refine(xc ?_);walk_at "A";exact(qa (pv 0));exact qe
theorem q5y{fa:Addr}{dV:Value}{fd:FuncData}(F:Fun2 K "one_ware_more" "one_ware_more" jm dV fa fd)(n_range:mg "range" = none): FnOk P w K mg base CX0 1 fa fd ["some","wares"] (spD K 2 yn):=
 F.okn (k:=0) (n:=3) (ar:=2) (k1:=1) (u:=ym) q5x rfl rfl rfl fun cdv A outer s H E hr=>(by first|(with_reducible exact q1p n_range hr)|exact q1p n_range hr)
abbrev jg:Stmt:=top 19
noncomputable def w4:List Str:=["some"]
theorem q54:(w4).Nodup:=by decide +kernel
theorem q55:FnScope w4 ["some"] (qd jg):=⟨rfl,rfl,rfl,q54,rfl,by decide +kernel,by decide +kernel⟩
theorem q3n:(["place","some"]:List Str).Nodup:=by decide +kernel
noncomputable def vy:FS:=(zb (eL (zc (iR1 (qc (qg wm (qc (eV 0) qf)) qf)) [none,some 0] (bN 0) zw (eOp zm (eSl (eV 1) oNo (oAt (eV 0))) (eSl (eV 1) (oAt (eOp zm (eV 0) (eC (.int 1)))) oNo)))))
noncomputable def vz:List D->Option D:=z5 1 vy
theorem q0t{fa:Addr}{cdv:Value}{A:Around}{outer:List Env}{s:Shared}{H:Hp}{E:XK}(n_range:mg "range" = none)(n_len:mg "len" = none)(hr:Room 0 (A.deeper (envOfC "one_ware_fewer" (qd jg) s.heap.objs.size fa cdv))):
  PSs (qw CX0 P w K mg base w4 "one_ware_fewer" (qd jg) fa cdv A outer s H E).nox (qq jg) (tDS K vy):=by
 unfold vy;refine(qj ?_);refine(qv ?_);refine(xl ?_);refine(jk (N':=["place","some"]) (cap:=[none,some 0]) rfl (zt rfl rfl) (j0 rfl) ?_ (fun _ _ _ _ _=>(qx q3n rfl (Or.inl rfl) (.inr rfl))) (fun _ _ _ _ _=>kg) (fun _ _ _ _ _=>?_));refine(w6 rfl n_range ?_);walk_at "A";refine(zy (q0g) rfl n_len DL.vn ?_);walk_at "A";exact(qa (pv 0));exact qe;exact qe;refine(qm zf ?_ ?_);refine(q1g ?_ q1e (q1f ?_));exact(qa (pv 1));exact(qa (pv 0));refine(q1g ?_ (q1f ?_) q1e);exact(qa (pv 1));refine(qm zf ?_ qh);exact(qa (pv 0))
theorem q56{fa:Addr}{dV:Value}{fd:FuncData}(F:Fun2 K "one_ware_fewer" "one_ware_fewer" jg dV fa fd)(n_range:mg "range" = none)(n_len:mg "len" = none): FnOk P w K mg base CX0 1 fa fd ["some"] (spD K 1 vz):=
 F.okn (k:=0) (n:=1) (ar:=1) (k1:=1) (u:=vy) q55 rfl rfl rfl fun cdv A outer s H E hr=>(by first|(with_reducible exact q0t n_range n_len hr)|exact q0t n_range n_len hr)
abbrev q16:Stmt:=top 27
noncomputable def q7v:List Str:=["layer","wares","known","found","some","longer"]
theorem q1q:(q7v).Nodup:=by decide +kernel
theorem qiv:FnScope q7v ["layer","wares"] (qd q16):=⟨rfl,rfl,rfl,q1q,rfl,by decide +kernel,by decide +kernel⟩
theorem qej:(["some"]:List Str).Nodup:=by decide +kernel
theorem qek:(["shorter","known"]:List Str).Nodup:=by decide +kernel
noncomputable def q6z:FS:=(sIf (bT (qg q9y (qc (eL (zc (vf (qg (qp 1 [] vz) (qc (eV 5) qf))) [none,some 2] (bN 0) zw (eOp qih (eV 0) (eV 1)))) qf))) (ky 3 (eV 5)) yp)
noncomputable def q70:FS:=(xg (vf (qg (qp 2 [] yn) (qc (eV 4) (qc (eV 1) qf)))) (bN 5) q6z)
noncomputable def q2r:FS:=(qu (zh 2 (qg q9f (qc (eL (zc (vf (eV 0)) [none] (bN 0) zw (yk (qc (eV 0) (qc (eC (.bl true)) qf))))) qf))) (qu (q0p 3 (kx qf)) (qu (xg (vf (eV 0)) (bN 4) q70) (q1d 3 (zb (eV 3))))))
noncomputable def q2s:List D->Option D:=z5 6 q2r
theorem qb7{fa:Addr}{cdv:Value}{A:Around}{outer:List Env}{s:Shared}{H:Hp}{E:XK}{a_one_ware_more:Addr}{fd_one_ware_more:FuncData}(c_27:Cal P w K mg base "one_ware_more" 1 ["some","wares"] 2 yn a_one_ware_more fd_one_ware_more)(b_27:Binds K fd_one_ware_more ["some","wares"] []){a_one_ware_fewer:Addr}{fd_one_ware_fewer:FuncData}(c_26:Cal P w K mg base "one_ware_fewer" 1 ["some"] 1 vz a_one_ware_fewer fd_one_ware_fewer)(b_26:Binds K fd_one_ware_fewer ["some"] [])(n_dict:mg "dict" = none)(n_all:mg "all" = none)(hr:Room 1 (A.deeper (envOfC "grown" (qd q16) s.heap.objs.size fa cdv))):
  PSs (qw CX0 P w K mg base q7v "grown" (qd q16) fa cdv A outer s H E).nox (qq q16) (tDS K q2r):=by
 unfold q2r q70 q6z;refine(qi ?_ ?_);refine(z6 (i:=2) ?_ ?_ ?_ ?_ ?_ ?_);exact q1q;exact rfl;exact(Or.inr rfl);refine(j7 (qkb rfl hr.units) rfl n_dict DL.boot_dict ?_);walk_at "A";refine(xl ?_);refine(jk (N':=["some"]) (cap:=[none]) rfl (zt rfl rfl) (j0 rfl) ?_ (fun _ _ _ _ _=>(qx qej rfl (Or.inl rfl) (.inr rfl))) (fun _ _ _ _ _=>kg) (fun _ _ _ _ _=>?_));refine(jb ?_);exact(qa (pv 0));refine(xc ?_);walk_at "A";exact(qa (pv 0));walk_at "A";exact vv;exact qe;exact qe;exact rfl;walk_at "L";refine(qi ?_ ?_);exact(q1b (i:=3) q1q rfl (Or.inl rfl) (ve qe));refine(qi ?_ ?_);refine(y8 ng rfl ?_ (qx q1q rfl (Or.inl rfl) (.inl rfl)) (qj ?_));refine(jb ?_);exact(qa (pv 0));refine(y8 ng rfl ?_ (qx q1q rfl (Or.inl rfl) (.inl rfl)) (qj ?_));refine(jb ?_);refine(qo c_27 b_27 hr (by decide) rfl ?_);walk_at "A";exact(qa (pv 4));walk_at "A";exact(qa (pv 1));exact qe;refine(va ?_ (qj ?_) xf);refine(ja ?_);refine(zy (qfo rfl) rfl n_all DL.boot_all ?_);walk_at "A";refine(xl ?_);refine(jk (N':=["shorter","known"]) (cap:=[none,some 2]) rfl (zt rfl rfl) (j0 rfl) ?_ (fun _ _ _ _ _=>(qx qek rfl (Or.inl rfl) (.inr rfl))) (fun _ _ _ _ _=>kg) (fun _ _ _ _ _=>?_));refine(jb ?_);refine(qo c_26 b_26 hr (by decide) rfl ?_);walk_at "A";exact(qa (pv 5));exact qe;refine(q3s (qmx hr.units) ?_ ?_);exact(qa (pv 0));exact(qa (pv 1));exact qe;refine(q1c (pv 3) ?_);exact(qa (pv 5));refine(wg 3 (qj ?_));refine(qv ?_);exact(qa (pv 3))
theorem qiw{fa:Addr}{dV:Value}{fd:FuncData}(F:Fun2 K "grown" "grown" q16 dV fa fd){a_one_ware_more:Addr}{fd_one_ware_more:FuncData}(c_27:Cal P w K mg base "one_ware_more" 1 ["some","wares"] 2 yn a_one_ware_more fd_one_ware_more)(b_27:Binds K fd_one_ware_more ["some","wares"] []){a_one_ware_fewer:Addr}{fd_one_ware_fewer:FuncData}(c_26:Cal P w K mg base "one_ware_fewer" 1 ["some"] 1 vz a_one_ware_fewer fd_one_ware_fewer)(b_26:Binds K fd_one_ware_fewer ["some"] [])(n_dict:mg "dict" = none)(n_all:mg "all" = none): FnOk P w K mg base CX0 2 fa fd ["layer","wares"] (spD K 2 q2s):=
 F.okn (k:=1) (n:=6) (ar:=2) (k1:=2) (u:=q2r) qiv rfl rfl rfl fun cdv A outer s H E hr=>(by first|(with_reducible exact qb7 c_27 b_27 c_26 b_26 n_dict n_all hr)|exact qb7 c_27 b_27 c_26 b_26 n_dict n_all hr)
abbrev x8:Stmt:=top 22
noncomputable def q07:List Str:=["marked_runs","some","mark"]
theorem q25:(q07).Nodup:=by decide +kernel
theorem q71:FnScope q07 ["marked_runs","some"] (qd x8):=⟨rfl,rfl,rfl,q25,rfl,by decide +kernel,by decide +kernel⟩
theorem q0u:(["many","basket","mark"]:List Str).Nodup:=by decide +kernel
noncomputable def vj:FS:=(qu (zh 2 (qg (qp 1 [] vq) (qc (eV 1) qf))) (zb (qg q9x (qc (eL (zc (vf (eV 0)) [none,none,some 2] (wk 2 (ji (bN 0) (ji (bN 1) wj))) (xa oEq (eOp oBand (eV 1) (eV 2)) (eV 2)) (eV 0))) qf))))
noncomputable def vk:List D->Option D:=z5 3 vj
theorem q26{fa:Addr}{cdv:Value}{A:Around}{outer:List Env}{s:Shared}{H:Hp}{E:XK}{a_mark_of:Addr}{fd_mark_of:FuncData}(c_23:Cal P w K mg base "mark_of" 1 ["some"] 1 vq a_mark_of fd_mark_of)(b_23:Binds K fd_mark_of ["some"] [])(n_sum:mg "sum" = none)(hr:Room 1 (A.deeper (envOfC "count_marked" (qd x8) s.heap.objs.size fa cdv))):
  PSs (qw CX0 P w K mg base q07 "count_marked" (qd x8) fa cdv A outer s H E).nox (qq x8) (tDS K vj):=by
 unfold vj;refine(qi ?_ ?_);refine(z6 (i:=2) ?_ ?_ ?_ ?_ ?_ ?_);exact q25;exact rfl;exact(Or.inr rfl);refine(qo c_23 b_23 hr (by decide) rfl ?_);walk_at "A";exact(qa (pv 1));exact qe;exact rfl;walk_at "L";refine(qj ?_);refine(qv ?_);refine(zy (qfn rfl) rfl n_sum DL.boot_sum ?_);walk_at "A";refine(xl ?_);refine(jk (N':=["many","basket","mark"]) (cap:=[none,none,some 2]) rfl (zt rfl rfl) (q1z (ju rfl (ju rfl q0x))) ?_ (fun _ _ _ _ _=>(q3x rfl (ye (qx q0u rfl (Or.inl rfl) (.inr rfl)) (ye (qx q0u rfl (Or.inl rfl) (.inr rfl)) q3w)))) (fun _ _ _ _ _=>(q40 ?_)) (fun _ _ _ _ _=>?_));refine(jb ?_);exact(qa (pv 0));refine(xb (q6j hr.units) ?_ ?_);refine(qm qk1 ?_ ?_);exact(qa (pv 1));exact(qa (pv 2));exact(qa (pv 2));exact(qa (pv 0));exact qe
theorem q72{fa:Addr}{dV:Value}{fd:FuncData}(F:Fun2 K "count_marked" "count_marked" x8 dV fa fd){a_mark_of:Addr}{fd_mark_of:FuncData}(c_23:Cal P w K mg base "mark_of" 1 ["some"] 1 vq a_mark_of fd_mark_of)(b_23:Binds K fd_mark_of ["some"] [])(n_sum:mg "sum" = none): FnOk P w K mg base CX0 2 fa fd ["marked_runs","some"] (spD K 2 vk):=
 F.okn (k:=1) (n:=3) (ar:=2) (k1:=2) (u:=vj) q71 rfl rfl rfl fun cdv A outer s H E hr=>(by first|(with_reducible exact q26 c_23 b_23 n_sum hr)|exact q26 c_23 b_23 n_sum hr)
abbrev z9:Stmt:=qnb 28 1
noncomputable def kf:List Str:=["self","pile","least","runs","told","layer","pairs"]
theorem zv:(kf).Nodup:=by decide +kernel
theorem q4h:FnScope kf ["self","pile","least"] (qd z9):=⟨rfl,rfl,rfl,zv,rfl,by decide +kernel,by decide +kernel⟩
theorem q3f:(["some","runs"]:List Str).Nodup:=by decide +kernel
theorem q3g:(["pair"]:List Str).Nodup:=by decide +kernel
noncomputable def j6:FS:=(qu (q0p 6 (zc (vf (eV 5)) [none,some 3] (bN 0) zw (yk (qc (eV 0) (qc (qg (qp 2 [] vk) (qc (eV 1) (qc (eV 0) qf))) qf))))) (q1d 6 (qu (qi6 4 (eV 6)) (zh 5 (qg (qp 2 [] q2s) (qc (eL (zc (vf (qg (qp 2 [] xu) (qc (eV 6) (qc (eV 2) qf)))) [none] (bN 0) zw (eOp oIx (eV 0) (eC (.int 0))))) (qc (eOp oIx (eV 1) (eC (.int 0))) qf)))))))
noncomputable def js:FS:=(qu (zh 3 (qg (qp 1 [] q1n) (qc (eV 1) qf))) (qu (q0p 4 (kx qf)) (qu (zh 5 (eL (kx (qc (yk qf) qf)))) (qu (jd (bT (eV 5)) j6 100000) (q1d 6 (q1d 4 (zb (qg vg (qc (eV 4) qf)))))))))
noncomputable def jt:List D->Option D:=z5 7 js
theorem q0m{fa:Addr}{cdv:Value}{A:Around}{outer:List Env}{s:Shared}{H:Hp}{E:XK}{a_marked:Addr}{fd_marked:FuncData}(c_24:Cal P w K mg base "marked" 2 ["pile"] 1 q1n a_marked fd_marked)(b_24:Binds K fd_marked ["pile"] []){a_grown:Addr}{fd_grown:FuncData}(c_4:Cal P w K mg base "grown" 2 ["layer","wares"] 2 q2s a_grown fd_grown)(b_4:Binds K fd_grown ["layer","wares"] []){a_count_marked:Addr}{fd_count_marked:FuncData}(c_3:Cal P w K mg base "count_marked" 2 ["marked_runs","some"] 2 vk a_count_marked fd_count_marked)(b_3:Binds K fd_count_marked ["marked_runs","some"] []){a_at_least:Addr}{fd_at_least:FuncData}(c_2:Cal P w K mg base "at_least" 1 ["pairs","least"] 2 xu a_at_least fd_at_least)(b_2:Binds K fd_at_least ["pairs","least"] [])(n_tuple:mg "tuple" = none)(hr:Room 2 (A.deeper (envOfC "Growing.counted" (qd z9) s.heap.objs.size fa cdv))):
  PSs (qw CX0 P w K mg base kf "Growing.counted" (qd z9) fa cdv A outer s H E).nox (qq z9) (tDS K js):=by
 unfold js j6;refine(qi ?_ ?_);refine(z6 (i:=3) ?_ ?_ ?_ ?_ ?_ ?_);exact zv;exact rfl;exact(Or.inr rfl);refine(qo c_24 b_24 hr (by decide) rfl ?_);walk_at "A";exact(qa (pv 1));exact qe;exact rfl;walk_at "L";refine(qi ?_ ?_);exact(q1b (i:=4) zv rfl (Or.inl rfl) (ve qe));refine(qi ?_ ?_);refine(z6 (i:=5) ?_ ?_ ?_ ?_ ?_ ?_);exact zv;exact rfl;exact(Or.inl rfl);refine(xl ?_);refine(ve ?_);walk_at "A";exact(xc qe);exact qe;exact rfl;walk_at "L";refine(qi ?_ ?_);refine(q9u 100000 ng ?_ (qi ?_ ?_));refine(ja ?_);exact(qa (pv 5));refine(qjt (i:=6) rfl zv rfl rfl (N':=["some","runs"]) (cap:=[none,some 3]) (zt rfl rfl) (j0 rfl) ?_ (fun _ _ _ _ _=>(qx q3f rfl (Or.inl rfl) (.inr rfl))) (fun _ _ _ _ _=>kg) (fun _ _ _ _ _=>?_));refine(jb ?_);exact(qa (pv 5));refine(xc ?_);walk_at "A";exact(qa (pv 0));walk_at "A";refine(qo c_3 b_3 hr (by decide) rfl ?_);walk_at "A";exact(qa (pv 1));walk_at "A";exact(qa (pv 0));exact qe;exact qe;refine(wg 6 (qi ?_ ?_));refine(qms (pv 4) ?_);exact(qa (pv 6));refine(qj ?_);refine(z6 (i:=5) ?_ ?_ ?_ ?_ ?_ ?_);exact zv;exact rfl;exact(Or.inl rfl);refine(qo c_4 b_4 hr (by decide) rfl ?_);walk_at "A";refine(xl ?_);refine(jk (N':=["pair"]) (cap:=[none]) rfl (zt rfl rfl) (j0 rfl) ?_ (fun _ _ _ _ _=>(qx q3g rfl (Or.inl rfl) (.inr rfl))) (fun _ _ _ _ _=>kg) (fun _ _ _ _ _=>?_));refine(jb ?_);refine(qo c_2 b_2 hr (by decide) rfl ?_);walk_at "A";exact(qa (pv 6));walk_at "A";exact(qa (pv 2));exact qe;refine(xq ?_ qh);exact(qa (pv 0));walk_at "A";refine(xq ?_ qh);exact(qa (pv 1));exact qe;exact rfl;walk_at "L";refine(wg 6 (wg 4 (qj ?_)));refine(qv ?_);refine(j7 (vw) rfl n_tuple DL.boot_tuple ?_);walk_at "A";exact(qa (pv 4));exact qe
theorem q4i{fa:Addr}{dV:Value}{fd:FuncData}(F:Fun2 K "counted" "Growing.counted" z9 dV fa fd){a_marked:Addr}{fd_marked:FuncData}(c_24:Cal P w K mg base "marked" 2 ["pile"] 1 q1n a_marked fd_marked)(b_24:Binds K fd_marked ["pile"] []){a_grown:Addr}{fd_grown:FuncData}(c_4:Cal P w K mg base "grown" 2 ["layer","wares"] 2 q2s a_grown fd_grown)(b_4:Binds K fd_grown ["layer","wares"] []){a_count_marked:Addr}{fd_count_marked:FuncData}(c_3:Cal P w K mg base "count_marked" 2 ["marked_runs","some"] 2 vk a_count_marked fd_count_marked)(b_3:Binds K fd_count_marked ["marked_runs","some"] []){a_at_least:Addr}{fd_at_least:FuncData}(c_2:Cal P w K mg base "at_least" 1 ["pairs","least"] 2 xu a_at_least fd_at_least)(b_2:Binds K fd_at_least ["pairs","least"] [])(n_tuple:mg "tuple" = none): FnOk P w K mg base CX0 3 fa fd ["self","pile","least"] (spD K 3 jt):=
 F.okn (k:=2) (n:=7) (ar:=3) (k1:=3) (u:=js) q4h rfl rfl rfl fun cdv A outer s H E hr=>(by first|(with_reducible exact q0m c_24 b_24 c_4 b_4 c_3 b_3 c_2 b_2 n_tuple hr)|exact q0m c_24 b_24 c_4 b_4 c_3 b_3 c_2 b_2 n_tuple hr)
abbrev zj:Stmt:=qnb 28 0
noncomputable def wu:List Str:=["self","pile","least"]
theorem q5z:(wu).Nodup:=by decide +kernel
theorem q60:FnScope wu ["self","pile","least"] (qd zj):=⟨rfl,rfl,rfl,q5z,rfl,by decide +kernel,by decide +kernel⟩
noncomputable def xv:FS:=(zb (qg (qp 2 [] xu) (qc (q7q "Growing" 3 jt (eV 0) (qc (eV 1) (qc (eV 2) qf))) (qc (eV 2) qf))))
noncomputable def zo:List D->Option D:=z5 3 xv
theorem q1r{fa:Addr}{cdv:Value}{A:Around}{outer:List Env}{s:Shared}{H:Hp}{E:XK}{C_Growing:Addr}(O_Growing:ClsOk K "Growing" C_Growing){a_at_least:Addr}{fd_at_least:FuncData}(c_2:Cal P w K mg base "at_least" 1 ["pairs","least"] 2 xu a_at_least fd_at_least)(b_2:Binds K fd_at_least ["pairs","least"] []){a_Growing_counted:Addr}{fd_Growing_counted:FuncData}(c_0:CalM P w K mg base "Growing" "counted" C_Growing 3 ["self","pile","least"] 3 jt a_Growing_counted fd_Growing_counted)(b_0:Binds K fd_Growing_counted ["self","pile","least"] [])(hr:Room 3 (A.deeper (envOfC "Growing.often" (qd zj) s.heap.objs.size fa cdv))):
  PSs (qw CX0 P w K mg base wu "Growing.often" (qd zj) fa cdv A outer s H E).nox (qq zj) (tDS K xv):=by
 unfold xv;refine(qj ?_);refine(qv ?_);refine(qo c_2 b_2 hr (by decide) rfl ?_);walk_at "A";refine(qah O_Growing c_0 b_0 hr (by decide) ?_ ?_);exact(qa (pv 0));walk_at "A";exact(qa (pv 1));walk_at "A";exact(qa (pv 2));exact qe;walk_at "A";exact(qa (pv 2));exact qe
theorem q61{fa:Addr}{dV:Value}{fd:FuncData}(F:Fun2 K "often" "Growing.often" zj dV fa fd){C_Growing:Addr}(O_Growing:ClsOk K "Growing" C_Growing){a_at_least:Addr}{fd_at_least:FuncData}(c_2:Cal P w K mg base "at_least" 1 ["pairs","least"] 2 xu a_at_least fd_at_least)(b_2:Binds K fd_at_least ["pairs","least"] []){a_Growing_counted:Addr}{fd_Growing_counted:FuncData}(c_0:CalM P w K mg base "Growing" "counted" C_Growing 3 ["self","pile","least"] 3 jt a_Growing_counted fd_Growing_counted)(b_0:Binds K fd_Growing_counted ["self","pile","least"] []): FnOk P w K mg base CX0 4 fa fd ["self","pile","least"] (spD K 3 zo):=
 F.okn (k:=3) (n:=3) (ar:=3) (k1:=4) (u:=xv) q60 rfl rfl rfl fun cdv A outer s H E hr=>(by first|(with_reducible exact q1r O_Growing c_2 b_2 c_0 b_0 hr)|exact q1r O_Growing c_2 b_2 c_0 b_0 hr)
abbrev yi:Stmt:=top 1
noncomputable def q2d:List Str:=["thing"]
theorem qb8:(q2d).Nodup:=by decide +kernel
theorem qb9:FnScope q2d ["thing"] (qd yi):=⟨rfl,rfl,rfl,qb8,rfl,by decide +kernel,by decide +kernel⟩
noncomputable def q0a:FS:=(zb (q3t (q41 .int (eV 0)) (q3t (q5l (q41 .bool (eV 0))) (eOp oGe (eV 0) (eC (.int 0))))))
noncomputable def ko:List D->Option D:=z5 1 q0a
theorem q4j{fa:Addr}{cdv:Value}{A:Around}{outer:List Env}{s:Shared}{H:Hp}{E:XK}(n_isinstance:mg "isinstance" = none)(n_int:mg "int" = none)(n_bool:mg "bool" = none)(hr:Room 0 (A.deeper (envOfC "is_number" (qd yi) s.heap.objs.size fa cdv))):
  PSs (qw CX0 P w K mg base q2d "is_number" (qd yi) fa cdv A outer s H E).nox (qq yi) (tDS K q0a):=by
 unfold q0a;refine(qj ?_);refine(qv ?_);refine(q2j ?_ (q2j ?_ (q2i ?_)));refine(q2k .int rfl n_isinstance rfl n_int DL.boot_int ?_);exact(qa (pv 0));refine(q3u ?_);refine(q2k .bool rfl n_isinstance rfl n_bool DL.boot_bool ?_);exact(qa (pv 0));refine(q3s qj6 ?_ qh);exact(qa (pv 0))
theorem qba{fa:Addr}{dV:Value}{fd:FuncData}(F:Fun2 K "is_number" "is_number" yi dV fa fd)(n_isinstance:mg "isinstance" = none)(n_int:mg "int" = none)(n_bool:mg "bool" = none): FnOk P w K mg base CX0 1 fa fd ["thing"] (spD K 1 ko):=
 F.okn (k:=0) (n:=1) (ar:=1) (k1:=1) (u:=q0a) qb9 rfl rfl rfl fun cdv A outer s H E hr=>(by first|(with_reducible exact q4j n_isinstance n_int n_bool hr)|exact q4j n_isinstance n_int n_bool hr)
abbrev yj:Stmt:=top 2
noncomputable def q2e:List Str:=["thing","lowest","highest"]
theorem qbb:(q2e).Nodup:=by decide +kernel
theorem qbc:FnScope q2e ["thing","lowest","highest"] (qd yj):=⟨rfl,rfl,rfl,qbb,rfl,by decide +kernel,by decide +kernel⟩
noncomputable def jw:FS:=(zb (q3t (qg (qp 1 [] ko) (qc (eV 0) qf)) (q2m oLe oLe (eV 1) (eV 0) (eV 2))))
noncomputable def v8:List D->Option D:=z5 3 jw
theorem q4k{fa:Addr}{cdv:Value}{A:Around}{outer:List Env}{s:Shared}{H:Hp}{E:XK}{a_is_number:Addr}{fd_is_number:FuncData}(c_5:Cal P w K mg base "is_number" 1 ["thing"] 1 ko a_is_number fd_is_number)(b_5:Binds K fd_is_number ["thing"] [])(hr:Room 1 (A.deeper (envOfC "is_within" (qd yj) s.heap.objs.size fa cdv))):
  PSs (qw CX0 P w K mg base q2e "is_within" (qd yj) fa cdv A outer s H E).nox (qq yj) (tDS K jw):=by
 unfold jw;refine(qj ?_);refine(qv ?_);refine(q2j ?_ (q2i ?_));refine(qo c_5 b_5 hr (by decide) rfl ?_);walk_at "A";exact(qa (pv 0));exact qe;refine(qhy qj4 qj4 ?_ ?_ ?_);exact(qa (pv 1));exact(qa (pv 0));exact(qa (pv 2))
theorem qbd{fa:Addr}{dV:Value}{fd:FuncData}(F:Fun2 K "is_within" "is_within" yj dV fa fd){a_is_number:Addr}{fd_is_number:FuncData}(c_5:Cal P w K mg base "is_number" 1 ["thing"] 1 ko a_is_number fd_is_number)(b_5:Binds K fd_is_number ["thing"] []): FnOk P w K mg base CX0 2 fa fd ["thing","lowest","highest"] (spD K 3 v8):=
 F.okn (k:=1) (n:=3) (ar:=3) (k1:=2) (u:=jw) qbc rfl rfl rfl fun cdv A outer s H E hr=>(by first|(with_reducible exact q4k c_5 b_5 hr)|exact q4k c_5 b_5 hr)
abbrev wd:Stmt:=top 35
noncomputable def q4l:List Str:=["thing","wares"]
theorem qel:(q4l).Nodup:=by decide +kernel
theorem qem:FnScope q4l ["thing","wares"] (qd wd):=⟨rfl,rfl,rfl,qel,rfl,by decide +kernel,by decide +kernel⟩
theorem q4m:(["ware","higher","wares"]:List Str).Nodup:=by decide +kernel
noncomputable def vt:FS:=(qu (sIf (bOr (we (bT (q41 .tuple (eV 0)))) (xa q27 (qg wm (qc (eV 0) qf)) (eV 1))) (zb (eC (.bl false))) yp) (zb (qg q9y (qc (eL (zc (q9e (eV 0)) [none,none,some 1] (wk 2 (ji (bN 0) (ji (bN 1) wj))) zw (eOr (eOp (oIs false) (eV 1) (eC .non)) (qg (qp 3 [] v8) (qc (eV 1) (qc (eOp zm (eV 0) (eC (.int 1))) (qc (eOp oSub (eV 2) (eC (.int 1))) qf))))))) qf))))
noncomputable def zg:List D->Option D:=z5 2 vt
theorem q73{fa:Addr}{cdv:Value}{A:Around}{outer:List Env}{s:Shared}{H:Hp}{E:XK}{a_is_within:Addr}{fd_is_within:FuncData}(c_7:Cal P w K mg base "is_within" 2 ["thing","lowest","highest"] 3 v8 a_is_within fd_is_within)(b_7:Binds K fd_is_within ["thing","lowest","highest"] [])(n_all:mg "all" = none)(n_isinstance:mg "isinstance" = none)(n_tuple:mg "tuple" = none)(n_len:mg "len" = none)(n_enumerate:mg "enumerate" = none)(hr:Room 2 (A.deeper (envOfC "is_tree" (qd wd) s.heap.objs.size fa cdv))):
  PSs (qw CX0 P w K mg base q4l "is_tree" (qd wd) fa cdv A outer s H E).nox (qq wd) (tDS K vt):=by
 unfold vt;refine(qi ?_ ?_);refine(va ?_ (qj ?_) xf);refine(PW.pt (q30 ?_ (q2h ?_)));refine(y4 ?_);refine(ja ?_);refine(q2k .tuple rfl n_isinstance rfl n_tuple DL.boot_tuple ?_);exact(qa (pv 0));refine(xb q6c ?_ ?_);refine(zy (q0g) rfl n_len DL.vn ?_);walk_at "A";exact(qa (pv 0));exact qe;exact(qa (pv 1));exact(qv vv);refine(qj ?_);refine(qv ?_);refine(zy (qfo rfl) rfl n_all DL.boot_all ?_);walk_at "A";refine(xl ?_);refine(jk (N':=["ware","higher","wares"]) (cap:=[none,none,some 1]) rfl (zt rfl rfl) (q1z (ju rfl (ju rfl q0x))) ?_ (fun _ _ _ _ _=>(q3x rfl (ye (qx q4m rfl (Or.inl rfl) (.inr rfl)) (ye (qx q4m rfl (Or.inl rfl) (.inr rfl)) q3w)))) (fun _ _ _ _ _=>kg) (fun _ _ _ _ _=>?_));refine(qk0 rfl n_enumerate ?_);exact(qa (pv 0));refine(qo6 ?_ (q2i ?_));refine(q3s (qog rfl) ?_ q0e);exact(qa (pv 1));refine(qo c_7 b_7 hr (by decide) rfl ?_);walk_at "A";exact(qa (pv 1));walk_at "A";refine(qm zf ?_ qh);exact(qa (pv 0));walk_at "A";refine(qm q0f ?_ qh);exact(qa (pv 2));exact qe;exact qe
theorem qen{fa:Addr}{dV:Value}{fd:FuncData}(F:Fun2 K "is_tree" "is_tree" wd dV fa fd){a_is_within:Addr}{fd_is_within:FuncData}(c_7:Cal P w K mg base "is_within" 2 ["thing","lowest","highest"] 3 v8 a_is_within fd_is_within)(b_7:Binds K fd_is_within ["thing","lowest","highest"] [])(n_all:mg "all" = none)(n_isinstance:mg "isinstance" = none)(n_tuple:mg "tuple" = none)(n_len:mg "len" = none)(n_enumerate:mg "enumerate" = none): FnOk P w K mg base CX0 3 fa fd ["thing","wares"] (spD K 2 zg):=
 F.okn (k:=2) (n:=2) (ar:=2) (k1:=3) (u:=vt) qem rfl rfl rfl fun cdv A outer s H E hr=>(by first|(with_reducible exact q73 c_7 b_7 n_all n_isinstance n_tuple n_len n_enumerate hr)|exact q73 c_7 b_7 n_all n_isinstance n_tuple n_len n_enumerate hr)
abbrev v9:Stmt:=top 33
noncomputable def q3h:List Str:=["pile","above"]
theorem qgl:(q3h).Nodup:=by decide +kernel
theorem q8n:FnScope q3h ["pile","above"] (qd v9):=⟨rfl,rfl,rfl,qgl,rfl,by decide +kernel,by decide +kernel⟩
theorem q5e:(["many","basket","above"]:List Str).Nodup:=by decide +kernel
noncomputable def q1s:FS:=(qu (sIf (we (bT (qg (qp 2 [] zg) (qc (eV 1) (qc (eOp oIx (eV 0) (eC (.int 0))) qf))))) q2n yp) (zb (yk (qc (eOp oIx (eV 0) (eC (.int 0))) (qc (qg vg (qc (eL (zc (vf (eOp oIx (eV 0) (eC (.int 1)))) [none,none,some 1] (wk 2 (ji (bN 0) (ji (bN 1) wj))) zw (yk (qc (eV 0) (qc (qg (qp 2 [] jn) (qc (eV 1) (qc (qg (qp 2 [] j5) (qc (eV 2) (qc (eV 1) qf))) qf))) qf))))) qf)) qf)))))
noncomputable def xj:List D->Option D:=z5 2 q1s
theorem q8o{fa:Addr}{cdv:Value}{A:Around}{outer:List Env}{s:Shared}{H:Hp}{E:XK}{a_is_tree:Addr}{fd_is_tree:FuncData}(c_6:Cal P w K mg base "is_tree" 3 ["thing","wares"] 2 zg a_is_tree fd_is_tree)(b_6:Binds K fd_is_tree ["thing","wares"] []){a_joined:Addr}{fd_joined:FuncData}(c_8:Cal P w K mg base "joined" 1 ["one","other"] 2 jn a_joined fd_joined)(b_8:Binds K fd_joined ["one","other"] []){a_kinds_of:Addr}{fd_kinds_of:FuncData}(c_9:Cal P w K mg base "kinds_of" 2 ["above","some"] 2 j5 a_kinds_of fd_kinds_of)(b_9:Binds K fd_kinds_of ["above","some"] [])(n_tuple:mg "tuple" = none)(hr:Room 3 (A.deeper (envOfC "lifted" (qd v9) s.heap.objs.size fa cdv))):
  PSs (qw CX0 P w K mg base q3h "lifted" (qd v9) fa cdv A outer s H E).nox (qq v9) (tDS K q1s):=by
 unfold q1s;refine(qi ?_ ?_);refine(va ?_ (qj qaf) xf);refine(y4 ?_);refine(ja ?_);refine(qo c_6 b_6 hr (by decide) rfl ?_);walk_at "A";exact(qa (pv 1));walk_at "A";refine(xq ?_ qh);exact(qa (pv 0));exact qe;refine(qj ?_);refine(qv ?_);refine(xc ?_);walk_at "A";refine(xq ?_ qh);exact(qa (pv 0));walk_at "A";refine(j7 (vw) rfl n_tuple DL.boot_tuple ?_);walk_at "A";refine(xl ?_);refine(jk (N':=["many","basket","above"]) (cap:=[none,none,some 1]) rfl (zt rfl rfl) (q1z (ju rfl (ju rfl q0x))) ?_ (fun _ _ _ _ _=>(q3x rfl (ye (qx q5e rfl (Or.inl rfl) (.inr rfl)) (ye (qx q5e rfl (Or.inl rfl) (.inr rfl)) q3w)))) (fun _ _ _ _ _=>kg) (fun _ _ _ _ _=>?_));refine(jb ?_);refine(xq ?_ qh);exact(qa (pv 0));refine(xc ?_);walk_at "A";exact(qa (pv 0));walk_at "A";refine(qo c_8 b_8 hr (by decide) rfl ?_);walk_at "A";exact(qa (pv 1));walk_at "A";refine(qo c_9 b_9 hr (by decide) rfl ?_);walk_at "A";exact(qa (pv 2));walk_at "A";exact(qa (pv 1));exact qe;exact qe;exact qe;exact qe;exact qe
theorem qgm{fa:Addr}{dV:Value}{fd:FuncData}(F:Fun2 K "lifted" "lifted" v9 dV fa fd){a_is_tree:Addr}{fd_is_tree:FuncData}(c_6:Cal P w K mg base "is_tree" 3 ["thing","wares"] 2 zg a_is_tree fd_is_tree)(b_6:Binds K fd_is_tree ["thing","wares"] []){a_joined:Addr}{fd_joined:FuncData}(c_8:Cal P w K mg base "joined" 1 ["one","other"] 2 jn a_joined fd_joined)(b_8:Binds K fd_joined ["one","other"] []){a_kinds_of:Addr}{fd_kinds_of:FuncData}(c_9:Cal P w K mg base "kinds_of" 2 ["above","some"] 2 j5 a_kinds_of fd_kinds_of)(b_9:Binds K fd_kinds_of ["above","some"] [])(n_tuple:mg "tuple" = none): FnOk P w K mg base CX0 4 fa fd ["pile","above"] (spD K 2 xj):=
 F.okn (k:=3) (n:=2) (ar:=2) (k1:=4) (u:=q1s) q8n rfl rfl rfl fun cdv A outer s H E hr=>(by first|(with_reducible exact q8o c_6 b_6 c_8 b_8 c_9 b_9 n_tuple hr)|exact q8o c_6 b_6 c_8 b_8 c_9 b_9 n_tuple hr)
noncomputable def q08:FX:=(q46 (sIf (we (bT (qg (qp 2 [] zg) (qc (eV 1) (qc (eOp oIx (eV 0) (eC (.int 0))) qf))))) q2n yp) (xIf (we (bT (qg (qp 2 [] zg) (qc (eV 1) (qc (eOp oIx (eV 0) (eC (.int 0))) qf))))) (qau "NoTree") q45) q45)
noncomputable def x_lifted:List D->Option Str:=fun ds=>q08 (q1h 2 ds)
theorem qgn{fa:Addr}{cdv:Value}{A:Around}{outer:List Env}{s:Shared}{H:Hp}{E:XK}{a_is_tree:Addr}{fd_is_tree:FuncData}(c_6:Cal P w K mg base "is_tree" 3 ["thing","wares"] 2 zg a_is_tree fd_is_tree)(b_6:Binds K fd_is_tree ["thing","wares"] []){a_joined:Addr}{fd_joined:FuncData}(c_8:Cal P w K mg base "joined" 1 ["one","other"] 2 jn a_joined fd_joined)(b_8:Binds K fd_joined ["one","other"] []){a_kinds_of:Addr}{fd_kinds_of:FuncData}(c_9:Cal P w K mg base "kinds_of" 2 ["above","some"] 2 j5 a_kinds_of fd_kinds_of)(b_9:Binds K fd_kinds_of ["above","some"] [])(n_tuple:mg "tuple" = none){C_NoTree:Addr}(e_NoTree:q7t K C_NoTree)(m_NoTree:mg "NoTree" = some (.ref C_NoTree))(ns_NoTree:PySem.W.nsIn K mainGlobals "NoTree" = some (some (.ref C_NoTree)))(hr:Room 3 (A.deeper (envOfC "lifted" (qd v9) s.heap.objs.size fa cdv))):
  PSs (qw (CXR P w) P w K mg base q3h "lifted" (qd v9) fa cdv A outer s H E) (qq v9) (tXS K q08 E):=by
 unfold q08;refine(qgb (PS.nox ?_) (qol (PT.nox ?_) (qn1 (qim e_NoTree rfl m_NoTree ns_NoTree)) q47) q47);refine(va ?_ (qj qaf) xf);refine(y4 ?_);refine(ja ?_);refine(qo c_6 b_6 hr (by decide) rfl ?_);walk_at "A";exact(qa (pv 1));walk_at "A";refine(xq ?_ qh);exact(qa (pv 0));exact qe;refine(y4 ?_);refine(ja ?_);refine(qo c_6 b_6 hr (by decide) rfl ?_);walk_at "A";exact(qa (pv 1));walk_at "A";refine(xq ?_ qh);exact(qa (pv 0));exact qe
theorem qeo{fa:Addr}{dV:Value}{fd:FuncData}(F:Fun2 K "lifted" "lifted" v9 dV fa fd){a_is_tree:Addr}{fd_is_tree:FuncData}(c_6:Cal P w K mg base "is_tree" 3 ["thing","wares"] 2 zg a_is_tree fd_is_tree)(b_6:Binds K fd_is_tree ["thing","wares"] []){a_joined:Addr}{fd_joined:FuncData}(c_8:Cal P w K mg base "joined" 1 ["one","other"] 2 jn a_joined fd_joined)(b_8:Binds K fd_joined ["one","other"] []){a_kinds_of:Addr}{fd_kinds_of:FuncData}(c_9:Cal P w K mg base "kinds_of" 2 ["above","some"] 2 j5 a_kinds_of fd_kinds_of)(b_9:Binds K fd_kinds_of ["above","some"] [])(n_tuple:mg "tuple" = none){C_NoTree:Addr}(e_NoTree:q7t K C_NoTree)(m_NoTree:mg "NoTree" = some (.ref C_NoTree))(ns_NoTree:PySem.W.nsIn K mainGlobals "NoTree" = some (some (.ref C_NoTree))): FnOk P w K mg base (CXR P w) 4 fa fd ["pile","above"] (spR K 2 x_lifted):=
 q8j (k:=3) (v:=q08) F q8n rfl rfl rfl fun cdv A outer s H E hr=>qgn c_6 b_6 c_8 b_8 c_9 b_9 n_tuple e_NoTree m_NoTree ns_NoTree hr
abbrev zl:Stmt:=top 34
noncomputable def kv:List Str:=["pile","above","least","pairs"]
theorem k7:(kv).Nodup:=by decide +kernel
theorem q2t:FnScope kv ["pile","above","least"] (qd zl):=⟨rfl,rfl,rfl,k7,rfl,by decide +kernel,by decide +kernel⟩
theorem q62:(["pair","above"]:List Str).Nodup:=by decide +kernel
noncomputable def ya:FS:=(qu (zh 3 (q7q "Growing" 3 zo (eC (.obj "Growing")) (qc (qg (qp 2 [] xj) (qc (eV 0) (qc (eV 1) qf))) (qc (eV 2) qf)))) (zb (qg vg (qc (eL (zc (vf (eV 3)) [none,some 1] (bN 0) (xa oEq (qg (qp 2 [] yt) (qc (eV 1) (qc (eOp oIx (eV 0) (eC (.int 0))) qf))) (eOp oIx (eV 0) (eC (.int 0)))) (eV 0))) qf))))
noncomputable def yb:List D->Option D:=z5 4 ya
theorem q2u{fa:Addr}{cdv:Value}{A:Around}{outer:List Env}{s:Shared}{H:Hp}{E:XK}{C_Growing:Addr}(O_Growing:ClsOk K "Growing" C_Growing)(m_Growing:mg "Growing" = some (.ref C_Growing)){a_Growing_often:Addr}{fd_Growing_often:FuncData}(c_1:CalM P w K mg base "Growing" "often" C_Growing 4 ["self","pile","least"] 3 zo a_Growing_often fd_Growing_often)(b_1:Binds K fd_Growing_often ["self","pile","least"] []){a_lifted:Addr}{fd_lifted:FuncData}(c_22:Cal P w K mg base "lifted" 4 ["pile","above"] 2 xj a_lifted fd_lifted)(b_22:Binds K fd_lifted ["pile","above"] []){a_lean:Addr}{fd_lean:FuncData}(c_21:Cal P w K mg base "lean" 3 ["above","some"] 2 yt a_lean fd_lean)(b_21:Binds K fd_lean ["above","some"] [])(n_tuple:mg "tuple" = none)(hr:Room 4 (A.deeper (envOfC "often_kinds" (qd zl) s.heap.objs.size fa cdv))):
  PSs (qw CX0 P w K mg base kv "often_kinds" (qd zl) fa cdv A outer s H E).nox (qq zl) (tDS K ya):=by
 unfold ya;refine(qi ?_ ?_);refine(z6 (i:=3) ?_ ?_ ?_ ?_ ?_ ?_);exact k7;exact rfl;exact(Or.inl rfl);refine(qah O_Growing c_1 b_1 hr (by decide) ?_ ?_);exact(qag O_Growing m_Growing rfl);walk_at "A";refine(qo c_22 b_22 hr (by decide) rfl ?_);walk_at "A";exact(qa (pv 0));walk_at "A";exact(qa (pv 1));exact qe;walk_at "A";exact(qa (pv 2));exact qe;exact rfl;walk_at "L";refine(qj ?_);refine(qv ?_);refine(j7 (vw) rfl n_tuple DL.boot_tuple ?_);walk_at "A";refine(xl ?_);refine(jk (N':=["pair","above"]) (cap:=[none,some 1]) rfl (zt rfl rfl) (j0 rfl) ?_ (fun _ _ _ _ _=>(qx q62 rfl (Or.inl rfl) (.inr rfl))) (fun _ _ _ _ _=>(q40 ?_)) (fun _ _ _ _ _=>?_));refine(jb ?_);exact(qa (pv 3));refine(xb (q6j hr.units) ?_ ?_);refine(qo c_21 b_21 hr (by decide) rfl ?_);walk_at "A";exact(qa (pv 1));walk_at "A";refine(xq ?_ qh);exact(qa (pv 0));exact qe;refine(xq ?_ qh);exact(qa (pv 0));exact(qa (pv 0));exact qe
theorem q7w{fa:Addr}{dV:Value}{fd:FuncData}(F:Fun2 K "often_kinds" "often_kinds" zl dV fa fd){C_Growing:Addr}(O_Growing:ClsOk K "Growing" C_Growing)(m_Growing:mg "Growing" = some (.ref C_Growing)){a_Growing_often:Addr}{fd_Growing_often:FuncData}(c_1:CalM P w K mg base "Growing" "often" C_Growing 4 ["self","pile","least"] 3 zo a_Growing_often fd_Growing_often)(b_1:Binds K fd_Growing_often ["self","pile","least"] []){a_lifted:Addr}{fd_lifted:FuncData}(c_22:Cal P w K mg base "lifted" 4 ["pile","above"] 2 xj a_lifted fd_lifted)(b_22:Binds K fd_lifted ["pile","above"] []){a_lean:Addr}{fd_lean:FuncData}(c_21:Cal P w K mg base "lean" 3 ["above","some"] 2 yt a_lean fd_lean)(b_21:Binds K fd_lean ["above","some"] [])(n_tuple:mg "tuple" = none): FnOk P w K mg base CX0 5 fa fd ["pile","above","least"] (spD K 3 yb):=
 F.okn (k:=4) (n:=4) (ar:=3) (k1:=5) (u:=ya) q2t rfl rfl rfl fun cdv A outer s H E hr=>(by first|(with_reducible exact q2u O_Growing m_Growing c_1 b_1 c_22 b_22 c_21 b_21 n_tuple hr)|exact q2u O_Growing m_Growing c_1 b_1 c_22 b_22 c_21 b_21 n_tuple hr)
noncomputable def xn:FX:=(q46 (zh 3 (q7q "Growing" 3 zo (eC (.obj "Growing")) (qc (qg (qp 2 [] xj) (qc (eV 0) (qc (eV 1) qf))) (qc (eV 2) qf)))) (qea "Growing" (eC (.obj "Growing")) (wo 2 x_lifted (qc (eV 0) (qc (eV 1) qf)))) q45)
noncomputable def x_often_kinds:List D->Option Str:=fun ds=>xn (q1h 4 ds)
theorem q7x{fa:Addr}{cdv:Value}{A:Around}{outer:List Env}{s:Shared}{H:Hp}{E:XK}{C_Growing:Addr}(O_Growing:ClsOk K "Growing" C_Growing)(m_Growing:mg "Growing" = some (.ref C_Growing)){a_Growing_often:Addr}{fd_Growing_often:FuncData}(c_1:CalM P w K mg base "Growing" "often" C_Growing 4 ["self","pile","least"] 3 zo a_Growing_often fd_Growing_often)(b_1:Binds K fd_Growing_often ["self","pile","least"] []){a_lifted:Addr}{fd_lifted:FuncData}(c_22:Cal P w K mg base "lifted" 4 ["pile","above"] 2 xj a_lifted fd_lifted)(b_22:Binds K fd_lifted ["pile","above"] []){a_lean:Addr}{fd_lean:FuncData}(c_21:Cal P w K mg base "lean" 3 ["above","some"] 2 yt a_lean fd_lean)(b_21:Binds K fd_lean ["above","some"] [])(n_tuple:mg "tuple" = none)(gr_lifted:FnOk P w K mg base (CXR P w) 4 a_lifted fd_lifted ["pile","above"] (spR K 2 x_lifted))(hr:Room 4 (A.deeper (envOfC "often_kinds" (qd zl) s.heap.objs.size fa cdv))):
  PSs (qw (CXR P w) P w K mg base kv "often_kinds" (qd zl) fa cdv A outer s H E) (qq zl) (tXS K xn E):=by
 unfold xn;refine(qgb (PS.nox ?_) (qn2 (i:=3) k7 rfl (Or.inl rfl) (qn5 (fa:=(qc (eV 2) qf)) O_Growing c_1 b_1 hr (by decide) ?_ (qkh gr_lifted hr (by decide) rfl c_22.mg c_22.kp b_22 ?_) ?_)) q47);refine(z6 (i:=3) ?_ ?_ ?_ ?_ ?_ ?_);exact k7;exact rfl;exact(Or.inl rfl);refine(qah O_Growing c_1 b_1 hr (by decide) ?_ ?_);exact(qag O_Growing m_Growing rfl);walk_at "A";refine(qo c_22 b_22 hr (by decide) rfl ?_);walk_at "A";exact(qa (pv 0));walk_at "A";exact(qa (pv 1));exact qe;walk_at "A";exact(qa (pv 2));exact qe;exact rfl;walk_at "L";exact(qag O_Growing m_Growing rfl);walk_at "A";exact(qa (pv 0));walk_at "A";exact(qa (pv 1));exact qe;walk_at "A";exact(qa (pv 2));exact qe
theorem q74{fa:Addr}{dV:Value}{fd:FuncData}(F:Fun2 K "often_kinds" "often_kinds" zl dV fa fd){C_Growing:Addr}(O_Growing:ClsOk K "Growing" C_Growing)(m_Growing:mg "Growing" = some (.ref C_Growing)){a_Growing_often:Addr}{fd_Growing_often:FuncData}(c_1:CalM P w K mg base "Growing" "often" C_Growing 4 ["self","pile","least"] 3 zo a_Growing_often fd_Growing_often)(b_1:Binds K fd_Growing_often ["self","pile","least"] []){a_lifted:Addr}{fd_lifted:FuncData}(c_22:Cal P w K mg base "lifted" 4 ["pile","above"] 2 xj a_lifted fd_lifted)(b_22:Binds K fd_lifted ["pile","above"] []){a_lean:Addr}{fd_lean:FuncData}(c_21:Cal P w K mg base "lean" 3 ["above","some"] 2 yt a_lean fd_lean)(b_21:Binds K fd_lean ["above","some"] [])(n_tuple:mg "tuple" = none)(gr_lifted:FnOk P w K mg base (CXR P w) 4 a_lifted fd_lifted ["pile","above"] (spR K 2 x_lifted)): FnOk P w K mg base (CXR P w) 5 fa fd ["pile","above","least"] (spR K 3 x_often_kinds):=
 q8j (k:=4) (v:=xn) F q2t rfl rfl rfl fun cdv A outer s H E hr=>q7x O_Growing m_Growing c_1 b_1 c_22 b_22 c_21 b_21 n_tuple gr_lifted hr
abbrev xo:Stmt:=top 46
noncomputable def q0q:List Str:=["_law_pile","_law_thing","_law_whole","_law_kept","_law_error"]
theorem k8:(q0q).Nodup:=by decide +kernel
theorem q7y:FnScope q0q ["_law_pile","_law_thing","_law_whole"] (qd xo):=⟨rfl,rfl,rfl,k8,rfl,by decide +kernel,by decide +kernel⟩
noncomputable def j9:FS:=(qu (zh 3 (eC .non)) (qu (q3a (sIf (bT (eV 2)) (q9a (qg (qp 3 [] yb) (qc (eV 0) (qc (eV 1) (qc (eOp oPow (eC (.int 10)) (eC (.int 13))) qf))))) (q9a (qg (qp 2 [] xj) (qc (eV 0) (qc (eV 1) qf))))) (xIf (bT (eV 2)) (wo 3 x_often_kinds (qc (eV 0) (qc (eV 1) (qc (eOp oPow (eC (.int 10)) (eC (.int 13))) qf)))) (wo 2 x_lifted (qc (eV 0) (qc (eV 1) qf)))) ["NoTree"] (qin [("NoTree",(sAs 4 "NoTree" (zh 3 (eV 4))))])) (zb (q3t (eOp (oIs true) (eV 3) (eC .non)) (qg (qp 1 [] km) (qc (eV 3) qf))))))
noncomputable def zr:List D->Option D:=z5 5 j9
theorem q2v{fa:Addr}{cdv:Value}{A:Around}{outer:List Env}{s:Shared}{H:Hp}{E:XK}{a__law_alone:Addr}{fd__law_alone:FuncData}(c_11:Cal P w K mg base "_law_alone" 1 ["_law_error"] 1 km a__law_alone fd__law_alone)(b_11:Binds K fd__law_alone ["_law_error"] []){a_often_kinds:Addr}{fd_often_kinds:FuncData}(c_25:Cal P w K mg base "often_kinds" 5 ["pile","above","least"] 3 yb a_often_kinds fd_often_kinds)(b_25:Binds K fd_often_kinds ["pile","above","least"] []){a_lifted:Addr}{fd_lifted:FuncData}(c_22:Cal P w K mg base "lifted" 4 ["pile","above"] 2 xj a_lifted fd_lifted)(b_22:Binds K fd_lifted ["pile","above"] []){C_NoTree:Addr}(ns_NoTree:PySem.W.nsIn K mainGlobals "NoTree" = some (some (.ref C_NoTree)))(cx_NoTree:q1a K C_NoTree)(m_NoTree:mg "NoTree" = some (.ref C_NoTree)){C_OftenError:Addr}(ns_OftenError:PySem.W.nsIn K mainGlobals "OftenError" = some (some (.ref C_OftenError)))(cx_OftenError:q1a K C_OftenError)(m_OftenError:mg "OftenError" = some (.ref C_OftenError))(tp_OftenError:PySem.W.typeIn K (.ref C_OftenError)=some (.type "type"))(mr_NoTree_OftenError:PySem.W.mroIn K C_NoTree (.ref C_OftenError)=some true)(gr_often_kinds:FnOk P w K mg base (CXR P w) 5 a_often_kinds fd_often_kinds ["pile","above","least"] (spR K 3 x_often_kinds))(gr_lifted:FnOk P w K mg base (CXR P w) 4 a_lifted fd_lifted ["pile","above"] (spR K 2 x_lifted))(hr:Room 5 (A.deeper (envOfC "_law_refused" (qd xo) s.heap.objs.size fa cdv))):
  PSs (qw CX0 P w K mg base q0q "_law_refused" (qd xo) fa cdv A outer s H E).nox (qq xo) (tDS K j9):=by
 unfold j9;refine(qi ?_ ?_);refine(z6 (i:=3) ?_ ?_ ?_ q0e ?_ ?_);exact k8;exact rfl;exact(Or.inl rfl);exact rfl;walk_at "L";refine(qi ?_ ?_);refine(qkm ⟨rfl,rfl⟩ ?_ ?_ ?_ ?_);intro pins σ0 Ex;refine PSs.nox ?_;refine(qj ?_);refine(va ?_ (qj ?_) (qj ?_));refine(ja ?_);exact(qa (pv 2));refine(qcs ?_);refine(qo c_25 b_25 hr (by decide) rfl ?_);walk_at "A";exact(qa (pv 0));walk_at "A";exact(qa (pv 1));walk_at "A";exact(qm q6b qh qh);exact qe;refine(qcs ?_);refine(qo c_22 b_22 hr (by decide) rfl ?_);walk_at "A";exact(qa (pv 0));walk_at "A";exact(qa (pv 1));exact qe;intro pins σ0 Ex;refine(q5u (qon (PT.nox ?_) (q5u (qd5 (qd6 gr_often_kinds hr (by decide) rfl c_25.mg c_25.kp b_25 ?_))) (q5u (qd5 (qd6 gr_lifted hr (by decide) rfl c_22.mg c_22.kp b_22 ?_)))));refine(ja ?_);exact(qa (pv 2));walk_at "A";exact(qa (pv 0));walk_at "A";exact(qa (pv 1));walk_at "A";exact(qm q6b qh qh);exact qe;walk_at "A";exact(qa (pv 0));walk_at "A";exact(qa (pv 1));exact qe;intro y C hy hn;simp only [gm,g0w,p9] at hy;subst hy;cases ns_NoTree.symm.trans hn;refine(qoo (i:=4) cx_OftenError.1 tp_OftenError mr_NoTree_OftenError ns_NoTree cx_NoTree rfl m_OftenError k8 rfl rfl ?_);intro a;refine(qj ?_);refine(z6 (i:=3) ?_ ?_ ?_ ?_ ?_ ?_);exact k8;exact rfl;exact(Or.inl rfl);exact(qa (pv 4));exact rfl;walk_at "L";intro y hy;simp only [gm,g0w,p9] at hy;subst hy;exact⟨_,ns_NoTree⟩;refine(qj ?_);refine(qv ?_);refine(q2j ?_ (q2i ?_));refine(q3s (qa7 rfl) ?_ q0e);exact(qa (pv 3));refine(qo c_11 b_11 hr (by decide) rfl ?_);walk_at "A";exact(qa (pv 3));exact qe
theorem q7z{fa:Addr}{dV:Value}{fd:FuncData}(F:Fun2 K "_law_refused" "_law_refused" xo dV fa fd){a__law_alone:Addr}{fd__law_alone:FuncData}(c_11:Cal P w K mg base "_law_alone" 1 ["_law_error"] 1 km a__law_alone fd__law_alone)(b_11:Binds K fd__law_alone ["_law_error"] []){a_often_kinds:Addr}{fd_often_kinds:FuncData}(c_25:Cal P w K mg base "often_kinds" 5 ["pile","above","least"] 3 yb a_often_kinds fd_often_kinds)(b_25:Binds K fd_often_kinds ["pile","above","least"] []){a_lifted:Addr}{fd_lifted:FuncData}(c_22:Cal P w K mg base "lifted" 4 ["pile","above"] 2 xj a_lifted fd_lifted)(b_22:Binds K fd_lifted ["pile","above"] []){C_NoTree:Addr}(ns_NoTree:PySem.W.nsIn K mainGlobals "NoTree" = some (some (.ref C_NoTree)))(cx_NoTree:q1a K C_NoTree)(m_NoTree:mg "NoTree" = some (.ref C_NoTree)){C_OftenError:Addr}(ns_OftenError:PySem.W.nsIn K mainGlobals "OftenError" = some (some (.ref C_OftenError)))(cx_OftenError:q1a K C_OftenError)(m_OftenError:mg "OftenError" = some (.ref C_OftenError))(tp_OftenError:PySem.W.typeIn K (.ref C_OftenError)=some (.type "type"))(mr_NoTree_OftenError:PySem.W.mroIn K C_NoTree (.ref C_OftenError)=some true)(gr_often_kinds:FnOk P w K mg base (CXR P w) 5 a_often_kinds fd_often_kinds ["pile","above","least"] (spR K 3 x_often_kinds))(gr_lifted:FnOk P w K mg base (CXR P w) 4 a_lifted fd_lifted ["pile","above"] (spR K 2 x_lifted)): FnOk P w K mg base CX0 6 fa fd ["_law_pile","_law_thing","_law_whole"] (spD K 3 zr):=
 F.okn (k:=5) (n:=5) (ar:=3) (k1:=6) (u:=j9) q7y rfl rfl rfl fun cdv A outer s H E hr=>(by first|(with_reducible exact q2v c_11 b_11 c_25 b_25 c_22 b_22 ns_NoTree cx_NoTree m_NoTree ns_OftenError cx_OftenError m_OftenError tp_OftenError mr_NoTree_OftenError gr_often_kinds gr_lifted hr)|exact q2v c_11 b_11 c_25 b_25 c_22 b_22 ns_NoTree cx_NoTree m_NoTree ns_OftenError cx_OftenError m_OftenError tp_OftenError mr_NoTree_OftenError gr_often_kinds gr_lifted hr)
abbrev k9:Stmt:=top 42
noncomputable def q3i:List Str:=["_law_above_here","_law_ware","_law_found","_law_other"]
theorem q0b:(q3i).Nodup:=by decide +kernel
theorem qc7:FnScope q3i ["_law_above_here","_law_ware"] (qd k9):=⟨rfl,rfl,rfl,q0b,rfl,by decide +kernel,by decide +kernel⟩
noncomputable def jo:FS:=(sIf (xa oEq (eOp oIx (eV 0) (eV 1)) (eV 3)) (qu (ky 2 (eV 3)) (zh 1 (eV 3))) yp)
noncomputable def wx:FS:=(qu (q0p 2 (kx qf)) (qu (xg (iR1 (qc (qg wm (qc (eV 0) qf)) qf)) (bN 3) jo) (q1d 2 (zb (eV 2)))))
noncomputable def xw:List D->Option D:=z5 4 wx
theorem q5f{fa:Addr}{cdv:Value}{A:Around}{outer:List Env}{s:Shared}{H:Hp}{E:XK}(n_range:mg "range" = none)(n_len:mg "len" = none)(hr:Room 0 (A.deeper (envOfC "_law_over" (qd k9) s.heap.objs.size fa cdv))):
  PSs (qw CX0 P w K mg base q3i "_law_over" (qd k9) fa cdv A outer s H E).nox (qq k9) (tDS K wx):=by
 unfold wx jo;refine(qi ?_ ?_);exact(q1b (i:=2) q0b rfl (Or.inl rfl) (ve qe));refine(qi ?_ ?_);refine(y8 ng rfl ?_ (qx q0b rfl (Or.inl rfl) (.inl rfl)) (qj ?_));refine(w6 rfl n_range ?_);walk_at "A";refine(zy (q0g) rfl n_len DL.vn ?_);walk_at "A";exact(qa (pv 0));exact qe;exact qe;refine(va ?_ (qi ?_ ?_) xf);refine(xb (q6j hr.units) ?_ ?_);refine(xq ?_ ?_);exact(qa (pv 0));exact(qa (pv 1));exact(qa (pv 3));refine(q1c (pv 2) ?_);exact(qa (pv 3));refine(qj ?_);refine(z6 (i:=1) ?_ ?_ ?_ ?_ ?_ ?_);exact q0b;exact rfl;exact(Or.inl rfl);exact(qa (pv 3));exact rfl;walk_at "L";refine(wg 2 (qj ?_));refine(qv ?_);exact(qa (pv 2))
theorem qc8{fa:Addr}{dV:Value}{fd:FuncData}(F:Fun2 K "_law_over" "_law_over" k9 dV fa fd)(n_range:mg "range" = none)(n_len:mg "len" = none): FnOk P w K mg base CX0 1 fa fd ["_law_above_here","_law_ware"] (spD K 2 xw):=
 F.okn (k:=0) (n:=4) (ar:=2) (k1:=1) (u:=wx) qc7 rfl rfl rfl fun cdv A outer s H E hr=>(by first|(with_reducible exact q5f n_range n_len hr)|exact q5f n_range n_len hr)
abbrev kb:Stmt:=top 44
noncomputable def q3j:List Str:=["_law_above_here","_law_some","_law_over_here","_law_ware"]
theorem q0c:(q3j).Nodup:=by decide +kernel
theorem qc9:FnScope q3j ["_law_above_here","_law_some"] (qd kb):=⟨rfl,rfl,rfl,q0c,rfl,by decide +kernel,by decide +kernel⟩
theorem q99:(["_law_ware","_law_over_here"]:List Str).Nodup:=by decide +kernel
noncomputable def yc:FS:=(zh 2 (eOp zm (eV 2) (qg (qp 2 [] xw) (qc (eV 0) (qc (eV 3) qf)))))
noncomputable def wy:FS:=(qu (zh 2 (eL (kx qf))) (qu (xg (vf (eV 1)) (bN 3) yc) (zb (eL (zc (vf (eV 1)) [none,some 2] (bN 0) (xa (oIn true) (eV 0) (eV 1)) (eV 0))))))
noncomputable def wz:List D->Option D:=z5 4 wy
theorem q5g{fa:Addr}{cdv:Value}{A:Around}{outer:List Env}{s:Shared}{H:Hp}{E:XK}{a__law_over:Addr}{fd__law_over:FuncData}(c_17:Cal P w K mg base "_law_over" 1 ["_law_above_here","_law_ware"] 2 xw a__law_over fd__law_over)(b_17:Binds K fd__law_over ["_law_above_here","_law_ware"] [])(hr:Room 1 (A.deeper (envOfC "_law_lean" (qd kb) s.heap.objs.size fa cdv))):
  PSs (qw CX0 P w K mg base q3j "_law_lean" (qd kb) fa cdv A outer s H E).nox (qq kb) (tDS K wy):=by
 unfold wy yc;refine(qi ?_ ?_);refine(z6 (i:=2) ?_ ?_ ?_ ?_ ?_ ?_);exact q0c;exact rfl;exact(Or.inr rfl);refine(xl ?_);exact(ve qe);exact rfl;walk_at "L";refine(qi ?_ ?_);refine(y8 ng rfl ?_ (qx q0c rfl (Or.inl rfl) (.inl rfl)) (qj ?_));refine(jb ?_);exact(qa (pv 1));refine(z6 (i:=2) ?_ ?_ ?_ ?_ ?_ ?_);exact q0c;exact rfl;exact(Or.inr rfl);refine(qm zf ?_ ?_);exact(qa (pv 2));refine(qo c_17 b_17 hr (by decide) rfl ?_);walk_at "A";exact(qa (pv 0));walk_at "A";exact(qa (pv 3));exact qe;exact rfl;walk_at "L";refine(qj ?_);refine(qv ?_);refine(xl ?_);refine(jk (N':=["_law_ware","_law_over_here"]) (cap:=[none,some 2]) rfl (zt rfl rfl) (j0 rfl) ?_ (fun _ _ _ _ _=>(qx q99 rfl (Or.inl rfl) (.inr rfl))) (fun _ _ _ _ _=>(q40 ?_)) (fun _ _ _ _ _=>?_));refine(jb ?_);exact(qa (pv 1));refine(xb qa1 ?_ ?_);exact(qa (pv 0));exact(qa (pv 1));exact(qa (pv 0))
theorem qca{fa:Addr}{dV:Value}{fd:FuncData}(F:Fun2 K "_law_lean" "_law_lean" kb dV fa fd){a__law_over:Addr}{fd__law_over:FuncData}(c_17:Cal P w K mg base "_law_over" 1 ["_law_above_here","_law_ware"] 2 xw a__law_over fd__law_over)(b_17:Binds K fd__law_over ["_law_above_here","_law_ware"] []): FnOk P w K mg base CX0 2 fa fd ["_law_above_here","_law_some"] (spD K 2 wz):=
 F.okn (k:=1) (n:=4) (ar:=2) (k1:=2) (u:=wy) qc9 rfl rfl rfl fun cdv A outer s H E hr=>(by first|(with_reducible exact q5g c_17 b_17 hr)|exact q5g c_17 b_17 hr)
abbrev q51:Stmt:=top 48
noncomputable def qep:List Str:=["_law_script","_law_wares","_law_above_here","_law_ware","_law_k","_law_some","_law_found","_law_number_here","_law_pile","_law_thing"]
theorem kr:(qep).Nodup:=by decide +kernel
theorem qnc:FnScope qep ["_law_script"] (qd q51):=⟨rfl,rfl,rfl,kr,rfl,by decide +kernel,by decide +kernel⟩
noncomputable def q1t:FS:=(sIf (we (bT (qg (qp 2 [] wb) (qc (qg (qp 2 [] zk) (qc (eV 2) (qc (eV 3) qf))) (qc (qg (qp 2 [] xw) (qc (eV 2) (qc (eV 3) qf))) qf))))) (zb (eC (.bl false))) yp)
noncomputable def q1u:FS:=(qu (zh 5 (qg (qp 2 [] w9) (qc (qg (qp 2 [] j4) (qc (eV 0) (qc (eOp zm (eC (.int 2)) (eV 4)) qf))) (qc (eV 1) qf)))) (qu (zh 6 (qg (qp 2 [] yt) (qc (eV 2) (qc (eV 5) qf)))) (sIf (bOr (we (bT (qg (qp 2 [] wb) (qc (eV 6) (qc (qg (qp 2 [] wz) (qc (eV 2) (qc (eV 5) qf))) qf))))) (xa qi4 (qg (qp 2 [] yt) (qc (eV 2) (qc (eV 6) qf))) (eV 6))) (zb (eC (.bl false))) yp)))
noncomputable def q1v:FS:=(sIf (bOr (we (bT (qg (qp 3 [] zr) (qc (eV 8) (qc (eV 9) (qc (eC (.bl false)) qf)))))) (we (bT (qg (qp 3 [] zr) (qc (eV 8) (qc (eV 9) (qc (eC (.bl true)) qf))))))) (zb (eC (.bl false))) yp)
noncomputable def q75:FS:=(qu (zh 1 (eOp oMod (eOp oDiv (qg (qp 2 [] j3) (qc (eV 0) (qc (eC (.int 0)) qf))) (eC (.int 2))) (eC (.int 13)))) (qu (zh 2 (qg (qp 2 [] ki) (qc (qg (qp 2 [] j4) (qc (eV 0) (qc (eC (.int 1)) qf))) (qc (eV 1) qf)))) (qu (xg (iR1 (qc (eV 1) qf)) (bN 3) q1t) (qu (xg (iR1 (qc (qg oMin (qc (eC (.int 10)) (qc (qg oMax (qc (eC (.int 3)) (qc (eOp oSub (qg wm (qc (eV 0) qf)) (eC (.int 2))) qf))) qf))) qf)) (bN 4) q1u) (qu (zh 7 (qg (qp 2 [] j4) (qc (eV 0) (qc (eC (.int 12)) qf)))) (qu (zh 8 (yk (qc (eV 1) (qc (yk (qc (yk (qc (eOp zm (eC (.int 1)) (eOp oMod (eV 7) (eC (.int 9)))) (qc (qg (qp 2 [] w9) (qc (eOp oDiv (eV 7) (eC (.int 16))) (qc (eV 1) qf))) qf))) qf)) qf)))) (qu (xg (vf (qg (qp 2 [] jz) (qc (eV 2) (qc (eOp oDiv (eV 7) (eC (.int 65536))) qf)))) (bN 9) q1v) (zb (q3t (q5l (qg (qp 3 [] zr) (qc (eV 8) (qc (eV 2) (qc (eC (.bl false)) qf))))) (q5l (qg (qp 3 [] zr) (qc (eV 8) (qc (eV 2) (qc (eC (.bl true)) qf))))))))))))))
noncomputable def qeq:List D->Option D:=z5 10 q75
theorem qgo{fa:Addr}{cdv:Value}{A:Around}{outer:List Env}{s:Shared}{H:Hp}{E:XK}{a__law_above:Addr}{fd__law_above:FuncData}(c_10:Cal P w K mg base "_law_above" 1 ["_law_number_here","_law_wares"] 2 ki a__law_above fd__law_above)(b_10:Binds K fd__law_above ["_law_number_here","_law_wares"] []){a__law_number:Addr}{fd__law_number:FuncData}(c_16:Cal P w K mg base "_law_number" 2 ["_law_script","_law_k"] 2 j4 a__law_number fd__law_number)(b_16:Binds K fd__law_number ["_law_script","_law_k"] []){a__law_no_trees:Addr}{fd__law_no_trees:FuncData}(c_15:Cal P w K mg base "_law_no_trees" 1 ["_law_above_here","_law_number_here"] 2 jz a__law_no_trees fd__law_no_trees)(b_15:Binds K fd__law_no_trees ["_law_above_here","_law_number_here"] []){a__law_set:Addr}{fd__law_set:FuncData}(c_20:Cal P w K mg base "_law_set" 1 ["_law_mark","_law_wares"] 2 w9 a__law_set fd__law_set)(b_20:Binds K fd__law_set ["_law_mark","_law_wares"] []){a_lean:Addr}{fd_lean:FuncData}(c_21:Cal P w K mg base "lean" 3 ["above","some"] 2 yt a_lean fd_lean)(b_21:Binds K fd_lean ["above","some"] []){a__law_cell:Addr}{fd__law_cell:FuncData}(c_12:Cal P w K mg base "_law_cell" 1 ["_law_script","_law_k"] 2 j3 a__law_cell fd__law_cell)(b_12:Binds K fd__law_cell ["_law_script","_law_k"] []){a__law_row:Addr}{fd__law_row:FuncData}(c_19:Cal P w K mg base "_law_row" 1 ["_law_found","_law_due"] 2 wb a__law_row fd__law_row)(b_19:Binds K fd__law_row ["_law_found","_law_due"] []){a__law_refused:Addr}{fd__law_refused:FuncData}(c_18:Cal P w K mg base "_law_refused" 6 ["_law_pile","_law_thing","_law_whole"] 3 zr a__law_refused fd__law_refused)(b_18:Binds K fd__law_refused ["_law_pile","_law_thing","_law_whole"] []){a_standing_above:Addr}{fd_standing_above:FuncData}(c_28:Cal P w K mg base "standing_above" 1 ["above","ware"] 2 zk a_standing_above fd_standing_above)(b_28:Binds K fd_standing_above ["above","ware"] []){a__law_over:Addr}{fd__law_over:FuncData}(c_17:Cal P w K mg base "_law_over" 1 ["_law_above_here","_law_ware"] 2 xw a__law_over fd__law_over)(b_17:Binds K fd__law_over ["_law_above_here","_law_ware"] []){a__law_lean:Addr}{fd__law_lean:FuncData}(c_13:Cal P w K mg base "_law_lean" 2 ["_law_above_here","_law_some"] 2 wz a__law_lean fd__law_lean)(b_13:Binds K fd__law_lean ["_law_above_here","_law_some"] [])(n_range:mg "range" = none)(n_min:mg "min" = none)(n_max:mg "max" = none)(n_len:mg "len" = none)(hr:Room 6 (A.deeper (envOfC "law" (qd q51) s.heap.objs.size fa cdv))):
  PSs (qw CX0 P w K mg base qep "law" (qd q51) fa cdv A outer s H E).nox (qq q51) (tDS K q75):=by
 unfold q75 q1v q1u q1t;refine(qi ?_ ?_);refine(z6 (i:=1) ?_ ?_ ?_ ?_ ?_ ?_);exact kr;exact rfl;exact(Or.inl rfl);refine(qm vd ?_ qh);refine(qm q3r ?_ qh);refine(qo c_12 b_12 hr (by decide) rfl ?_);walk_at "A";exact(qa (pv 0));walk_at "A";exact qh;exact qe;exact rfl;walk_at "L";refine(qi ?_ ?_);refine(z6 (i:=2) ?_ ?_ ?_ ?_ ?_ ?_);exact kr;exact rfl;exact(Or.inl rfl);refine(qo c_10 b_10 hr (by decide) rfl ?_);walk_at "A";refine(qo c_16 b_16 hr (by decide) rfl ?_);walk_at "A";exact(qa (pv 0));walk_at "A";exact qh;exact qe;walk_at "A";exact(qa (pv 1));exact qe;exact rfl;walk_at "L";refine(qi ?_ ?_);refine(y8 ng rfl ?_ (qx kr rfl (Or.inl rfl) (.inl rfl)) (qj ?_));refine(w6 rfl n_range ?_);walk_at "A";exact(qa (pv 1));exact qe;refine(va ?_ (qj ?_) xf);refine(y4 ?_);refine(ja ?_);refine(qo c_19 b_19 hr (by decide) rfl ?_);walk_at "A";refine(qo c_28 b_28 hr (by decide) rfl ?_);walk_at "A";exact(qa (pv 2));walk_at "A";exact(qa (pv 3));exact qe;walk_at "A";refine(qo c_17 b_17 hr (by decide) rfl ?_);walk_at "A";exact(qa (pv 2));walk_at "A";exact(qa (pv 3));exact qe;exact qe;exact(qv vv);refine(qi ?_ ?_);refine(y8 ng rfl ?_ (qx kr rfl (Or.inl rfl) (.inl rfl)) (qi ?_ ?_));refine(w6 rfl n_range ?_);walk_at "A";refine(zy (qme rfl) rfl n_min DL.boot_min ?_);walk_at "A";exact qh;walk_at "A";refine(zy (qmf rfl) rfl n_max DL.boot_max ?_);walk_at "A";exact qh;walk_at "A";refine(qm q0f ?_ qh);refine(zy (q0g) rfl n_len DL.vn ?_);walk_at "A";exact(qa (pv 0));exact qe;exact qe;exact qe;exact qe;refine(z6 (i:=5) ?_ ?_ ?_ ?_ ?_ ?_);exact kr;exact rfl;exact(Or.inl rfl);refine(qo c_20 b_20 hr (by decide) rfl ?_);walk_at "A";refine(qo c_16 b_16 hr (by decide) rfl ?_);walk_at "A";exact(qa (pv 0));walk_at "A";refine(qm zf qh ?_);exact(qa (pv 4));exact qe;walk_at "A";exact(qa (pv 1));exact qe;exact rfl;walk_at "L";refine(qi ?_ ?_);refine(z6 (i:=6) ?_ ?_ ?_ ?_ ?_ ?_);exact kr;exact rfl;exact(Or.inl rfl);refine(qo c_21 b_21 hr (by decide) rfl ?_);walk_at "A";exact(qa (pv 2));walk_at "A";exact(qa (pv 5));exact qe;exact rfl;walk_at "L";refine(qj ?_);refine(va ?_ (qj ?_) xf);refine(PW.pt (q30 ?_ (q2h ?_)));refine(y4 ?_);refine(ja ?_);refine(qo c_19 b_19 hr (by decide) rfl ?_);walk_at "A";exact(qa (pv 6));walk_at "A";refine(qo c_13 b_13 hr (by decide) rfl ?_);walk_at "A";exact(qa (pv 2));walk_at "A";exact(qa (pv 5));exact qe;exact qe;refine(xb (qmr hr.units) ?_ ?_);refine(qo c_21 b_21 hr (by decide) rfl ?_);walk_at "A";exact(qa (pv 2));walk_at "A";exact(qa (pv 6));exact qe;exact(qa (pv 6));exact(qv vv);refine(qi ?_ ?_);refine(z6 (i:=7) ?_ ?_ ?_ ?_ ?_ ?_);exact kr;exact rfl;exact(Or.inl rfl);refine(qo c_16 b_16 hr (by decide) rfl ?_);walk_at "A";exact(qa (pv 0));walk_at "A";exact qh;exact qe;exact rfl;walk_at "L";refine(qi ?_ ?_);refine(z6 (i:=8) ?_ ?_ ?_ ?_ ?_ ?_);exact kr;exact rfl;exact(Or.inl rfl);refine(xc ?_);walk_at "A";exact(qa (pv 1));walk_at "A";refine(xc ?_);walk_at "A";refine(xc ?_);walk_at "A";refine(qm zf qh ?_);refine(qm vd ?_ qh);exact(qa (pv 7));walk_at "A";refine(qo c_20 b_20 hr (by decide) rfl ?_);walk_at "A";refine(qm q3r ?_ qh);exact(qa (pv 7));walk_at "A";exact(qa (pv 1));exact qe;exact qe;exact qe;exact qe;exact rfl;walk_at "L";refine(qi ?_ ?_);refine(y8 ng rfl ?_ (qx kr rfl (Or.inl rfl) (.inl rfl)) (qj ?_));refine(jb ?_);refine(qo c_15 b_15 hr (by decide) rfl ?_);walk_at "A";exact(qa (pv 2));walk_at "A";refine(qm q3r ?_ qh);exact(qa (pv 7));exact qe;refine(va ?_ (qj ?_) xf);refine(PW.pt (q30 ?_ (q2h ?_)));refine(y4 ?_);refine(ja ?_);refine(qo c_18 b_18 hr (by decide) rfl ?_);walk_at "A";exact(qa (pv 8));walk_at "A";exact(qa (pv 9));walk_at "A";exact vv;exact qe;refine(y4 ?_);refine(ja ?_);refine(qo c_18 b_18 hr (by decide) rfl ?_);walk_at "A";exact(qa (pv 8));walk_at "A";exact(qa (pv 9));walk_at "A";exact vv;exact qe;exact(qv vv);refine(qj ?_);refine(qv ?_);refine(q2j ?_ (q2i ?_));refine(q3u ?_);refine(qo c_18 b_18 hr (by decide) rfl ?_);walk_at "A";exact(qa (pv 8));walk_at "A";exact(qa (pv 2));walk_at "A";exact vv;exact qe;refine(q3u ?_);refine(qo c_18 b_18 hr (by decide) rfl ?_);walk_at "A";exact(qa (pv 8));walk_at "A";exact(qa (pv 2));walk_at "A";exact vv;exact qe
theorem qnd{fa:Addr}{dV:Value}{fd:FuncData}(F:Fun2 K "law" "law" q51 dV fa fd){a__law_above:Addr}{fd__law_above:FuncData}(c_10:Cal P w K mg base "_law_above" 1 ["_law_number_here","_law_wares"] 2 ki a__law_above fd__law_above)(b_10:Binds K fd__law_above ["_law_number_here","_law_wares"] []){a__law_number:Addr}{fd__law_number:FuncData}(c_16:Cal P w K mg base "_law_number" 2 ["_law_script","_law_k"] 2 j4 a__law_number fd__law_number)(b_16:Binds K fd__law_number ["_law_script","_law_k"] []){a__law_no_trees:Addr}{fd__law_no_trees:FuncData}(c_15:Cal P w K mg base "_law_no_trees" 1 ["_law_above_here","_law_number_here"] 2 jz a__law_no_trees fd__law_no_trees)(b_15:Binds K fd__law_no_trees ["_law_above_here","_law_number_here"] []){a__law_set:Addr}{fd__law_set:FuncData}(c_20:Cal P w K mg base "_law_set" 1 ["_law_mark","_law_wares"] 2 w9 a__law_set fd__law_set)(b_20:Binds K fd__law_set ["_law_mark","_law_wares"] []){a_lean:Addr}{fd_lean:FuncData}(c_21:Cal P w K mg base "lean" 3 ["above","some"] 2 yt a_lean fd_lean)(b_21:Binds K fd_lean ["above","some"] []){a__law_cell:Addr}{fd__law_cell:FuncData}(c_12:Cal P w K mg base "_law_cell" 1 ["_law_script","_law_k"] 2 j3 a__law_cell fd__law_cell)(b_12:Binds K fd__law_cell ["_law_script","_law_k"] []){a__law_row:Addr}{fd__law_row:FuncData}(c_19:Cal P w K mg base "_law_row" 1 ["_law_found","_law_due"] 2 wb a__law_row fd__law_row)(b_19:Binds K fd__law_row ["_law_found","_law_due"] []){a__law_refused:Addr}{fd__law_refused:FuncData}(c_18:Cal P w K mg base "_law_refused" 6 ["_law_pile","_law_thing","_law_whole"] 3 zr a__law_refused fd__law_refused)(b_18:Binds K fd__law_refused ["_law_pile","_law_thing","_law_whole"] []){a_standing_above:Addr}{fd_standing_above:FuncData}(c_28:Cal P w K mg base "standing_above" 1 ["above","ware"] 2 zk a_standing_above fd_standing_above)(b_28:Binds K fd_standing_above ["above","ware"] []){a__law_over:Addr}{fd__law_over:FuncData}(c_17:Cal P w K mg base "_law_over" 1 ["_law_above_here","_law_ware"] 2 xw a__law_over fd__law_over)(b_17:Binds K fd__law_over ["_law_above_here","_law_ware"] []){a__law_lean:Addr}{fd__law_lean:FuncData}(c_13:Cal P w K mg base "_law_lean" 2 ["_law_above_here","_law_some"] 2 wz a__law_lean fd__law_lean)(b_13:Binds K fd__law_lean ["_law_above_here","_law_some"] [])(n_range:mg "range" = none)(n_min:mg "min" = none)(n_max:mg "max" = none)(n_len:mg "len" = none): FnOk P w K mg base CX0 7 fa fd ["_law_script"] (spD K 1 qeq):=
 F.okn (k:=6) (n:=10) (ar:=1) (k1:=7) (u:=q75) qnc rfl rfl rfl fun cdv A outer s H E hr=>(by first|(with_reducible exact qgo c_10 b_10 c_16 b_16 c_15 b_15 c_20 b_20 c_21 b_21 c_12 b_12 c_19 b_19 c_18 b_18 c_28 b_28 c_17 b_17 c_13 b_13 n_range n_min n_max n_len hr)|exact qgo c_10 b_10 c_16 b_16 c_15 b_15 c_20 b_20 c_21 b_21 c_12 b_12 c_19 b_19 c_18 b_18 c_28 b_28 c_17 b_17 c_13 b_13 n_range n_min n_max n_len hr)
end
end My
open PySem PyProof.Rows L2 DL
local macro_rules | `(tactic| simp! [$a,*])=> `(tactic| simp (config:={decide:=true,implicitDefEqProofs:=false}) only [z5,qu,sIf,zh,zb,qo8,yp,q0p,qpd,qpe,q9a,xg,q1d,qob,eOp,eC,eV0,eVs,qg,qc,qf,yk,eL,kx,q9b,eSl,oNo,oAt,qpl,qpc,xa,we,bT,bOr,q3t,eOr,q5l,eIf,q41,qku,eUn,isB,qdt,q7n,qop,qoq,qpm,frzs,vf,q3y,qp,qoe,qph,bN,wk,ji,wj,ke,qmb,gx,g03,ml,ny,mj,Nat.reduceAdd,Nat.reduceSub,Nat.reduceEqDiff,List.replicate,List.cons_append,g0c,uo,List.set_cons_zero,List.set_cons_succ,List.set_nil,g1f,g30,mf,Option.bind_none,p6,Option.map_none,pf,Option.join_none,qaw,qio,qgc,qip,q10,qby,qd7,q15,qn7,qkn,qko,qkp,qkq,qax,qiu,pb,g02,decide_true,decide_false,gu,g07,g3f,and_true,true_and,and_self,ite_true,ite_false,Int.reduceSub,Int.reduceMod,Int.reduceAdd,Int.reduceDiv,Int.reducePow,Int.reduceMul,Int.reduceNeg,Int.reduceEq,Int.reduceLT,Int.reduceLE,Int.reduceToNat,qpn,qpo,qkr,qks,qkt,qir,reduceCtorEq,List.isEmpty_nil,List.isEmpty_cons,List.isEmpty_iff, $a,*])
namespace My
open PySem PyProof.Rows L2 DL
abbrev TI(ns:List Int): D:=.tup (ns.map .int)
abbrev Run:=Int×List Int
abbrev qbe(r:Run): D:=.tup [.int r.1,TI r.2]
abbrev zp(w:Nat)(rs:List Run): D:=.tup [.int (w:Int),.tup (rs.map qbe)]
theorem q80(x:Int): ∀b:List Int,inF (.int x) (b.map D.int)=decide (x∈b)
 | []=>rfl
 | y :: b=>by
  show((eqF (.int y) (.int x)) || inF (.int x) (b.map D.int))=_;rw [q80 x b];show((y==x) || _)=_;rw [pd];simp only [g11,g1b,g0i,gm]
  constructor <;> rintro(h|h)
  ·exact .inl h.symm
  ·exact .inr h
  ·exact .inl h.symm
  ·exact .inr h
theorem q8p(b:List Int): (b.map D.int).all flat=true:=by
 rw [g3m,g2u];intro x _;rfl
def uni(s t:List Int): List Int:=((List.range 12).map fun i:Nat=>(i:Int)).filter fun x=>decide (x∈s\/x∈t)
theorem q4n:∀(s:List Int),(∀x∈s,0<=x/\x<12)->q29 (s.map D.int)=some (s.map Int.toNat)
 | [],_=>rfl
 | x :: s,h=>by
  have hx:=h x gv;show(if 0<=x/\x<12 then(q29 (s.map D.int)).map (x.toNat :: ·) else none)=_;rw [gz hx,q4n s fun y hy=>h y (m5 _ hy)]
  rfl
theorem q8q{s:List Int}(h:∀x∈s,0<=x/\x<12)(n:Nat): n∈s.map Int.toNat↔(n:Int)∈s:=by
 constructor
 ·intro hn
  obtain⟨x,hx,e⟩:=ni.mp hn;have:=h x hx;have:x=(n:Int):=by omega
  exact this ▸ hx
 ·intro hn
  exact ni.mpr ⟨_,hn,by simp⟩
theorem qer(s t:List Int)(hs:∀x∈s,0<=x/\x<12)(ht:∀x∈t,0<=x/\x<12): qe5 (TI s) (TI t)=some ((uni s t).map D.int):=by
 show(q29 (s.map D.int)).bind (fun a=>(q29 (t.map D.int)).bind fun b=>some (((List.range 12).filter fun n=>decide (n∈a\/n∈b)).map fun n=>D.int (n:Nat)))=_;rw [q4n s hs,q4n t ht];show some _=_
 congr 1
 unfold uni;rw [List.filter_map,uh]
 congr 1
 refine g1l fun n _=>?_;show decide (n∈s.map Int.toNat\/n∈t.map Int.toNat)=decide ((n:Int)∈s\/(n:Int)∈t);rw [pd,g0d,g0d,q8q hs,q8q ht]
theorem q8r(s t:List Int)(hs:∀x∈s,0<=x/\x<12)(ht:∀x∈t,0<=x/\x<12): jn [TI s,TI t]=some (TI (uni s t)):=by
 have h:=qer s t hs ht
 (refine qy ?_;simp! [q1l,qe6,h,qax])
def mkN:List Nat->Nat
 | []=>0
 | x :: l=>2 ^ x+mkN l
def mk(b:List Int): Int:=(b.map fun x=>(2:Int) ^ x.toNat).sum
theorem qgp:∀b:List Int,mk b=((mkN (b.map Int.toNat):Nat):Int)
 | []=>rfl
 | x :: b=>by
  have ih:=qgp b;unfold mk at ih ⊢;rw [gx,List.sum_cons,ih,gx,mkN]
  push_cast
  rfl
theorem qky(a b:Nat): Builtin.bitAnd (a:Int) (b:Int)=((a &&& b:Nat):Int):=by
 unfold Builtin.bitAnd;rw [md (by omega:(0:Int)<=(a:Int)),md (by omega:(0:Int)<=(b:Int))];simp
theorem qkz(b:List Int)(hb:∀x∈b,0<=x/\x<100)(ρ : Rho): z8 (bN 0) zw (eOp oShl (eC (.int 1)) (eV 0)) (none :: ρ) (b.map D.int)=some ((b.map fun x=>(2:Int) ^ x.toNat).map D.int):=by
 have:=qbw (b:=bN 0) (f:=eOp oShl (eC (.int 1)) (eV 0)) (ρ :=none :: ρ) (fun d=>match d with | .int x=>.int (2 ^ x.toNat)|_=>.non) (ds:=b.map D.int) fun d hd=>by
  obtain⟨x,hx,rfl⟩:=ni.mp hd;have:=hb x hx;refine⟨_,rfl,qpk x_c (x_v rfl) ?_⟩;rw [qiq 1 x (by omega) (by omega) (by decide),Int.one_mul]
 rw [this,uh,uh]
 rfl
theorem q76(b:List Int)(hb:∀x∈b,0<=x/\x<100)(hl:b.length<=1000): vq [TI b]=some (.int (mk b)):=by
 have hl':b.length<=lim:=by show _<=1000000;omega
 have c:=qkz b hb [];have a:=q8k (b.map fun x=>(2:Int) ^ x.toNat)
 (refine qy ?_;simp! [q0l,zc,hl',c,a])
 rfl
theorem ql0(x:Int)(b:List Int): oIn true (.int x) (TI b)=some (.bl (!decide (x∈b))):=by
 show(if(flat (.int x)&&(b.map D.int).all flat)=true then some (D.bl (if true=true then !inF (.int x) (b.map D.int) else inF (.int x) (b.map D.int))) else none)=_;rw [q8p,q80];rfl
theorem q8s:∀ns:List Int,yl (ns.map D.int)=0
 | []=>rfl
 | n :: ns=>by simp only [gx,yl,q5o,q8s ns];rfl
theorem qes{c:FT}{ρ : Rho}(q:Int->Bool): ∀(l:List Int),(∀x∈l,c (some (.fz (.int x)) :: ρ)=some (q x))->z8 (bN 0) c (eV 0) (none :: ρ) (l.map D.int)=some ((l.filter q).map D.int)
 | [],_=>rfl
 | x :: l,h=>by
  have ih:=qes q l fun y hy=>h y (m5 _ hy);have h1:=h x gv;have b1:bN 0 (D.int x) (none :: ρ)=some (some (.fz (.int x)) :: ρ):=rfl;have v1:eV 0 (some (.fz (.int x)) :: ρ)=some (.int x):=rfl;simp only [gx,z8,b1,h1,mf,g1o];cases q x with
  | true=>simp only [pb,v1,mf,ih,p6,gx]
  | false=>simp only [gu,g02,ih]
theorem qpp(d:D)(r:Rho): frz 0 (some (.fz d) :: r)=some (.fz d) :: r:=rfl
theorem q2f(ns:List Int)(k:Int)(h0:0<=k): ∃c,j3 [.lst (ns.map .int),.int k]=some (.int c):=by
 by_cases h:k<(ns.length:Int)
 ·have hi:atI (ns.map D.int) k=some (.int (ns[k.toNat]'(by omega))):=by rw [q7u h0,gy,m9 (by omega)];rfl
  exact⟨ns[k.toNat]'(by omega),by(refine qy ?_;simp! [yx,h,hi])⟩
 ·exact⟨0,by(refine qy ?_;simp! [yx,h])⟩
theorem q4o(c k:Int)(h1 : -1000000<k)(h2:k<1000000): ∃m,xy [.int c,.int k]=some (.int m)/\0<=m:=by
 have t1:xr (.int k) (.int k)=some (.int (k*k)):=q10 _ _ ⟨by omega,by omega⟩;have t2:∀x:Int,xr (.int (x%2147483647)) (.int (x%2147483647))=some (.int ((x%2147483647)*(x%2147483647))):=fun x=>
  q10 _ _ ⟨by have:=tu x (show(2147483647:Int)≠0 by decide);omega,by have:=ui x (show(0:Int)<2147483647 by decide);omega⟩
 have t3:∀x y:Int,xr (.int x) (.int (y%2147483629))=some (.int (x*(y%2147483629))):=fun x y=>
  q10 _ _ ⟨by have:=tu y (show(2147483629:Int)≠0 by decide);omega,by have:=ui y (show(0:Int)<2147483629 by decide);omega⟩
 simp! [xy,kj,t1,t2,t3];exact⟨_,rfl,tu _ (by decide)⟩
def zu:Nat->Int->Int->List Int
 | 0,_,_=>[]
 | n+1,m,k=>if m%2=1 then k :: zu n (m / 2) (k+1) else zu n (m / 2) (k+1)
theorem q1w(x1:Option B): ∀(n:Nat) (m k:Int) (acc:List D) (b:Option B),acc.length+n<=100->∃b' m',
  runFor (bN 3) xh (qz k n) [some (.fz (.int m)),x1,some (.ow acc),b]=some (.nx,[some (.fz (.int m')),x1,some (.ow (acc++(zu n m k).map .int)),b'])
 | 0,m,k,acc,b,_=>⟨b,m,by simp [qz,runFor,zu]⟩
 | n+1,m,k,acc,b,h=>by
  have ha:acc.length<lim:=by show _<1000000;omega
  rw [jv]
  by_cases hm:m%2=1
  ·obtain⟨b',m',ih⟩:=q1w x1 n (m / 2) (k+1) (acc++[.int k]) (some (.fz (.int k))) (by simp;omega)
   refine⟨b',m',?_⟩;rw [j8 (b:=bN 3) rfl (show xh [some (.fz (.int m)),x1,some (.ow acc),some (.fz (.int k))]=some (.nx,[some (.fz (.int (m / 2))),x1,some (.ow (acc++[.int k])),some (.fz (.int k))]) by simp! [xh,hm,ky,q22,q23,ha]),ih,zu,gz hm];simp
  ·obtain⟨b',m',ih⟩:=q1w x1 n (m / 2) (k+1) acc (some (.fz (.int k))) (by omega)
   refine⟨b',m',?_⟩;rw [j8 (b:=bN 3) rfl (show xh [some (.fz (.int m)),x1,some (.ow acc),some (.fz (.int k))]=some (.nx,[some (.fz (.int (m / 2))),x1,some (.ow acc),some (.fz (.int k))]) by simp! [xh,hm]),ih,zu,m4 hm]
theorem q77(m:Int)(w:Nat)(hw:w<=12): w9 [.int m,.int (w:Int)]=some (TI (zu w m 0)):=by
 obtain⟨b',m',h⟩:=q1w (some (.fz (.int (w:Int)))) w m 0 [] none (by simp;omega);rw [g0c] at h;have r:iR1 (qc (eV 1) qf) [some (.fz (.int m)),some (.fz (.int (w:Int))),some (.ow []),none]=some (qz 0 w):=q2p _ _ (w:Int) rfl (by omega) (by omega)
 (refine qy ?_;simp! [q0j,xg,r,h])
theorem qgq(a b:Int)(h:0<b)(h2:b<18446744073709551616): oDivB (.int a) (.int b)=some (.int (a / b)):=by simp [oDivB,oI,h,h2]
theorem q0r(ns:List Int)(k:Int)(h0:0<=k)(h1:k<=1000): ∃m,j4 [.lst (ns.map .int),.int k]=some (.int m)/\0<=m:=by
 obtain⟨c0,hc0⟩:=q2f ns 0 (by decide);obtain⟨c,hc⟩:=q2f ns k h0
 by_cases h:c0%2=0
 ·simp! [j4,vi,hc0,h,hc]
  exact⟨_,rfl,tu _ (by decide)⟩
 ·obtain⟨a,ha,a0⟩:=q4o c (k+5) (by omega) (by omega)
  obtain⟨d,hd,d0⟩:=q4o c0 (k+9) (by omega) (by omega);simp! [j4,vi,hc0,h,hc,ha,hd];exact⟨_,rfl,by omega⟩
def upD:Option Nat->D
 | none=>.non
 | some j=>.int (j:Int)
abbrev abD(ab:List (Option Nat)): D:=.tup (ab.map upD)
structure Tree(w:Nat)(ab:List (Option Nat)): Prop where
 len:ab.length=w
 up:∀(i j:Nat),ab[i]? = some (some j)->i<j/\j<w
theorem q78(w:Nat)(hw:w<=12)(x1:Option B)(hx1:x1=some (.fz (.int (w:Int)))): ∀(n k:Nat) (m:Int) (acc:List (Option Nat)) (b3 b4:Option B),k+n=w->acc.length=k->(∀(i j:Nat),acc[i]? = some (some j)->i<j/\j<w)->∃ab b0' b3' b4',Tree w ab /\
  runFor (bN 3) lb_law_above_1 (qz (k:Int) n) [some (.fz (.int m)),x1,some (.ow (acc.map upD)),b3,b4]=some (.nx,[b0',x1,some (.ow (ab.map upD)),b3',b4'])
 | 0,k,m,acc,b3,b4,hk,hl,hu=>⟨acc,_,b3,b4,⟨by omega,hu⟩,rfl⟩
 | n + 1,k,m,acc,b3,b4,hk,hl,hu=>by
  subst hx1;have hp:(0:Int)<(w:Int)-(k:Int):=by omega
  have e0:=tu m (show((w:Int)-(k:Int))≠0 by omega);have e1:=ui m hp;have d:=qgq m ((w:Int)-(k:Int)) hp (by omega);have la:acc.length<lim:=by show _<1000000;omega
  have l2:∀a b:D,([a,b]:List D).length<=lim:=fun _ _=>by show 2<=1000000;decide
  obtain⟨o,ho,hou⟩:∃o:Option Nat,(∀j,o=some j->k<j/\j<w)/\lb_law_above_1 [some (.fz (.int m)),some (.fz (.int (w:Int))),some (.ow (acc.map upD)),some (.fz (.int (k:Int))),b4]=some (.nx,[some (.fz (.int (m / ((w:Int)-(k:Int))))),some (.fz (.int (w:Int))),some (.ow ((acc++[o]).map upD)),some (.fz (.int (k:Int))),some (.fz (.int (m%((w:Int)-(k:Int)))))]):=by
   by_cases c:0<m%((w:Int)-(k:Int))
   ·refine⟨some (k+(m%((w:Int)-(k:Int))).toNat),fun j hj=>by cases hj;omega,?_⟩
    rw [g0b,show [some (k+(m%((w:Int)-(k:Int))).toNat)].map upD=[.int ((k:Int)+m%((w:Int)-(k:Int)))] by simp [upD];omega];simp! [lb_law_above_1,hp,d,c,qn9,l2,ky,q22,q23,la]
   ·refine⟨none,fun j hj=>by(cases hj),?_⟩
    rw [g0b];simp! [lb_law_above_1,hp,d,c,qna,l2,ky,q22,q23,la]
    rfl
  obtain⟨ab,b0',b3',b4',T,ih⟩:=q78 w hw _ rfl n (k+1) (m / ((w:Int)-(k:Int))) (acc++[o]) (some (.fz (.int (k:Int)))) (some (.fz (.int (m%((w:Int)-(k:Int)))))) (by omega) (by simp [hl]) (fun i j hij=>by
   by_cases hi:i<acc.length
   ·rw [n8 hi] at hij
    exact hu i j hij
   ·rw [mv (by omega)] at hij
    have:i-acc.length=0:=by
     cases q:i-acc.length with
     | zero=>rfl
     | succ z=>rw [q] at hij;simp at hij
    rw [this] at hij;have hij:o=some j:=by simpa using hij
    have:=ho j hij;omega)
  refine⟨ab,b0',b3',b4',T,?_⟩;have e:bN 3 (.int (k:Int)) [some (.fz (.int m)),some (.fz (.int (w:Int))),some (.ow (acc.map upD)),b3,b4]=some [some (.fz (.int m)),some (.fz (.int (w:Int))),some (.ow (acc.map upD)),some (.fz (.int (k:Int))),b4]:=rfl;rw [jv,j8 e hou,show(k:Int)+1=((k+1:Nat):Int) by omega,ih]
theorem qbf(m:Int)(w:Nat)(hw:w<=12): ∃ab,Tree w ab/\ki [.int m,.int (w:Int)]=some (abD ab):=by
 obtain⟨ab,b0,b3,b4,T,h⟩:=q78 w hw _ rfl w 0 m [] none none (by omega) rfl (fun i j h=>by simp at h);rw [show((0:Nat):Int)=0 from rfl,g03] at h;have r:iR1 (qc (eV 1) qf) [some (.fz (.int m)),some (.fz (.int (w:Int))),some (.ow []),none,none]=some (qz 0 w):=q2p _ _ (w:Int) rfl (by omega) (by omega);exact⟨ab,T,by(refine qy ?_;simp! [kh,xg,r,h])⟩
def ch(ab:List (Option Nat)): Nat->Option Nat->List Nat
 | 0,_=>[]
 | _+1,none=>[]
 | n+1,some j=>j :: ch ab n (ab[j]?).join
theorem qgr(ab:List (Option Nat)): ∀(n:Nat) (o:Option Nat),(ch ab n o).length<=n
 | 0,_=>gp _
 | _+1,none=>t7 _
 | n+1,some j=>Nat.succ_le_succ (qgr ab n _)
def Fuel(w n:Nat)(o:Option Nat): Prop:=∀j,o=some j->j<w/\w<=j+n
theorem q4p{w n j:Nat}{ab:List (Option Nat)}(T:Tree w ab)(h:Fuel w (n+1) (some j)): Fuel w n (ab[j]?).join:=fun k hk=>by
 have hj:=h j rfl;have:ab[j]? = some (some k):=by
  cases q:ab[j]? with
  | none=>rw [q] at hk;cases hk
  | some o=>rw [q] at hk;simp only [pf] at hk;rw [hk]
 have:=T.up j k this;omega
theorem qet{w:Nat}{ab:List (Option Nat)}(T:Tree w ab){i:Nat}(hi:i<w): atI (ab.map upD) (i:Int)=some (upD (ab[i]?).join):=by
 have h:i<ab.length:=by rw [T.len];exact hi
 rw [qit,gy,m9 h]
 rfl
theorem q79{w:Nat}{ab:List (Option Nat)}(T:Tree w ab)(hw:w<=12)(x1:Option B): ∀(n F:Nat) (o:Option Nat) (acc:List D),Fuel w n o->n<F->acc.length+n<=100 ->
  jd (xa (oIs true) (eV 3) (eC .non)) jc F [some (.fz (abD ab)),x1,some (.ow acc),some (.fz (upD o))]=some (.nx,[some (.fz (abD ab)),x1,some (.ow (acc++(ch ab n o).map fun j:Nat=>.int (j:Int))),some (.fz .non)])
 | n,0,o,acc,_,hF,_=>by omega
 | 0,F+1,none,acc,h,_,_=>by
  unfold jd;have c:xa (oIs true) (eV 3) (eC .non) [some (.fz (abD ab)),x1,some (.ow acc),some (.fz (upD none))]=some false:=rfl;rw [c];simp [ch,upD]
 | 0,F+1,some j,acc,h,_,_=>by
  have:=h j rfl;omega
 | n+1,F+1,none,acc,h,_,_=>by
  unfold jd;have c:xa (oIs true) (eV 3) (eC .non) [some (.fz (abD ab)),x1,some (.ow acc),some (.fz (upD none))]=some false:=rfl;rw [c];simp [ch,upD]
 | n+1,F+1,some j,acc,h,hF,hc=>by
  unfold jd;have c:xa (oIs true) (eV 3) (eC .non) [some (.fz (abD ab)),x1,some (.ow acc),some (.fz (upD (some j)))]=some true:=rfl;have hj:=h j rfl;have a:=qet T hj.1;have la:acc.length<lim:=by show _<1000000;omega
  have body:jc [some (.fz (abD ab)),x1,some (.ow acc),some (.fz (upD (some j)))]=some (.nx,[some (.fz (abD ab)),x1,some (.ow (acc++[.int (j:Int)])),some (.fz (upD (ab[j]?).join))]):=by
   rw [show upD (some j)=.int (j:Int) from rfl];simp! [jc,ky,q22,q23,la,a]
  have ih:=q79 T hw x1 n F (ab[j]?).join (acc++[.int (j:Int)]) (q4p T h) (by omega) (by simp only [m8,ml,ny];omega);rw [c];simp only [mf,pb,body,ih,ch,gx,g00,g3d]
def st(w:Nat)(ab:List (Option Nat))(i:Nat): List Int:=(ch ab w (ab[i]?).join).map fun j:Nat=>(j:Int)
theorem q9g{w i:Nat}{ab:List (Option Nat)}(T:Tree w ab): Fuel w w (ab[i]?).join:=fun k hk=>by
 have:ab[i]? = some (some k):=by
  cases q:ab[i]? with
  | none=>rw [q] at hk;cases hk
  | some o=>rw [q] at hk;simp only [pf] at hk;rw [hk]
 have:=T.up i k this;omega
theorem q5h{w:Nat}{ab:List (Option Nat)}(T:Tree w ab)(hw:w<=12){i:Nat}(hi:i<w): zk [abD ab,.int (i:Int)]=some (TI (st w ab i)):=by
 have a:=qet T hi;have h:=q79 T hw (some (.fz (.int (i:Int)))) w 100000 (ab[i]?).join [] (q9g T) (by omega) (by simp only [ny];omega);rw [g0c] at h;have t0:([]:List D).length<=lim:=by decide
 have e:TI (st w ab i)=.tup ((ch ab w (ab[i]?).join).map fun j:Nat=>.int (j:Int)):=by unfold st;simp
 rw [e]
 (refine qy ?_;simp! [xi,t0,a,h])
inductive Anc(ab:List (Option Nat))(i:Nat): Nat->Prop
 | one {j:Nat}:ab[i]? = some (some j)->Anc ab i j
 | more {p j:Nat}:Anc ab i p->ab[p]? = some (some j)->Anc ab i j
theorem qbg{ab:List (Option Nat)}{i j x:Nat}(h:ab[i]? = some (some j))(hx:Anc ab j x): Anc ab i x:=by
 induction hx with
 | one q=>exact .more (.one h) q
 | more _ q ih=>exact .more ih q
theorem qda{ab:List (Option Nat)}{i x:Nat}(h:Anc ab i x): ∃j,ab[i]? = some (some j)/\(x=j\/Anc ab j x):=by
 induction h with
 | one q=>exact⟨_,q,.inl rfl⟩
 | more _ q ih=>
  obtain⟨j,h1,h2⟩:=ih;rcases h2 with rfl|h2
  ·exact⟨_,h1,.inr (.one q)⟩
  ·exact⟨j,h1,.inr (.more h2 q)⟩
theorem qne{w:Nat}{ab:List (Option Nat)}(T:Tree w ab){i x:Nat}(h:Anc ab i x): i<x/\x<w:=by
 induction h with
 | one q=>exact T.up _ _ q
 | more _ q ih=>have:=T.up _ _ q;omega
theorem qbh{w:Nat}{ab:List (Option Nat)}(T:Tree w ab)(x:Nat): ∀(n:Nat) (o:Option Nat),Fuel w n o->(x∈ch ab n o↔∃j,o=some j/\(x=j\/Anc ab j x))
 | 0,none,_=>by simp [ch]
 | 0,some j,h=>by have:=h j rfl;omega
 | n+1,none,_=>by simp [ch]
 | n + 1,some j,h=>by
  have ih:=qbh T x n (ab[j]?).join (q4p T h);rw [ch,gm,ih]
  constructor
  ·rintro(rfl|⟨k,hk,hx⟩)
   ·exact⟨x,rfl,.inl rfl⟩
   ·have q:ab[j]? = some (some k):=by
     cases q:ab[j]? with
     | none=>rw [q] at hk;cases hk
     | some o=>rw [q] at hk;simp only [pf] at hk;rw [hk]
    refine⟨j,rfl,.inr ?_⟩;rcases hx with rfl|hx
    ·exact .one q
    ·exact qbg q hx
  ·rintro⟨j',e,hx⟩
   cases e;rcases hx with rfl|hx
   ·exact .inl rfl
   ·obtain⟨k,hk,h2⟩:=qda hx
    exact .inr ⟨k,by rw [hk];rfl,h2⟩
theorem qnf{w:Nat}{ab:List (Option Nat)}(T:Tree w ab)(i:Nat)(x:Int): x∈st w ab i↔∃y:Nat,x=(y:Int)/\Anc ab i y:=by
 unfold st;rw [ni]
 constructor
 ·rintro⟨y,hy,rfl⟩
  obtain⟨j,hj,h⟩:=(qbh T y w _ (q9g T)).mp hy;have q:ab[i]? = some (some j):=by
   cases q:ab[i]? with
   | none=>rw [q] at hj;cases hj
   | some o=>rw [q] at hj;simp only [pf] at hj;rw [hj]
  refine⟨y,rfl,?_⟩;rcases h with rfl|h
  ·exact .one q
  ·exact qbg q h
 ·rintro⟨y,rfl,h⟩
  obtain⟨j,h1,h2⟩:=qda h;exact⟨y,(qbh T y w _ (q9g T)).mpr ⟨j,by rw [h1];rfl,h2⟩,rfl⟩
def zd(P:Int->Bool): List Int:=((List.range 12).map fun i:Nat=>(i:Int)).filter P
theorem nset_mem{P:Int->Bool}{x:Int}: x∈zd P↔(0<=x/\x<12)/\P x=true:=by
 unfold zd;rw [uj,ni];refine and_congr_left fun _=>⟨?_,fun h=>⟨x.toNat,pj.mpr (by omega),by omega⟩⟩
 rintro⟨i,hi,rfl⟩
 have:=pj.mp hi;omega
theorem q7a{P Q:Int->Bool}(h:∀x:Int,0<=x->x<12->P x=Q x): zd P=zd Q:=by
 unfold zd;apply g1l;intro x hx;obtain⟨i,hi,rfl⟩:=ni.mp hx;have:=pj.mp hi;exact h _ (by omega) (by omega)
theorem qgs(s t:List Int): uni s t=zd fun x=>decide (x∈s) || decide (x∈t):=by
 unfold uni zd;apply g1l;intro x _;rw [pd];simp
def kp(w:Nat)(ab:List (Option Nat))(s:List Int)(x:Int): Bool:=s.any fun i=>decide (x∈st w ab i.toNat)
theorem qor{w:Nat}{ab:List (Option Nat)}(T:Tree w ab)(hw:w<=12)(i:Nat): ∀x∈st w ab i,0<=x/\x<12:=fun x hx=>by
 obtain⟨y,rfl,h⟩:=(qnf T i x).mp hx;have:=qne T h;omega
theorem q7b{w:Nat}{ab:List (Option Nat)}(T:Tree w ab)(hw:w<=12)(x1:Option B): ∀(s:List Int) (P:Int->Bool) (b3:Option B),(∀x∈s,0<=x/\x<(w:Int))->∃b3',
  runFor (bN 3) y9 (s.map D.int) [some (.fz (abD ab)),x1,some (.fz (TI (zd P))),b3]=some (.nx,[some (.fz (abD ab)),x1,some (.fz (TI (zd fun x=>P x || kp w ab s x))),b3'])
 | [],P,b3,_=>⟨b3,by simp only [g03,runFor,kp,List.any_nil,g3j]⟩
 | i :: s,P,b3,hs=>by
  obtain⟨i0,i1⟩:=hs i gv;have se:=q5h T hw (i:=i.toNat) (by omega);rw [show((i.toNat:Nat):Int)=i by omega] at se;have je:=q8r (zd P) (st w ab i.toNat) (fun x hx=>(nset_mem.mp hx).1) (qor T hw _);have ue:uni (zd P) (st w ab i.toNat)=zd fun x=>P x || decide (x∈st w ab i.toNat):=by
   rw [qgs];apply q7a;intro x h0 h1
   congr 1
   rw [pd,g0d,nset_mem];exact⟨fun h=>h.2,fun h=>⟨⟨h0,h1⟩,h⟩⟩
  rw [ue] at je;obtain⟨b3',ih⟩:=q7b T hw x1 s (fun x=>P x || decide (x∈st w ab i.toNat)) (some (.fz (.int i))) (fun x hx=>hs x (m5 _ hx));refine⟨b3',?_⟩;have body:y9 [some (.fz (abD ab)),x1,some (.fz (TI (zd P))),some (.fz (.int i))]=some (.nx,[some (.fz (abD ab)),x1,some (.fz (TI (zd fun x=>P x || decide (x∈st w ab i.toNat)))),some (.fz (.int i))]):=by
   simp! [y9,se,je]
  have e0:bN 3 (.int i) [some (.fz (abD ab)),x1,some (.fz (TI (zd P))),b3]=some [some (.fz (abD ab)),x1,some (.fz (TI (zd P))),some (.fz (.int i))]:=rfl;have e:(fun x=>P x || decide (x∈st w ab i.toNat) || kp w ab s x)=fun x=>P x || kp w ab (i :: s) x:=by
   funext x
   simp only [kp,g3k,Bool.or_assoc]
  rw [gx,j8 e0 body,ih,e]
theorem qbi{w:Nat}{ab:List (Option Nat)}(T:Tree w ab)(hw:w<=12)(s:List Int)(hs:∀x∈s,0<=x/\x<(w:Int)): j5 [abD ab,TI s]=some (TI (zd (kp w ab s))):=by
 obtain⟨b3,h⟩:=q7b T hw (some (.fz (TI s))) s (fun _=>false) none hs;simp only [Bool.false_or] at h;rw [show TI (zd fun _=>false)=.tup [] from rfl] at h;have t0:([]:List D).length<=lim:=by decide
 (refine qy ?_;simp! [wq,t0,xg,h])
end My
open PySem PyProof.Rows L2 DL
namespace My
open PySem PyProof.Rows L2 DL
theorem q7c{α : Type}{b:FB}{e:FE}{ρ : Rho}(f g : α -> D): ∀(as:List α),(∀a∈as,∃ ρ1,b (f a) ρ = some ρ1/\e ρ1=some (g a))->z8 b zw e ρ (as.map f)=some (as.map g)
 | [],_=>rfl
 | a :: as,h=>by
  obtain⟨ρ1,e1,e2⟩:=h a gv;have ih:=q7c f g as fun x hx=>h x (m5 _ hx);simp only [gx,z8,e1,e2,mf,zw,pb,ih,p6]
def isNum:D->Bool
 | .int i=>decide (0<=i)
 | _=>false
theorem qbj(d:D): ko [d]=some (.bl (isNum d)):=by
 cases d <;> rfl
def xk(a b:Int): D->Bool
 | .int i=>decide (0<=i)&&(decide (a<=i)&&decide (i<=b))
 | _=>false
theorem q4q(a b:Int)(d:D): v8 [d,.int a,.int b]=some (.bl (xk a b d)):=by
 have hn:=qbj d;cases hm:isNum d with
 | false=>
  rw [hm] at hn;have e:xk a b d=false:=by
   cases d <;> first|rfl|skip
   simp only [isNum] at hm;simp only [xk,hm,pk]
  rw [e]
  (refine qy ?_;simp! [jw,hn])
 | true=>
  rw [hm] at hn;cases d with
  | int i=>
   simp only [isNum] at hm
   by_cases h1:a<=i
   ·by_cases h2:i<=b
    ·have e:xk a b (.int i)=true:=by simp only [xk,hm,md h1,md h2,Bool.true_and]
     rw [e]
     (refine qy ?_;simp! [jw,hn,q2m,h1,h2])
    ·have e:xk a b (.int i)=false:=by simp only [xk,m3 h2,ua]
     rw [e]
     (refine qy ?_;simp! [jw,hn,q2m,h1,h2])
   ·have e:xk a b (.int i)=false:=by simp only [xk,m3 h1,ua,pk]
    rw [e]
    (refine qy ?_;simp! [jw,hn,q2m,h1])
  | _=>cases hm
theorem q8t{w:Nat}{ab:List (Option Nat)}(T:Tree w ab): ∀(suf pre:List (Option Nat)),ab=pre++suf ->
  z8 (wk 2 (ji (bN 0) (ji (bN 1) wj))) zw (eOr (eOp (oIs false) (eV 1) (eC .non)) (qg (qp 3 [] v8) (qc (eV 1) (qc (eOp zm (eV 0) (eC (.int 1))) (qc (eOp oSub (eV 2) (eC (.int 1))) qf))))) [none,none,some (.fz (.int (w:Int)))] (xx (qz (pre.length:Int) suf.length) (suf.map upD))=some ((suf.map fun _=>true).map D.bl)
 | [],pre,_=>rfl
 | o :: suf,pre,h=>by
  have ih:=q8t T suf (pre++[o]) (by rw [h,g00];rfl);rw [show((pre++[o]).length:Int)=(pre.length:Int)+1 by simp] at ih;have z:xx (qz (pre.length:Int) (o :: suf).length) ((o :: suf).map upD)=.tup [.int (pre.length:Int),upD o] :: xx (qz ((pre.length:Int)+1) suf.length) (suf.map upD):=by
   rw [ml,jv];rfl
  have hg:ab[pre.length]? = some o:=by rw [h,mv (gp _),Nat.sub_self];rfl
  have is_pn:oIs false .non .non=some (.bl true):=rfl;have is_pi:∀i:Int,oIs false (.int i) .non=some (.bl false):=fun _=>rfl;rw [z];cases o with
  | none=>simp! [z8,zw,ih,upD,is_pn]
  | some j=>
   have:=T.up _ _ hg;have wi:=q4q ((pre.length:Int)+1) ((w:Int)-1) (.int (j:Int));rw [show xk ((pre.length:Int)+1) ((w:Int)-1) (.int (j:Int))=true by simp only [xk,md (show(0:Int)<=(j:Int) by omega),md (show(pre.length:Int)+1<=(j:Int) by omega),md (show(j:Int)<=(w:Int)-1 by omega),g3l]] at wi;simp! [z8,zw,ih,upD,is_pi,wi]
theorem q7d{w:Nat}{ab:List (Option Nat)}(T:Tree w ab)(hw:w<=12): zg [abD ab,.int (w:Int)]=some (.bl true):=by
 have c:=q8t T ab [] rfl;rw [show(([]:List (Option Nat)).length:Int)=0 from rfl] at c;have a:=q6r (ab.map fun _=>true);rw [show(ab.map fun _=>true).all id=true by rw [g3m,g2u];intro _ _;rfl] at a;have n:q27 (.int (ab.length:Int)) (.int (w:Int))=some (.bl false):=by rw [q15,md (by rw [T.len])];rfl
 have hl:(xx (qz 0 ab.length) (ab.map upD)).length<=lim:=by
  unfold xx;rw [g0z,q6t,mj,T.len];show _<=1000000;omega
 (refine qy ?_;simp! [vt,n,zc,q9e,q20,hl,c,a])
def lp(w:Nat)(ab:List (Option Nat))(b:List Int)(x:Int): Bool:=decide (x∈b) || kp w ab b x
def lb(w:Nat)(ab:List (Option Nat))(b:List Int): List Int:=zd (lp w ab b)
def In(w:Nat)(s:List Int): Prop:=∀x∈s,0<=x/\x<(w:Int)
theorem qeu{w:Nat}{ab:List (Option Nat)}(T:Tree w ab)(hw:w<=12)(b:List Int)(hb:In w b): jn [TI b,TI (zd (kp w ab b))]=some (TI (lb w ab b)):=by
 have je:=q8r b (zd (kp w ab b)) (fun x hx=>by have:=hb x hx;omega) (fun x hx=>(nset_mem.mp hx).1);have e:uni b (zd (kp w ab b))=lb w ab b:=by
  rw [qgs];apply q7a;intro x h0 h1;unfold lp
  congr 1
  rw [pd,g0d,nset_mem];exact⟨fun h=>h.2,fun h=>⟨⟨h0,h1⟩,h⟩⟩
 rw [e] at je;exact je
abbrev lr(w:Nat)(ab:List (Option Nat))(r:Run): Run:=(r.1,lb w ab r.2)
theorem qgt{w:Nat}{ab:List (Option Nat)}(T:Tree w ab)(hw:w<=12)(rs:List Run)(hl:rs.length<=1000)(hr:∀r∈rs,In w r.2): xj [zp w rs,abD ab]=some (zp w (rs.map (lr w ab))):=by
 have t:=q7d T hw;have c:=q7c (b:=wk 2 (ji (bN 0) (ji (bN 1) wj))) (e:=yk (qc (eV 0) (qc (qg (qp 2 [] jn) (qc (eV 1) (qc (qg (qp 2 [] j5) (qc (eV 2) (qc (eV 1) qf))) qf))) qf))) (ρ :=[none,none,some (.fz (abD ab))]) qbe (fun r=>qbe (lr w ab r)) rs fun r hrr=>by
  have k:=qbi T hw r.2 (hr r hrr);have j:=qeu T hw r.2 (hr r hrr);have l2:([D.int r.1,TI (lb w ab r.2)]:List D).length<=lim:=by show 2<=1000000;decide
  refine⟨[some (.fz (.int r.1)),some (.fz (TI r.2)),some (.fz (abD ab))],rfl,?_⟩;simp! [k,j,l2]
 have hl':rs.length<=lim:=by show _<=1000000;omega
 have l2:∀a b:D,([a,b]:List D).length<=lim:=fun _ _=>by show 2<=1000000;decide
 have e:zp w (rs.map (lr w ab))=.tup [.int (w:Int),.tup (rs.map fun r=>qbe (lr w ab r))]:=by
  show D.tup [.int (w:Int),.tup ((rs.map (lr w ab)).map qbe)]=_;rw [uh];rfl
 rw [e]
 (refine qy ?_;simp! [q1s,t,zc,hl',c,l2])
theorem qdb{w:Nat}{ab:List (Option Nat)}(T:Tree w ab)(hw:w<=12)(s:List Int)(hl:s.length<=1000)(hs:In w s): yt [abD ab,TI s]=some (TI (s.filter fun x=> !decide (x∈zd (kp w ab s)))):=by
 have k:=qbi T hw s hs;have c:=qes (c:=xa (oIn true) (eV 0) (eV 1)) (ρ :=[some (.fz (TI (zd (kp w ab s))))]) (fun x=> !decide (x∈zd (kp w ab s))) s fun x _=>by
  have o:=ql0 x (zd (kp w ab s));simp! [o]
 have hl':s.length<=lim:=by show _<=1000000;omega
 (refine qy ?_;simp! [q4c,k,zc,hl',c])
theorem qos{o:Option Nat}{k:Nat}: oEq (upD o) (.int (k:Int))=some (.bl (decide (o=some k))):=by
 cases o with
 | none=>rfl
 | some j=>
  show oEq (.int (j:Int)) (.int (k:Int))=_;rw [qd7]
  congr 2
  exact g2y.mpr ⟨fun h=>by rw [show j=k by omega],fun h=>by cases h;rfl⟩
theorem q4r{w:Nat}{ab:List (Option Nat)}(T:Tree w ab)(hw:w<=12): ∀(n k c N:Nat) (acc:List D) (b3:Option B),k+n=w->c<w->(∀j,(ab[c]?).join=some j->k<=j)->Fuel w N (ab[c]?).join->acc.length+n<=100->∃b1' b3',
  runFor (bN 3) jo (qz (k:Int) n) [some (.fz (abD ab)),some (.fz (.int (c:Int))),some (.ow acc),b3]=some (.nx,[some (.fz (abD ab)),b1',some (.ow (acc++(ch ab N (ab[c]?).join).map fun j:Nat=>.int (j:Int))),b3'])
 | 0,k,c,N,acc,b3,hk,hc,hj,hF,_=>by
  have:(ab[c]?).join=none:=by
   cases q:(ab[c]?).join with
   | none=>rfl
   | some j=>have:=hj j q;have:=hF j q;omega
  rw [this];exact⟨_,b3,by cases N <;> simp [qz,runFor,ch] <;> rfl⟩
 | n + 1,k,c,N,acc,b3,hk,hc,hj,hF,hl=>by
  have a:=qet T hc;have e:=qos (o:=(ab[c]?).join) (k:=k);have la:acc.length<lim:=by show _<1000000;omega
  have e0:bN 3 (.int (k:Int)) [some (.fz (abD ab)),some (.fz (.int (c:Int))),some (.ow acc),b3]=some [some (.fz (abD ab)),some (.fz (.int (c:Int))),some (.ow acc),some (.fz (.int (k:Int)))]:=rfl
  by_cases h:(ab[c]?).join=some k
  ·rw [md h] at e
   have hN:∃M,N=M+1:=by
    have:=hF k h;cases N with
    | zero=>omega
    | succ M=>exact⟨M,rfl⟩
   obtain⟨M,rfl⟩:=hN;rw [h] at hF;have hF2:=q4p T hF;obtain⟨b1',b3',ih⟩:=q4r T hw n (k+1) k M (acc++[.int (k:Int)]) (some (.fz (.int (k:Int)))) (by omega) (by omega) (fun j hj'=>by
    have q:ab[k]? = some (some j):=by
     cases q:ab[k]? with
     | none=>rw [q] at hj';cases hj'
     | some o=>rw [q] at hj';simp only [pf] at hj';rw [hj']
    have:=T.up _ _ q;omega) hF2 (by simp only [m8,ml,ny];omega)
   refine⟨b1',b3',?_⟩;have body:jo [some (.fz (abD ab)),some (.fz (.int (c:Int))),some (.ow acc),some (.fz (.int (k:Int)))]=some (.nx,[some (.fz (abD ab)),some (.fz (.int (k:Int))),some (.ow (acc++[.int (k:Int)])),some (.fz (.int (k:Int)))]):=by
    simp! [jo,a,e,ky,q22,q23,la]
   rw [jv,j8 e0 body,show(k:Int)+1=((k+1:Nat):Int) by omega,ih,h,ch];simp
  ·rw [m3 h] at e
   obtain⟨b1',b3',ih⟩:=q4r T hw n (k+1) c N acc (some (.fz (.int (k:Int)))) (by omega) hc (fun j hj'=>by
    have:=hj j hj';have:j≠k:=fun z=>h (by rw [hj',z]);omega) hF (by omega)
   refine⟨b1',b3',?_⟩;have body:jo [some (.fz (abD ab)),some (.fz (.int (c:Int))),some (.ow acc),some (.fz (.int (k:Int)))]=some (.nx,[some (.fz (abD ab)),some (.fz (.int (c:Int))),some (.ow acc),some (.fz (.int (k:Int)))]):=by
    simp! [jo,a,e]
   rw [jv,j8 e0 body,show(k:Int)+1=((k+1:Nat):Int) by omega,ih]
theorem qdc{w:Nat}{ab:List (Option Nat)}(T:Tree w ab)(hw:w<=12){i:Nat}(hi:i<w): xw [abD ab,.int (i:Int)]=some (.lst ((st w ab i).map D.int)):=by
 have hl:=T.len;obtain⟨b1,b3,h⟩:=q4r T hw w 0 i w [] none (by omega) hi (fun j _=>t7 _) (q9g T) (by simp only [ny];omega);rw [show((0:Nat):Int)=0 from rfl,g0c] at h;have r:iR1 (qc (qg wm (qc (eV 0) qf)) qf) [some (.fz (abD ab)),some (.fz (.int (i:Int))),some (.ow []),none]=some (qz 0 w):=by
  rw [q2p _ _ (w:Int) (by simp! [hl]) (by omega) (by omega),uy]
 have e:D.lst ((st w ab i).map D.int)=.lst ((ch ab w (ab[i]?).join).map fun j:Nat=>.int (j:Int)):=by unfold st;simp
 have t0:([]:List D).length<=lim:=by decide
 rw [e]
 (refine qy ?_;simp! [wx,t0,xg,r,h])
theorem qbk(x0 x1:Option B): ∀(xs:List Int) (b2 b3:Option B),∃b2' b3',runFor (wk 2 (ji (bN 2) (ji (bN 3) wj))) yu (xx (xs.map D.int) (xs.map D.int)) [x0,x1,b2,b3]=some (.nx,[x0,x1,b2',b3'])
 | [],b2,b3=>⟨b2,b3,rfl⟩
 | x :: xs,b2,b3=>by
  obtain⟨b2',b3',ih⟩:=qbk x0 x1 xs (some (.fz (.int x))) (some (.fz (.int x)));refine⟨b2',b3',?_⟩;have n:=q15 x x;rw [md rfl] at n;have z:xx ((x :: xs).map D.int) ((x :: xs).map D.int)=.tup [.int x,.int x] :: xx (xs.map D.int) (xs.map D.int):=rfl;rw [z,j8 (ρ1:=[x0,x1,some (.fz (.int x)),some (.fz (.int x))]) rfl (show yu [x0,x1,some (.fz (.int x)),some (.fz (.int x))]=some (.nx,[x0,x1,some (.fz (.int x)),some (.fz (.int x))]) by simp! [yu,n]),ih]
theorem qbl(xs:List Int): wb [TI xs,.lst (xs.map D.int)]=some (.bl true):=by
 obtain⟨b2,b3,h⟩:=qbk (some (.fz (TI xs))) (some (.fz (.lst (xs.map D.int)))) xs none none;have n:=q15 (xs.length:Int) (xs.length:Int);rw [md rfl] at n
 (refine qy ?_;simp! [q0k,n,qhx,xg,h])
def ov(w:Nat)(ab:List (Option Nat))(s:List Int): List Int:=s.flatMap fun i=>st w ab i.toNat
theorem qng(w:Nat)(ab:List (Option Nat))(i:Nat): (st w ab i).length<=w:=by
 unfold st;rw [mj];exact qgr _ _ _
theorem q8u{w:Nat}{ab:List (Option Nat)}(T:Tree w ab)(hw:w<=12)(x1:Option B): ∀(s:List Int) (acc:List Int) (b3:Option B),In w s->acc.length+s.length*12<=10000->∃b3',
  runFor (bN 3) yc (s.map D.int) [some (.fz (abD ab)),x1,some (.fz (.lst (acc.map D.int))),b3]=some (.nx,[some (.fz (abD ab)),x1,some (.fz (.lst ((acc++ov w ab s).map D.int))),b3'])
 | [],acc,b3,_,_=>⟨b3,by simp [runFor,ov]⟩
 | i :: s,acc,b3,hs,hl=>by
  obtain⟨i0,i1⟩:=hs i gv;have oe:=qdc T hw (i:=i.toNat) (by omega);rw [show((i.toNat:Nat):Int)=i by omega] at oe;have sl:=qng w ab i.toNat;rw [ml] at hl;obtain⟨b3',ih⟩:=q8u T hw x1 s (acc++st w ab i.toNat) (some (.fz (.int i))) (fun x hx=>hs x (m5 _ hx)) (by rw [m8];omega);refine⟨b3',?_⟩;have p:=qgd (acc.map D.int) ((st w ab i.toNat).map D.int) (by rw [mj,mj];omega);have body:yc [some (.fz (abD ab)),x1,some (.fz (.lst (acc.map D.int))),some (.fz (.int i))]=some (.nx,[some (.fz (abD ab)),x1,some (.fz (.lst ((acc++st w ab i.toNat).map D.int))),some (.fz (.int i))]):=by
   rw [g0b];simp! [yc,oe,p]
  have e0:bN 3 (.int i) [some (.fz (abD ab)),x1,some (.fz (.lst (acc.map D.int))),b3]=some [some (.fz (abD ab)),x1,some (.fz (.lst (acc.map D.int))),some (.fz (.int i))]:=rfl;rw [gx,j8 e0 body,ih];simp [ov]
theorem qix(x:Int)(b:List Int): oIn true (.int x) (.lst (b.map D.int))=some (.bl (!decide (x∈b))):=by
 show(if(flat (.int x)&&(b.map D.int).all flat)=true then some (D.bl (if true=true then !inF (.int x) (b.map D.int) else inF (.int x) (b.map D.int))) else none)=_;rw [q8p,q80];rfl
theorem qcb{w:Nat}{ab:List (Option Nat)}(T:Tree w ab)(hw:w<=12)(s:List Int)(hs:In w s)(hl:s.length<=100): wz [abD ab,TI s]=some (.lst ((s.filter fun x=> !decide (x∈zd (kp w ab s))).map D.int)):=by
 obtain⟨b3,h⟩:=q8u T hw (some (.fz (TI s))) s [] none hs (by simp only [ny];omega);rw [g03,g0c] at h;have c:=qes (c:=xa (oIn true) (eV 0) (eV 1)) (ρ :=[some (.fz (.lst ((ov w ab s).map D.int)))]) (fun x=> !decide (x∈ov w ab s)) s fun x _=>by
  have o:=qix x (ov w ab s);simp! [o]
 have e:(s.filter fun x=> !decide (x∈ov w ab s))=s.filter fun x=> !decide (x∈zd (kp w ab s)):=by
  apply g1l;intro x hx;have hx2:=hs x hx
  congr 1
  apply g2y.mpr;rw [nset_mem];unfold ov kp;rw [List.mem_flatMap,List.any_eq_true]
  constructor
  ·rintro⟨i,h1,h2⟩
   exact⟨by omega,i,h1,md h2⟩
  ·rintro⟨_,i,h1,h2⟩
   exact⟨i,h1,uz h2⟩
 rw [e] at c;have hl':s.length<=lim:=by show _<=1000000;omega
 have t0:([]:List D).length<=lim:=by decide
 (refine qy ?_;simp! [wy,t0,xg,h,zc,hl',c])
theorem qgu{w:Nat}{ab:List (Option Nat)}(T:Tree w ab){s:List Int}(hs:In w s): (s.filter fun x=> !decide (x∈zd (kp w ab s))).filter (fun x=> !decide (x∈zd (kp w ab (s.filter fun x=> !decide (x∈zd (kp w ab s))))))=s.filter fun x=> !decide (x∈zd (kp w ab s)):=by
 rw [List.filter_eq_self];intro x hx;have h1:=(uj.mp hx).2;have h1':x∉zd (kp w ab s):=by simpa using h1
 have:x∉zd (kp w ab (s.filter fun x=> !decide (x∈zd (kp w ab s)))):=fun z=>by
  obtain⟨z1,z2⟩:=nset_mem.mp z;apply h1';refine nset_mem.mpr ⟨z1,?_⟩;unfold kp at z2 ⊢;rw [List.any_eq_true] at z2 ⊢;obtain⟨i,hi,hd⟩:=z2;exact⟨i,(uj.mp hi).1,hd⟩
 simpa using this
end My
open PySem PyProof.Rows L2 DL
namespace My
open PySem PyProof.Rows L2 DL
def tb(w:Nat)(k:Nat): D->Bool
 | .non=>true
 | d=>xk ((k:Int)+1) ((w:Int)-1) d
def tbs(w:Nat): Nat->List D->List Bool
 | _,[]=>[]
 | k,d :: ds=>tb w k d :: tbs w (k+1) ds
theorem qnh(d:D)(h:d ≠ .non): oIs false d .non=some (.bl false):=by
 cases d <;> first|rfl|exact absurd rfl h
theorem qni{w k:Nat}{d:D}(h:d ≠ .non): tb w k d=xk ((k:Int)+1) ((w:Int)-1) d:=by
 cases d <;> first|rfl|exact absurd rfl h
theorem qbm(w:Nat): ∀(ds:List D) (k:Nat),z8 (wk 2 (ji (bN 0) (ji (bN 1) wj))) zw (eOr (eOp (oIs false) (eV 1) (eC .non)) (qg (qp 3 [] v8) (qc (eV 1) (qc (eOp zm (eV 0) (eC (.int 1))) (qc (eOp oSub (eV 2) (eC (.int 1))) qf))))) [none,none,some (.fz (.int (w:Int)))] (xx (qz (k:Int) ds.length) ds)=some ((tbs w k ds).map D.bl)
 | [],k=>rfl
 | d :: ds,k=>by
  have ih:=qbm w ds (k+1);rw [show((k+1:Nat):Int)=(k:Int)+1 by omega] at ih;have z:xx (qz (k:Int) (d :: ds).length) (d :: ds)=.tup [.int (k:Int),d] :: xx (qz ((k:Int)+1) ds.length) ds:=by
   rw [ml,jv];rfl
  rw [z,tbs]
  by_cases hd:d=.non
  ·subst hd
   have is_pn:oIs false .non .non=some (.bl true):=rfl;simp! [z8,zw,ih,is_pn]
   rfl
  ·have i1:=qnh d hd
   have wi:=q4q ((k:Int)+1) ((w:Int)-1) d;rw [<- qni hd] at wi;simp! [z8,zw,ih,i1,wi]
theorem xp{w:Nat}{d:D}(h:z0 .tuple d=false): zg [d,.int (w:Int)]=some (.bl false):=by
 (refine qy ?_;simp! [vt,h])
theorem q1x{w:Nat}{ds:List D}(h:ds.length≠w): zg [.tup ds,.int (w:Int)]=some (.bl false):=by
 have n:q27 (.int (ds.length:Int)) (.int (w:Int))=some (.bl true):=by rw [q15,m3 (by omega)];rfl
 (refine qy ?_;simp! [vt,n])
theorem qdd{w:Nat}{v:D}{suf:List D}: ∀(pre:List D) (k:Nat),tb w (k+pre.length) v=false->(tbs w k (pre++v :: suf)).all id=false
 | [],k,h=>by
  rw [ny,g3n] at h;show(tb w k v&&_)=false;rw [h,pk]
 | p :: pre,k,h=>by
  show(tb w k p&&(tbs w (k+1) (pre++v :: suf)).all id)=false;rw [qdd pre (k+1) (by rw [ml] at h;rw [show k+1+pre.length=k+(pre.length+1) by omega];exact h),ua]
theorem q5i{w:Nat}(hw:w<=12){pre suf:List D}{v:D}(hl:(pre++v :: suf).length=w)(h:tb w pre.length v=false): zg [.tup (pre++v :: suf),.int (w:Int)]=some (.bl false):=by
 have c:=qbm w (pre++v :: suf) 0;have a:=q6r (tbs w 0 (pre++v :: suf));rw [qdd pre 0 (by rw [Nat.zero_add];exact h)] at a;rw [show((0:Nat):Int)=0 from rfl] at c;have n:q27 (.int ((pre++v :: suf).length:Int)) (.int (w:Int))=some (.bl false):=by rw [q15,md (by rw [hl])];rfl
 have hz:(xx (qz 0 (pre++v :: suf).length) (pre++v :: suf)).length<=lim:=by
  unfold xx;rw [g0z,q6t,hl];show _<=1000000;omega
 generalize pre++v :: suf=L at c a n hz ⊢
 (refine qy ?_;simp! [vt,n,zc,q9e,q20,hz,c,a])
theorem q4s{w:Nat}{rs:List Run}{d:D}(h:zg [d,.int (w:Int)]=some (.bl false)): x_lifted [zp w rs,d]=some ("NoTree" : Str):=by
 unfold x_lifted q08 q1h;simp! [q46,xIf,qau,q2n,h,g0p]
theorem qcc{w:Nat}{rs:List Run}{d e:D}(h:zg [d,.int (w:Int)]=some (.bl false)): x_often_kinds [zp w rs,d,e]=some ("NoTree" : Str):=by
 have x:=q4s (rs:=rs) h;have o:isO "Growing" (.obj "Growing")=true:=by decide
 unfold x_often_kinds xn q1h;simp! [q46,qea,wo,o,x,g0p]
theorem qcd{w:Nat}{rs:List Run}{d:D}(h:zg [d,.int (w:Int)]=some (.bl false))(b:Bool): zr [zp w rs,d,.bl b]=some (.bl true):=by
 have x1:=q4s (rs:=rs) h;have x2:=qcc (rs:=rs) (e:=.int 10000000000000) h;have al:km [.exc "NoTree"]=some (.bl true):=by
  have i1:∀c:Bool,isX "NoTree" c (.exc "NoTree")=some (.bl c):=fun c=>by show(if("NoTree" : Str)="NoTree" then some (D.bl c) else none)=_;rw [gz rfl]
  (refine qy ?_;simp! [kl,i1])
 have isn:oIs true (.exc "NoTree") .non=some (.bl true):=rfl;have hm:("NoTree" : Str)∈(["NoTree"]:List Str):=ug.mpr rfl;have lk:List.lookup ("NoTree" : Str) [(("NoTree" : Str),sAs 4 "NoTree" (zh 3 (eV 4)))]=some (sAs 4 "NoTree" (zh 3 (eV 4))):=by rw [mn];simp
 have l0:∀s:Str,([s]:List Str).length=1:=fun _=>rfl;cases b with
 | true=>(refine qy ?_;simp! [j9,q3a,xIf,wo,x2,hm,qin,lk,Option.getD_some,sAs,isn,al])
 | false=>(refine qy ?_;simp! [j9,q3a,xIf,wo,x1,hm,qin,lk,Option.getD_some,sAs,isn,al])
theorem q3m{w:Nat}{ab:List (Option Nat)}(T:Tree w ab)(hw:w<=12){rs:List Run}: x_lifted [zp w rs,abD ab]=none:=by
 have h:=q7d T hw;unfold x_lifted q08 q1h;simp! [q46,xIf,q45,q2n,h,g1d]
theorem qbn{w:Nat}{ab:List (Option Nat)}(T:Tree w ab)(hw:w<=12){rs:List Run}{e:D}: x_often_kinds [zp w rs,abD ab,e]=none:=by
 have x:=q3m T hw (rs:=rs);have o:isO "Growing" (.obj "Growing")=true:=by decide
 unfold x_often_kinds xn q1h;simp! [q46,qea,wo,o,x,g1d]
 split <;> rfl
theorem qgv(w:Nat): q2s [.lst [],.int (w:Int)]=some (.lst []):=by
 have t0:([]:List D).length<=lim:=by decide
 have od:q9f [.lst []]=some (.dtt [] []):=by
  show(if([]:List (List Int)).Nodup/\([]:List D).length<=lim then some (D.dtt [] []) else none)=_;rw [gz ⟨List.nodup_nil,t0⟩]
 (refine qy ?_;simp! [q2r,zc,t0,z8,od,xg,runFor])
theorem q8v(m L:Int)(h:m<L)(d:D)(hd:d=.lst [.tup [.tup [],.int m]]\/d=.tup [.tup [.tup [],.int m]]): xu [d,.int L]=some (.tup []):=by
 have t1:([D.tup [.tup [],.int m]]:List D).length<=lim:=by show 1<=1000000;decide
 have h':¬L<=m:=by omega
 rcases hd with rfl|rfl
 ·(refine qy ?_;simp! [k6,zc,t1,z8,h'])
 ·(refine qy ?_;simp! [k6,zc,t1,z8,h'])
theorem qev(w:Nat)(m:Int)(b:List Int)(hb:∀x∈b,0<=x/\x<100)(hl:b.length<=1000): q1n [zp w [(m,b)]]=some (.lst [.tup [.int m,.int (mk b)]]):=by
 have me:=q76 b hb hl;have t1:([D.tup [.int m,TI b]]:List D).length<=lim:=by show 1<=1000000;decide
 have t2:([D.int m,D.int (mk b)]:List D).length<=lim:=by show 2<=1000000;decide
 (refine qy ?_;simp! [q1m,zc,t1,z8,zw,me,t2])
theorem qgw(m:Int)(b:List Int): vk [.lst [.tup [.int m,.int (mk b)]],.tup []]=some (.int m):=by
 have me:=q76 [] (fun _ h=>by cases h) (by decide);rw [show TI []=.tup [] from rfl,show mk []=0 from rfl] at me;have bd:oBand (.int (mk b)) (.int 0)=some (.int 0):=by
  show some (D.int (Builtin.bitAnd _ _))=_;rw [qgp,show(0:Int)=((0:Nat):Int) from rfl,qky,Nat.and_zero]
 have t1:([D.tup [.int m,.int (mk b)]]:List D).length<=lim:=by show 1<=1000000;decide
 have a:=q8k [m];rw [show([m]:List Int).map D.int=[.int m] from rfl,show([m]:List Int).sum=m by simp] at a
 (refine qy ?_;simp! [vj,me,zc,t1,z8,bd,a])
theorem qbo{w:Nat}{m:Int}{b:List Int}{L:Int}(h:m<L)(x0:Option B)(b6:Option B): ∀F:Nat,1<F ->
  jd (bT (eV 5)) j6 F [x0,some (.fz (zp w [(m,b)])),some (.fz (.int L)),some (.fz (.lst [.tup [.int m,.int (mk b)]])),some (.ow []),some (.fz (.lst [.tup []])),b6]=some (.nx,[x0,some (.fz (zp w [(m,b)])),some (.fz (.int L)),some (.fz (.lst [.tup [.int m,.int (mk b)]])),some (.ow [.tup [.tup [],.int m]]),some (.fz (.lst [])),some (.fz (.lst [.tup [.tup [],.int m]]))])
 | 0,h=>by omega
 | 1,h=>by omega
 | F+2,_=>by
  have c:=qgw m b;have t1:([D.tup []]:List D).length<=lim:=by decide
  have t2:([D.tup [],D.int m]:List D).length<=lim:=by show 2<=1000000;decide
  have le:=q8v m L h (.lst [.tup [.tup [],.int m]]) (.inl rfl);have t0:([]:List D).length<=lim:=by decide
  have g:=qgv w;have tx:([]:List D).length+([D.tup [.tup [],.int m]]:List D).length<=lim:=by show 0+1<=1000000;decide
  have body:j6 [x0,some (.fz (zp w [(m,b)])),some (.fz (.int L)),some (.fz (.lst [.tup [.int m,.int (mk b)]])),some (.ow []),some (.fz (.lst [.tup []])),b6]=some (.nx,[x0,some (.fz (zp w [(m,b)])),some (.fz (.int L)),some (.fz (.lst [.tup [.int m,.int (mk b)]])),some (.ow [.tup [.tup [],.int m]]),some (.fz (.lst [])),some (.fz (.lst [.tup [.tup [],.int m]]))]):=by
   simp! [j6,zc,t1,z8,zw,c,t2,qi6,q22,q23,tx,le,t0,g]
  have c1:bT (eV 5) [x0,some (.fz (zp w [(m,b)])),some (.fz (.int L)),some (.fz (.lst [.tup [.int m,.int (mk b)]])),some (.ow []),some (.fz (.lst [.tup []])),b6]=some true:=rfl;have c2:bT (eV 5) [x0,some (.fz (zp w [(m,b)])),some (.fz (.int L)),some (.fz (.lst [.tup [.int m,.int (mk b)]])),some (.ow [.tup [.tup [],.int m]]),some (.fz (.lst [])),some (.fz (.lst [.tup [.tup [],.int m]]))]=some false:=rfl;simp only [jd,c1,body,c2,mf,pb,gu,g02]
theorem qew(w:Nat)(m:Int)(b:List Int)(hb:∀x∈b,0<=x/\x<100)(hl:b.length<=1000){L:Int}(h:m<L): zo [.obj "Growing",zp w [(m,b)],.int L]=some (.tup []):=by
 have mo:=qev w m b hb hl;have lp:=qbo (w:=w) (b:=b) h (some (.fz (.obj "Growing"))) none 100000 (by decide);have t0:([]:List D).length<=lim:=by decide
 have t1:([D.tup []]:List D).length<=lim:=by decide
 have ct:jt [.obj "Growing",zp w [(m,b)],.int L]=some (.tup [.tup [.tup [],.int m]]):=by
  (refine qy ?_;simp! [js,mo,t0,t1,lp,qpp])
 have le:=q8v m L h (.tup [.tup [.tup [],.int m]]) (.inr rfl);have o:isO "Growing" (.obj "Growing")=true:=by decide
 (refine qy ?_;simp! [xv,q7q,o,ct,le])
theorem qbp{w:Nat}{ab:List (Option Nat)}(T:Tree w ab)(hw:w<=12){m:Int}(hm:m<100){b:List Int}(hb:In w b)(c:Bool): zr [zp w [(m,b)],abD ab,.bl c]=some (.bl false):=by
 have x1:=q3m T hw (rs:=[(m,b)]);have x2:=qbn T hw (rs:=[(m,b)]) (e:=.int 10000000000000);have lf:=qgt T hw [(m,b)] (by show 1<=1000;decide) (fun r hr=>by rw [ug.mp hr];exact hb);rw [show [(m,b)].map (lr w ab)=[(m,lb w ab b)] from rfl] at lf;have on:=qew w m (lb w ab b) (fun x hx=>by have:=(nset_mem.mp hx).1;omega) (by
  unfold lb zd;exact my (g1s _ _) (by simp)) (L:=10000000000000) (by omega)
 have o:isO "Growing" (.obj "Growing")=true:=by decide
 have t0:([]:List D).length<=lim:=by decide
 have ok:yb [zp w [(m,b)],abD ab,.int 10000000000000]=some (.tup []):=by
  (refine qy ?_;simp! [ya,q7q,o,lf,on,zc,t0,z8])
 have isn:oIs true .non .non=some (.bl false):=rfl;cases c with
 | true=>(refine qy ?_;simp! [j9,q3a,xIf,wo,x2,ok,isn])
 | false=>(refine qy ?_;simp! [j9,q3a,xIf,wo,x1,lf,isn])
end My
open PySem PyProof.Rows L2 DL
namespace My
open PySem PyProof.Rows L2 DL
def Bad(w:Nat)(d:D): Prop:=zg [d,.int (w:Int)]=some (.bl false)
theorem qiy(ds:List D)(h:0<ds.length): (DL.cutD ds none (some (-1))).length=ds.length-1:=by
 have e:HT.sIx ds.length ds.length (some (-1))=ds.length-1:=by
  show(if(-1:Int)<0 then((-1:Int)+(ds.length:Int)).toNat else min (-1:Int).toNat ds.length)=_;rw [gz (by decide)];omega
 unfold DL.cutD;rw [e,HT.sIx_none,g27,p8];omega
theorem ql1{w:Nat}(hw:w<=12){ds:List D}(hl:ds.length=w){k:Nat}(hk:k<w){v:D}(h:tb w k v=false): Bad w (.tup (ds.take k++[v]++ds.drop (k+1))):=by
 have e:ds.take k++[v]++ds.drop (k+1)=ds.take k++v :: ds.drop (k+1):=by rw [g00];rfl
 have l1:(ds.take k).length=k:=by rw [p8];omega
 unfold Bad;rw [e];refine q5i hw ?_ (by rw [l1];exact h);rw [m8,ml,l1,g0s];omega
theorem q7e{w:Nat}{ab:List (Option Nat)}(T:Tree w ab)(hw:w<=12){k:Nat}(hk:k<w)(x1 x2 x3:Option B): ∀(vs:List D) (acc:List D) (b6:Option B),acc.length+vs.length<=100->∃b6',
  runFor (bN 6) jr vs [some (.fz (abD ab)),x1,x2,x3,some (.ow acc),some (.fz (.int (k:Int))),b6]=some (.nx,[some (.fz (abD ab)),x1,x2,x3,some (.ow (acc++vs.map fun v=>.tup ((ab.map upD).take k++[v]++(ab.map upD).drop (k+1)))),some (.fz (.int (k:Int))),b6'])
 | [],acc,b6,_=>⟨b6,by simp [runFor]⟩
 | v :: vs,acc,b6,hl=>by
  rw [ml] at hl;obtain⟨b6',ih⟩:=q7e T hw hk x1 x2 x3 vs (acc++[.tup ((ab.map upD).take k++[v]++(ab.map upD).drop (k+1))]) (some (.fz v)) (by simp only [m8,ml,ny];omega);refine⟨b6',?_⟩;have s1:oSl (abD ab) none (some (k:Int))=some (.tup ((ab.map upD).take k)):=by
   show some (D.tup (DL.cutD (ab.map upD) none (some (k:Int))))=_;rw [qbx (α :=D)]
  have s2:oSl (abD ab) (some ((k:Int)+1)) none=some (.tup ((ab.map upD).drop (k+1))):=by
   show some (D.tup (DL.cutD (ab.map upD) (some ((k:Int)+1)) none))=_;rw [show(k:Int)+1=((k+1:Nat):Int) by omega,qis (α :=D)]
  have la1:((ab.map upD).take k).length<=12:=by rw [p8,mj,T.len];omega
  have la2:((ab.map upD).drop (k+1)).length<=12:=by rw [g0s,mj,T.len];omega
  have p1:=q48 ((ab.map upD).take k) [v] (by simp only [ml,ny];omega);have p2:=q48 ((ab.map upD).take k++[v]) ((ab.map upD).drop (k+1)) (by simp only [m8,ml,ny];omega);have t1:([v]:List D).length<=lim:=by show 1<=1000000;decide
  have la:acc.length<lim:=by show _<1000000;omega
  have body:jr [some (.fz (abD ab)),x1,x2,x3,some (.ow acc),some (.fz (.int (k:Int))),some (.fz v)]=some (.nx,[some (.fz (abD ab)),x1,x2,x3,some (.ow (acc++[.tup ((ab.map upD).take k++[v]++(ab.map upD).drop (k+1))])),some (.fz (.int (k:Int))),some (.fz v)]):=by
   simp! [jr,s1,s2,t1,p1,p2,ky,q22,q23,la]
  have e0:bN 6 v [some (.fz (abD ab)),x1,x2,x3,some (.ow acc),some (.fz (.int (k:Int))),b6]=some [some (.fz (abD ab)),x1,x2,x3,some (.ow acc),some (.fz (.int (k:Int))),some (.fz v)]:=rfl;rw [j8 e0 body,ih];simp
theorem qce{w:Nat}{ab:List (Option Nat)}(T:Tree w ab)(hw:w<=12)(m:Int)(m0:0<=m): ∃bad:List D,jz [abD ab,.int m]=some (.lst bad)/\bad.length<=100/\∀d∈bad,Bad w d:=by
 have hl:=T.len;have hll:(ab.map upD).length=w:=by rw [mj,hl]
 have f0:=tu (m / 64) (show(1000000000:Int)≠0 by decide);have p1:=q48 (ab.map upD) [D.non] (by rw [hll];simp only [ml,ny];omega);have t1:∀a:D,([a]:List D).length<=lim:=fun _=>by show 1<=1000000;decide
 have t8:∀a b c d e f g h:D,([a,b,c,d,e,f,g,h]:List D).length<=lim:=fun _ _ _ _ _ _ _ _=>by show 8<=1000000;decide
 have t10:∀a b c d e f g h i j:D,([a,b,c,d,e,f,g,h,i,j]:List D).length<=lim:=fun _ _ _ _ _ _ _ _ _ _=>by show 10<=1000000;decide
 have base:∀d∈([.lst (ab.map upD),.tup (ab.map upD++[.non]),.non,.int 3,.str "0",.dct [] [],.lst [abD ab],.tup [abD ab]]:List D),Bad w d:=fun d hd=>by
  simp only [gm,g0w,p9] at hd;rcases hd with rfl|rfl|rfl|rfl|rfl|rfl|rfl|rfl
  ·exact xp rfl
  ·exact q1x (by rw [m8,hll];simp)
  ·exact xp rfl
  ·exact xp rfl
  ·exact xp rfl
  ·exact xp rfl
  ·exact xp rfl
  ·by_cases h1:w=1
   ·have:=q5i (w:=w) hw (pre:=[]) (suf:=[]) (v:=abD ab) (by rw [h1];rfl) rfl
    exact this
   ·exact q1x (by show 1≠w;omega)
 by_cases hw0:w=0
 ·have z:¬(0:Int)<(ab.length:Int):=by omega
  refine⟨_,by(refine qy ?_;simp! [jy,p1,t1,t8,qdy,z]),by show 8<=100;decide,base⟩
 ·have hp:0<w:=by omega
  obtain⟨k,hk,ek⟩:=qkv (x:=m) hp;have z:(0:Int)<(ab.length:Int):=by omega
  have ek':oMod (.int m) (.int (ab.length:Int))=some (.int (k:Int)):=by rw [hl];exact ek
  have sl:oSl (abD ab) none (some (-1))=some (.tup (DL.cutD (ab.map upD) none (some (-1)))):=rfl;have lg:((ab.length:Int)-1).natAbs.log2<1920:=by
   by_cases h1:((ab.length:Int)-1).natAbs=0
   ·rw [h1];decide
   ·have:((ab.length:Int)-1).natAbs<2 ^ 1920:=gs (show((ab.length:Int)-1).natAbs<2 ^ 4 by omega) (Nat.pow_le_pow_right (by decide) (by decide))
    exact(Nat.log2_lt h1).mpr this
  have os:qeb [.int ((ab.length:Int)-1)]=some (.str (toString ((ab.length:Int)-1))):=by
   show(if((ab.length:Int)-1).natAbs.log2<1920 then some (D.str (toString ((ab.length:Int)-1))) else none)=_;rw [gz lg]
  obtain⟨b6,lp⟩:=q7e T hw hk (some (.fz (.int m))) (some (.fz (.int (ab.length:Int)))) (some (.fz (.int (m / 64%1000000000))))
   [.int (k:Int),.int ((k:Int)-1),.int (ab.length:Int),.int ((ab.length:Int)+m / 64%1000000000),.int (-1-m / 64%1000000000),.bl true,.bl false,.str (toString ((ab.length:Int)-1)),.tup [.int ((ab.length:Int)-1)],.lst [.non]]
   ([.lst (ab.map upD),.tup (ab.map upD++[.non]),.non,.int 3,.str "0",.dct [] [],.lst [abD ab],.tup [abD ab]]++[.tup (DL.cutD (ab.map upD) none (some (-1)))]) none (by show 9+10<=100;decide)
  have la:([.lst (ab.map upD),.tup (ab.map upD++[.non]),.non,.int 3,.str "0",.dct [] [],.lst [abD ab],.tup [abD ab]]:List D).length<lim:=by show 8<1000000;decide
  generalize hB:([.lst (ab.map upD),.tup (ab.map upD++[.non]),.non,.int 3,.str "0",.dct [] [],.lst [abD ab],.tup [abD ab]]:List D)=B8 at lp la base;have la2:B8.length<=lim:=g1t la;have q:jz [abD ab,.int m]=some (.lst (B8++[.tup (DL.cutD (ab.map upD) none (some (-1)))]++[D.int (k:Int),.int ((k:Int)-1),.int (ab.length:Int),.int ((ab.length:Int)+m / 64%1000000000),.int (-1-m / 64%1000000000),.bl true,.bl false,.str (toString ((ab.length:Int)-1)),.tup [.int ((ab.length:Int)-1)],.lst [.non]].map fun v=>.tup ((ab.map upD).take k++[v]++(ab.map upD).drop (k+1)))):=by
   (refine qy ?_;simp! [jy,p1,t1,t8,qdy,z,ek',hB,la2,sl,ky,q22,q23,la,os,t10,xg,lp])
  refine⟨_,q,?_,fun d hd=>?_⟩
  ·rw [m8,m8, <- hB];show 8+1+10<=100;decide
  ·rcases p5.mp hd with hd|hd
   ·rcases p5.mp hd with hd|hd
    ·exact base d hd
    ·rw [ug.mp hd]
     exact q1x (by rw [qiy _ (by rw [hll];omega),hll];omega)
   ·obtain⟨v,hv,rfl⟩:=ni.mp hd
    refine ql1 hw hll hk ?_;simp only [gm,g0w,p9] at hv;rcases hv with rfl|rfl|rfl|rfl|rfl|rfl|rfl|rfl|rfl|rfl
    ·simp only [tb,xk,m3 (show ¬(k:Int)+1<=(k:Int) by omega),pk,ua]
    ·simp only [tb,xk,m3 (show ¬(k:Int)+1<=(k:Int)-1 by omega),pk,ua]
    ·simp only [tb,xk,m3 (show ¬(ab.length:Int)<=(w:Int)-1 by omega),ua]
    ·simp only [tb,xk,m3 (show ¬(ab.length:Int)+m / 64%1000000000<=(w:Int)-1 by omega),ua]
    ·simp only [tb,xk,m3 (show ¬(0:Int) <= -1-m / 64%1000000000 by omega),pk]
    ·rfl
    ·rfl
    ·rfl
    ·rfl
    ·rfl
end My
open PySem PyProof.Rows L2 DL
namespace My
open PySem PyProof.Rows L2 DL
theorem q63:∀(n:Nat) (m k x:Int),x∈zu n m k->k<=x/\x<k+n
 | 0,_,_,_,h=>by cases h
 | n+1,m,k,x,h=>by
  unfold zu at h
  split at h
  ·rcases gm.mp h with rfl|h
   ·omega
   ·have:=q63 n _ _ _ h;omega
  ·have:=q63 n _ _ _ h;omega
theorem q64:∀(n:Nat) (m k:Int),(zu n m k).length<=n
 | 0,_,_=>gp _
 | n+1,m,k=>by
  unfold zu
  split
  ·exact Nat.succ_le_succ (q64 n _ _)
  ·exact Nat.le_succ_of_le (q64 n _ _)
theorem qde(w:Nat)(m:Int): In w (zu w m 0):=fun x hx=>by
 have:=q63 w m 0 x hx;omega
theorem q8w{w:Nat}{ab:List (Option Nat)}(T:Tree w ab)(hw:w<=12)(x0 x1:Option B)(t:Rho): ∀(n k:Nat) (b3:Option B),k+n=w->∃b3',
  runFor (bN 3) q1t (qz (k:Int) n) (x0 :: x1 :: some (.fz (abD ab)) :: b3 :: t)=some (.nx,x0 :: x1 :: some (.fz (abD ab)) :: b3' :: t)
 | 0,k,b3,_=>⟨b3,rfl⟩
 | n+1,k,b3,hk=>by
  obtain⟨b3',ih⟩:=q8w T hw x0 x1 t n (k+1) (some (.fz (.int (k:Int)))) (by omega);refine⟨b3',?_⟩;have s:=q5h T hw (i:=k) (by omega);have o:=qdc T hw (i:=k) (by omega);have r:=qbl (st w ab k);have body:q1t (x0 :: x1 :: some (.fz (abD ab)) :: some (.fz (.int (k:Int))) :: t)=some (.nx,x0 :: x1 :: some (.fz (abD ab)) :: some (.fz (.int (k:Int))) :: t):=by
   simp! [q1t,s,o,r]
  have e0:bN 3 (.int (k:Int)) (x0 :: x1 :: some (.fz (abD ab)) :: b3 :: t)=some (x0 :: x1 :: some (.fz (abD ab)) :: some (.fz (.int (k:Int))) :: t):=rfl;rw [jv,j8 e0 body,show(k:Int)+1=((k+1:Nat):Int) by omega,ih]
theorem q8x:∀ns:List Int,vx (ns.map D.int) (ns.map D.int)=true
 | []=>rfl
 | n :: ns=>by simp only [gx,vx,q8x ns,g3l];rfl
theorem qbq:∀ns:List Int,eqL (ns.map D.int) (ns.map D.int)=true
 | []=>rfl
 | n :: ns=>by
  simp only [gx,eqL,qbq ns,g3l];show(n==n)=true;simp
theorem qot(ns:List Int): qi4 (TI ns) (TI ns)=some (.bl false):=by
 show(none:Option D).or (if(vx (ns.map D.int) (ns.map D.int)&&decide (yl (ns.map D.int)<=60))=true then some (D.bl (!eqL (ns.map D.int) (ns.map D.int))) else none)=_;rw [q8s,q8x,qbq]
 rfl
theorem q8y(ns:List Int){w:Nat}{ab:List (Option Nat)}(T:Tree w ab)(hw:w<=12)(x3:Option B)(t:Rho): ∀(n k:Nat) (b4 b5 b6:Option B),k+n<=100->∃b4' b5' b6',
  runFor (bN 4) q1u (qz (k:Int) n) (some (.fz (.lst (ns.map .int))) :: some (.fz (.int (w:Int))) :: some (.fz (abD ab)) :: x3 :: b4 :: b5 :: b6 :: t)=some (.nx,some (.fz (.lst (ns.map .int))) :: some (.fz (.int (w:Int))) :: some (.fz (abD ab)) :: x3 :: b4' :: b5' :: b6' :: t)
 | 0,k,b4,b5,b6,_=>⟨b4,b5,b6,rfl⟩
 | n+1,k,b4,b5,b6,hk=>by
  obtain⟨m,hm,_⟩:=q0r ns (2+(k:Int)) (by omega) (by omega);have se:=q77 m w (by omega);have hs:=qde w m;have sl:(zu w m 0).length<=12:=my (q64 w m 0) hw;generalize zu w m 0=s at se hs sl;have le:=qdb T hw s (by omega) hs;have lle:=qcb T hw s hs (by omega);have hp:In w (s.filter fun x=> !decide (x∈zd (kp w ab s))):=fun x hx=>hs x (uj.mp hx).1;have le2:=qdb T hw (s.filter fun x=> !decide (x∈zd (kp w ab s))) (my (g1s _ _) (by omega)) hp;rw [qgu T hs] at le2;generalize (s.filter fun x=> !decide (x∈zd (kp w ab s)))=p at le lle le2;have r:=qbl p;have ne:=qot p;obtain⟨b4',b5',b6',ih⟩:=q8y ns T hw x3 t n (k+1) (some (.fz (.int (k:Int)))) (some (.fz (TI s))) (some (.fz (TI p))) (by omega);refine⟨b4',b5',b6',?_⟩;have body:q1u (some (.fz (.lst (ns.map .int))) :: some (.fz (.int (w:Int))) :: some (.fz (abD ab)) :: x3 :: some (.fz (.int (k:Int))) :: b5 :: b6 :: t)=some (.nx,some (.fz (.lst (ns.map .int))) :: some (.fz (.int (w:Int))) :: some (.fz (abD ab)) :: x3 :: some (.fz (.int (k:Int))) :: some (.fz (TI s)) :: some (.fz (TI p)) :: t):=by
   simp! [q1u,hm,se,le,lle,r,le2,ne]
  have e0:bN 4 (.int (k:Int)) (some (.fz (.lst (ns.map .int))) :: some (.fz (.int (w:Int))) :: some (.fz (abD ab)) :: x3 :: b4 :: b5 :: b6 :: t)=some (some (.fz (.lst (ns.map .int))) :: some (.fz (.int (w:Int))) :: some (.fz (abD ab)) :: x3 :: some (.fz (.int (k:Int))) :: b5 :: b6 :: t):=rfl;rw [jv,j8 e0 body,show(k:Int)+1=((k+1:Nat):Int) by omega,ih]
theorem q8z{w:Nat}{rs:List Run}(x0 x1 x2 x3 x4 x5 x6 x7:Option B): ∀(ds:List D) (b9:Option B),(∀d∈ds,Bad w d)->∃b9',
  runFor (bN 9) q1v ds [x0,x1,x2,x3,x4,x5,x6,x7,some (.fz (zp w rs)),b9]=some (.nx,[x0,x1,x2,x3,x4,x5,x6,x7,some (.fz (zp w rs)),b9'])
 | [],b9,_=>⟨b9,rfl⟩
 | d :: ds,b9,h=>by
  obtain⟨b9',ih⟩:=q8z (rs:=rs) x0 x1 x2 x3 x4 x5 x6 x7 ds (some (.fz d)) fun e he=>h e (m5 _ he);refine⟨b9',?_⟩;have r:=fun c=>qcd (rs:=rs) (h d gv) c;have body:q1v [x0,x1,x2,x3,x4,x5,x6,x7,some (.fz (zp w rs)),some (.fz d)]=some (.nx,[x0,x1,x2,x3,x4,x5,x6,x7,some (.fz (zp w rs)),some (.fz d)]):=by
   simp! [q1v,r]
  have e0:bN 9 d [x0,x1,x2,x3,x4,x5,x6,x7,some (.fz (zp w rs)),b9]=some [x0,x1,x2,x3,x4,x5,x6,x7,some (.fz (zp w rs)),some (.fz d)]:=rfl;rw [j8 e0 body,ih]
theorem qiz(ns:List Int)(hl:ns.length<=63): qeq [.lst (ns.map .int)]=some (.bl true):=by
 obtain⟨c0,hc0⟩:=q2f ns 0 (by decide);have h1:=tu (c0 / 2) (show(13:Int)≠0 by decide);have h2:=ui (c0 / 2) (show(0:Int)<13 by decide);obtain⟨w,hw,w12⟩:∃w:Nat,c0 / 2%13=(w:Int)/\w<=12:=⟨(c0 / 2%13).toNat,by omega,by omega⟩
 obtain⟨m1,hm1,_⟩:=q0r ns 1 (by decide) (by decide);obtain⟨ab,T,hab⟩:=qbf m1 w w12;obtain⟨b3,lp1⟩:=q8w T w12 (some (.fz (.lst (ns.map .int)))) (some (.fz (.int (w:Int)))) [none,none,none,none,none,none] w 0 none (by omega);rw [show((0:Nat):Int)=0 from rfl] at lp1;have r1:iR1 (qc (eV 1) qf) [some (.fz (.lst (ns.map .int))),some (.fz (.int (w:Int))),some (.fz (abD ab)),none,none,none,none,none,none,none]=some (qz 0 w):=q2p _ _ (w:Int) rfl (by omega) (by omega);obtain⟨n,hn,hn10⟩:∃n:Nat,(if(if(ns.length:Int)-2>3 then(ns.length:Int)-2 else 3)<10 then(if(ns.length:Int)-2>3 then(ns.length:Int)-2 else 3) else 10)=(n:Int)/\n<=10:=by
  refine⟨((if(if(ns.length:Int)-2>3 then(ns.length:Int)-2 else 3)<10 then(if(ns.length:Int)-2>3 then(ns.length:Int)-2 else 3) else 10)).toNat,?_,?_⟩ <;> (split <;> split <;> omega)
 obtain⟨b4,b5,b6,lp2⟩:=q8y ns T w12 b3 [none,none,none] n 0 none none none (by omega);rw [show((0:Nat):Int)=0 from rfl] at lp2;have hmx:oMax [.int 3,.int ((ns.length:Int)-2)]=some (.int (if(ns.length:Int)-2>3 then(ns.length:Int)-2 else 3)):=rfl;have hmn:oMin [.int 10,.int (if(ns.length:Int)-2>3 then(ns.length:Int)-2 else 3)]=some (.int (n:Int)):=by
  show some (D.int (if(if(ns.length:Int)-2>3 then(ns.length:Int)-2 else 3)<10 then(if(ns.length:Int)-2>3 then(ns.length:Int)-2 else 3) else 10))=_;rw [hn]
 generalize (if(ns.length:Int)-2>3 then(ns.length:Int)-2 else 3)=M at hmx hmn;have r2:iR1 (qc (qg oMin (qc (eC (.int 10)) (qc (qg oMax (qc (eC (.int 3)) (qc (eOp oSub (qg wm (qc (eV 0) qf)) (eC (.int 2))) qf))) qf))) qf) [some (.fz (.lst (ns.map .int))),some (.fz (.int (w:Int))),some (.fz (abD ab)),b3,none,none,none,none,none,none]=some (qz 0 n):=q2p _ _ (n:Int) (by simp! [hmx,hmn]) (by omega) (by omega);obtain⟨m,hm,m0⟩:=q0r ns 12 (by decide) (by decide);have se:=q77 (m / 16) w (by omega);have hs:=qde w (m / 16);generalize zu w (m / 16) 0=s at se hs;obtain⟨bad,hbad,_,hb⟩:=qce T w12 (m / 65536) (Int.ediv_nonneg m0 (by decide));obtain⟨b9,lp3⟩:=q8z (rs:=[(1+m%9,s)]) (some (.fz (.lst (ns.map .int)))) (some (.fz (.int (w:Int)))) (some (.fz (abD ab))) b3 b4 b5 b6 (some (.fz (.int m))) bad none hb;have e9:=ui m (show(0:Int)<9 by decide);have rg:=fun c=>qbp T w12 (m:=1+m%9) (by omega) hs c;have hp:zp w [(1+m%9,s)]=.tup [.int (w:Int),.tup [.tup [.int (1+m%9),TI s]]]:=rfl;rw [hp] at lp3 rg;have t1:∀a:D,([a]:List D).length<=lim:=fun _=>by show 1<=1000000;decide
 have t2:∀a b:D,([a,b]:List D).length<=lim:=fun _ _=>by show 2<=1000000;decide
 (refine qy ?_;simp! [q75,hc0,hw,hm1,hab,xg,r1,lp1,r2,lp2,hm,se,t1,t2,hbad,lp3,rg])
end My
namespace My
open PySem PySem.Spec PyProof.Rows L2 DL
open PySem.W (nsIn fnOf keepIn codeIn mg_of subIn mg_none_of findIn plainGet)
theorem ln1{s:Shared}{fd:FuncData}{ps:List Str}(h:∀a0,BindsTo s fd ⟨[a0],[]⟩ (ps.zip ([a0]++[]))): ∀us:List Value,(us++[]).length=1->BindsTo s fd ⟨us,[]⟩ (ps.zip (us++[]))
 | [a0],_=>h a0
theorem ln2{s:Shared}{fd:FuncData}{ps:List Str}(h:∀a0 a1,BindsTo s fd ⟨[a0,a1],[]⟩ (ps.zip ([a0,a1]++[]))): ∀us:List Value,(us++[]).length=2->BindsTo s fd ⟨us,[]⟩ (ps.zip (us++[]))
 | [a0,a1],_=>h a0 a1
theorem ln3{s:Shared}{fd:FuncData}{ps:List Str}(h:∀a0 a1 a2,BindsTo s fd ⟨[a0,a1,a2],[]⟩ (ps.zip ([a0,a1,a2]++[]))): ∀us:List Value,(us++[]).length=3->BindsTo s fd ⟨us,[]⟩ (ps.zip (us++[]))
 | [a0,a1,a2],_=>h a0 a1 a2
theorem all_mk[Lam]{l:PySem.W.OpenLaw}{w:World}{K:Frag}{h:Heap}{mg:Str->Option Value}{fa:Addr}(X:K.In h)(G:h.Ns mainGlobals mg)(hfa:mg "law" = some (.ref fa))(hm:∀ns:List Int,ns.length<=63->qeq [.lst (ns.map .int)]=some (.bl true))
  {C_Growing:Addr}
  (x_Growing:nsIn K mainGlobals "Growing" = some (some (.ref C_Growing)))
  (mk_Growing:PySem.W.makesIn K C_Growing=true)
  (in_Growing:findIn K (.ref C_Growing) "__init__" = some (some (.builtin "object.__init__")))
  (kp_Growing:keepIn K (.ref C_Growing)=true)
  (pg_Growing:plainGet K C_Growing Str.empty=true)
  (hd_Growing:PySem.W.hasDictIn K C_Growing=true)
  (po_Growing:PySem.W.plainOver K C_Growing=true)
  (sa_Growing:findIn K (.ref C_Growing) "__setattr__" = some (some (.builtin "object.__setattr__")))
  (cg_Growing:plainGet K C_Growing "__class__" = true)
  (cc_Growing:findIn K (.ref C_Growing) "__class__" = some (some (.builtin "object.__class__")))
  (cs_Growing:PySem.W.specialIn K (.builtin "object.__class__") "__get__" = some (some (.builtin "getset_descriptor.__get__")))
  (ct_Growing:PySem.W.takesIn K (.builtin "object.__class__")=some true)
  (cm_Growing:PySem.W.mroIn K C_Growing (.type "object")=some true)
  (ciint_Growing:subIn K (.ref C_Growing) (.type "int")=some false)
  (cibool_Growing:subIn K (.ref C_Growing) (.type "bool")=some false)
  (cituple_Growing:subIn K (.ref C_Growing) (.type "tuple")=some false)
  (cilist_Growing:subIn K (.ref C_Growing) (.type "list")=some false)
  (cistr_Growing:subIn K (.ref C_Growing) (.type "str")=some false)
  (cidict_Growing:subIn K (.ref C_Growing) (.type "dict")=some false)
  {fa_10:Addr} {fd_law_above:FuncData} (x_law_above:nsIn K mainGlobals "_law_above" = some (some (.ref fa_10))) (F_law_above:Fun2 K "_law_above" "_law_above" yf .none fa_10 fd_law_above)
  {fa_14:Addr} {fd_law_mixed:FuncData} (x_law_mixed:nsIn K mainGlobals "_law_mixed" = some (some (.ref fa_14))) (F_law_mixed:Fun2 K "_law_mixed" "_law_mixed" yg .none fa_14 fd_law_mixed)
  {fa_12:Addr} {fd_law_cell:FuncData} (x_law_cell:nsIn K mainGlobals "_law_cell" = some (some (.ref fa_12))) (F_law_cell:Fun2 K "_law_cell" "_law_cell" yw .none fa_12 fd_law_cell)
  {fa_16:Addr} {fd_law_number:FuncData} (x_law_number:nsIn K mainGlobals "_law_number" = some (some (.ref fa_16))) (F_law_number:Fun2 K "_law_number" "_law_number" vh .none fa_16 fd_law_number)
  {fa_15:Addr} {fd_law_no_trees:FuncData} (x_law_no_trees:nsIn K mainGlobals "_law_no_trees" = some (some (.ref fa_15))) (F_law_no_trees:Fun2 K "_law_no_trees" "_law_no_trees" jx .none fa_15 fd_law_no_trees)
  {fa_20:Addr} {fd_law_set:FuncData} (x_law_set:nsIn K mainGlobals "_law_set" = some (some (.ref fa_20))) (F_law_set:Fun2 K "_law_set" "_law_set" w8 .none fa_20 fd_law_set)
  {fa_8:Addr} {fd_joined:FuncData} (x_joined:nsIn K mainGlobals "joined" = some (some (.ref fa_8))) (F_joined:Fun2 K "joined" "joined" q05 .none fa_8 fd_joined)
  {fa_28:Addr} {fd_standing_above:FuncData} (x_standing_above:nsIn K mainGlobals "standing_above" = some (some (.ref fa_28))) (F_standing_above:Fun2 K "standing_above" "standing_above" jf .none fa_28 fd_standing_above)
  {fa_9:Addr} {fd_kinds_of:FuncData} (x_kinds_of:nsIn K mainGlobals "kinds_of" = some (some (.ref fa_9))) (F_kinds_of:Fun2 K "kinds_of" "kinds_of" yy .none fa_9 fd_kinds_of)
  {fa_21:Addr} {fd_lean:FuncData} (x_lean:nsIn K mainGlobals "lean" = some (some (.ref fa_21))) (F_lean:Fun2 K "lean" "lean" q2q .none fa_21 fd_lean)
  {fa_19:Addr} {fd_law_row:FuncData} (x_law_row:nsIn K mainGlobals "_law_row" = some (some (.ref fa_19))) (F_law_row:Fun2 K "_law_row" "_law_row" wa .none fa_19 fd_law_row)
  {fa_11:Addr} {fd_law_alone:FuncData} (x_law_alone:nsIn K mainGlobals "_law_alone" = some (some (.ref fa_11))) (F_law_alone:Fun2 K "_law_alone" "_law_alone" yh .none fa_11 fd_law_alone)
  {fa_2:Addr} {fd_at_least:FuncData} (x_at_least:nsIn K mainGlobals "at_least" = some (some (.ref fa_2))) (F_at_least:Fun2 K "at_least" "at_least" yz .none fa_2 fd_at_least)
  {fa_23:Addr} {fd_mark_of:FuncData} (x_mark_of:nsIn K mainGlobals "mark_of" = some (some (.ref fa_23))) (F_mark_of:Fun2 K "mark_of" "mark_of" wc .none fa_23 fd_mark_of)
  {fa_24:Addr} {fd_marked:FuncData} (x_marked:nsIn K mainGlobals "marked" = some (some (.ref fa_24))) (F_marked:Fun2 K "marked" "marked" q06 .none fa_24 fd_marked)
  {fa_27:Addr} {fd_one_ware_more:FuncData} (x_one_ware_more:nsIn K mainGlobals "one_ware_more" = some (some (.ref fa_27))) (F_one_ware_more:Fun2 K "one_ware_more" "one_ware_more" jm .none fa_27 fd_one_ware_more)
  {fa_26:Addr} {fd_one_ware_fewer:FuncData} (x_one_ware_fewer:nsIn K mainGlobals "one_ware_fewer" = some (some (.ref fa_26))) (F_one_ware_fewer:Fun2 K "one_ware_fewer" "one_ware_fewer" jg .none fa_26 fd_one_ware_fewer)
  {fa_4:Addr} {fd_grown:FuncData} (x_grown:nsIn K mainGlobals "grown" = some (some (.ref fa_4))) (F_grown:Fun2 K "grown" "grown" q16 .none fa_4 fd_grown)
  {fa_3:Addr} {fd_count_marked:FuncData} (x_count_marked:nsIn K mainGlobals "count_marked" = some (some (.ref fa_3))) (F_count_marked:Fun2 K "count_marked" "count_marked" x8 .none fa_3 fd_count_marked)
  {fa_0:Addr} {od_0 an_0:Option Addr} {sl_0:Array (Option Value)} {oc_0 kV_0 dc_0 pm_0 cd_0 ct_0:Value}
  (x_Growing_counted:findIn K (.ref C_Growing) "counted" = some (some (.ref fa_0))) (i_0:PySem.W.isFn K (.ref fa_0)=true)
  (l_0:K.lookup fa_0=some ⟨oc_0,od_0,.func (fnOf "counted" "Growing.counted" (q02 z9) (qq z9) (qd z9) .none kV_0 dc_0 pm_0 an_0 cd_0 ct_0),sl_0⟩)
  (q_0:codeIn K cd_0 "Growing.counted" = true) (k_0:keepIn K (.ref fa_0)=true)
  {fa_1:Addr} {od_1 an_1:Option Addr} {sl_1:Array (Option Value)} {oc_1 kV_1 dc_1 pm_1 cd_1 ct_1:Value}
  (x_Growing_often:findIn K (.ref C_Growing) "often" = some (some (.ref fa_1))) (i_1:PySem.W.isFn K (.ref fa_1)=true)
  (l_1:K.lookup fa_1=some ⟨oc_1,od_1,.func (fnOf "often" "Growing.often" (q02 zj) (qq zj) (qd zj) .none kV_1 dc_1 pm_1 an_1 cd_1 ct_1),sl_1⟩)
  (q_1:codeIn K cd_1 "Growing.often" = true) (k_1:keepIn K (.ref fa_1)=true)
  {fa_5:Addr} {fd_is_number:FuncData} (x_is_number:nsIn K mainGlobals "is_number" = some (some (.ref fa_5))) (F_is_number:Fun2 K "is_number" "is_number" yi .none fa_5 fd_is_number)
  {fa_7:Addr} {fd_is_within:FuncData} (x_is_within:nsIn K mainGlobals "is_within" = some (some (.ref fa_7))) (F_is_within:Fun2 K "is_within" "is_within" yj .none fa_7 fd_is_within)
  {fa_6:Addr} {fd_is_tree:FuncData} (x_is_tree:nsIn K mainGlobals "is_tree" = some (some (.ref fa_6))) (F_is_tree:Fun2 K "is_tree" "is_tree" wd .none fa_6 fd_is_tree)
  {fa_22:Addr} {fd_lifted:FuncData} (x_lifted:nsIn K mainGlobals "lifted" = some (some (.ref fa_22))) (F_lifted:Fun2 K "lifted" "lifted" v9 .none fa_22 fd_lifted)
  {fa_25:Addr} {fd_often_kinds:FuncData} (x_often_kinds:nsIn K mainGlobals "often_kinds" = some (some (.ref fa_25))) (F_often_kinds:Fun2 K "often_kinds" "often_kinds" zl .none fa_25 fd_often_kinds)
  {fa_18:Addr} {fd_law_refused:FuncData} (x_law_refused:nsIn K mainGlobals "_law_refused" = some (some (.ref fa_18))) (F_law_refused:Fun2 K "_law_refused" "_law_refused" xo .none fa_18 fd_law_refused)
  {fa_17:Addr} {fd_law_over:FuncData} (x_law_over:nsIn K mainGlobals "_law_over" = some (some (.ref fa_17))) (F_law_over:Fun2 K "_law_over" "_law_over" k9 .none fa_17 fd_law_over)
  {fa_13:Addr} {fd_law_lean:FuncData} (x_law_lean:nsIn K mainGlobals "_law_lean" = some (some (.ref fa_13))) (F_law_lean:Fun2 K "_law_lean" "_law_lean" kb .none fa_13 fd_law_lean)
  {fa_law:Addr} {fd_law:FuncData} (x_law:nsIn K mainGlobals "law" = some (some (.ref fa_law))) (F_law:Fun2 K "law" "law" q51 .none fa_law fd_law)
  {C_NoTree:Addr} (ns_NoTree:nsIn K mainGlobals "NoTree" = some (some (.ref C_NoTree)))
  {C_OftenError:Addr} (ns_OftenError:nsIn K mainGlobals "OftenError" = some (some (.ref C_OftenError)))
  {C_NoRun:Addr} (ns_NoRun:nsIn K mainGlobals "NoRun" = some (some (.ref C_NoRun)))
  {C_NoShare:Addr} (ns_NoShare:nsIn K mainGlobals "NoShare" = some (some (.ref C_NoShare)))
  {C_NoStore:Addr} (ns_NoStore:nsIn K mainGlobals "NoStore" = some (some (.ref C_NoStore)))
  {C_NoText:Addr} (ns_NoText:nsIn K mainGlobals "NoText" = some (some (.ref C_NoText)))
  {C_NotThere:Addr} (ns_NotThere:nsIn K mainGlobals "NotThere" = some (some (.ref C_NotThere)))
  {C_TooGreat:Addr} (ns_TooGreat:nsIn K mainGlobals "TooGreat" = some (some (.ref C_TooGreat)))
  (e_NoTree:PySem.W.excIn K C_NoTree vB "ValueError.__new__" = true)
  (ga_NoTree:findIn K (.ref C_NoTree) "__getattribute__" = some (some (.builtin "BaseException.__getattribute__")))
  (gk_NoTree:findIn K (.ref C_NoTree) "__getattr__" = some none)
  (cc_NoTree:findIn K (.ref C_NoTree) "__class__" = some (some (.builtin "object.__class__")))
  (cs_NoTree:PySem.W.specialIn K (.builtin "object.__class__") "__get__" = some (some (.builtin "getset_descriptor.__get__")))
  (ct_NoTree:PySem.W.takesIn K (.builtin "object.__class__")=some true)
  (cm_NoTree:PySem.W.mroIn K C_NoTree (.type "object")=some true)
  (cb_NoTree:PySem.W.mroIn K C_NoTree (.type "BaseException")=some true)
  (ciint_NoTree:PySem.W.kitOne K (.ref C_NoTree) (.type "int")=some false)
  (cibool_NoTree:PySem.W.kitOne K (.ref C_NoTree) (.type "bool")=some false)
  (cituple_NoTree:PySem.W.kitOne K (.ref C_NoTree) (.type "tuple")=some false)
  (cilist_NoTree:PySem.W.kitOne K (.ref C_NoTree) (.type "list")=some false)
  (cistr_NoTree:PySem.W.kitOne K (.ref C_NoTree) (.type "str")=some false)
  (cidict_NoTree:PySem.W.kitOne K (.ref C_NoTree) (.type "dict")=some false)
  (tp_OftenError:PySem.W.typeIn K (.ref C_OftenError)=some (.type "type"))
  (ga_OftenError:findIn K (.ref C_OftenError) "__getattribute__" = some (some (.builtin "BaseException.__getattribute__")))
  (gk_OftenError:findIn K (.ref C_OftenError) "__getattr__" = some none)
  (cc_OftenError:findIn K (.ref C_OftenError) "__class__" = some (some (.builtin "object.__class__")))
  (cs_OftenError:PySem.W.specialIn K (.builtin "object.__class__") "__get__" = some (some (.builtin "getset_descriptor.__get__")))
  (ct_OftenError:PySem.W.takesIn K (.builtin "object.__class__")=some true)
  (cm_OftenError:PySem.W.mroIn K C_OftenError (.type "object")=some true)
  (cb_OftenError:PySem.W.mroIn K C_OftenError (.type "BaseException")=some true)
  (ciint_OftenError:PySem.W.kitOne K (.ref C_OftenError) (.type "int")=some false)
  (cibool_OftenError:PySem.W.kitOne K (.ref C_OftenError) (.type "bool")=some false)
  (cituple_OftenError:PySem.W.kitOne K (.ref C_OftenError) (.type "tuple")=some false)
  (cilist_OftenError:PySem.W.kitOne K (.ref C_OftenError) (.type "list")=some false)
  (cistr_OftenError:PySem.W.kitOne K (.ref C_OftenError) (.type "str")=some false)
  (cidict_OftenError:PySem.W.kitOne K (.ref C_OftenError) (.type "dict")=some false)
  (mr_NoTree_OftenError:PySem.W.mroIn K C_NoTree (.ref C_OftenError)=some true)
  (kt_NoTree_NoTree:PySem.W.kitOne K (.ref C_NoTree) (.ref C_NoTree)=some true)
  (kt_NoTree_ValueError:PySem.W.kitOne K (.ref C_NoTree) (.type "ValueError")=some true)
  (ka_NoTree_NoRun_NoShare_NoStore_NoText:PySem.W.kitAny K (.ref C_NoTree) ([C_NoRun,C_NoShare,C_NoStore,C_NoText].map Value.ref)=some false)
  (ka_NoTree_NotThere_TooGreat:PySem.W.kitAny K (.ref C_NoTree) ([C_NotThere,C_TooGreat].map Value.ref)=some false)
  (z_range:nsIn K mainGlobals "range" = some none)
  (z_tuple:nsIn K mainGlobals "tuple" = some none)
  (z_int:nsIn K mainGlobals "int" = some none)
  (z_len:nsIn K mainGlobals "len" = some none)
  (z_list:nsIn K mainGlobals "list" = some none)
  (z_str:nsIn K mainGlobals "str" = some none)
  (z_sorted:nsIn K mainGlobals "sorted" = some none)
  (z_set:nsIn K mainGlobals "set" = some none)
  (z_zip:nsIn K mainGlobals "zip" = some none)
  (z_isinstance:nsIn K mainGlobals "isinstance" = some none)
  (z_bool:nsIn K mainGlobals "bool" = some none)
  (z_ValueError:nsIn K mainGlobals "ValueError" = some none)
  (z_sum:nsIn K mainGlobals "sum" = some none)
  (z_dict:nsIn K mainGlobals "dict" = some none)
  (z_all:nsIn K mainGlobals "all" = some none)
  (z_enumerate:nsIn K mainGlobals "enumerate" = some none)
  (z_min:nsIn K mainGlobals "min" = some none)
  (z_max:nsIn K mainGlobals "max" = some none)
  : ∃fd:FuncData,(∀(s:Shared) (v:Value),BindsTo s fd ⟨[v],[]⟩ [("_law_script",v)])/\∀base:Heap,K.In base->base.Ns mainGlobals mg->FnOk l.prog w K mg base CX0 7 fa fd ["_law_script"] (q9d K):=by
 have O_Growing:ClsOk K "Growing" C_Growing:=⟨x_Growing,mk_Growing,in_Growing,kp_Growing,⟨pg_Growing,hd_Growing,po_Growing,sa_Growing⟩,cg_Growing,hd_Growing,cc_Growing,cs_Growing,ct_Growing,cm_Growing,qk2 ciint_Growing cibool_Growing cituple_Growing cilist_Growing cistr_Growing cidict_Growing⟩
 have m_Growing:=mg_of X G x_Growing;have k_10:=F_law_above.kp;have k_14:=F_law_mixed.kp;have k_12:=F_law_cell.kp;have k_16:=F_law_number.kp;have k_15:=F_law_no_trees.kp;have k_20:=F_law_set.kp;have k_8:=F_joined.kp;have k_28:=F_standing_above.kp;have k_9:=F_kinds_of.kp;have k_21:=F_lean.kp;have k_19:=F_law_row.kp;have k_11:=F_law_alone.kp;have k_2:=F_at_least.kp;have k_23:=F_mark_of.kp;have k_24:=F_marked.kp;have k_27:=F_one_ware_more.kp;have k_26:=F_one_ware_fewer.kp;have k_4:=F_grown.kp;have k_3:=F_count_marked.kp;have F_Growing_counted:=q7o (st:=z9) l_0 q_0 k_0;have F_Growing_often:=q7o (st:=zj) l_1 q_1 k_1;have k_5:=F_is_number.kp;have k_7:=F_is_within.kp;have k_6:=F_is_tree.kp;have k_22:=F_lifted.kp;have k_25:=F_often_kinds.kp;have k_18:=F_law_refused.kp;have k_17:=F_law_over.kp;have k_13:=F_law_lean.kp;have k_law:=F_law.kp;have m_NoTree:=mg_of X G ns_NoTree;have m_OftenError:=mg_of X G ns_OftenError;have m_NoRun:=mg_of X G ns_NoRun;have m_NoShare:=mg_of X G ns_NoShare;have m_NoStore:=mg_of X G ns_NoStore;have m_NoText:=mg_of X G ns_NoText;have m_NotThere:=mg_of X G ns_NotThere;have m_TooGreat:=mg_of X G ns_TooGreat;have cx_NoTree:q1a K C_NoTree:=⟨⟨ga_NoTree,gk_NoTree,cc_NoTree,cs_NoTree,ct_NoTree,cm_NoTree,cb_NoTree⟩,qd4 ciint_NoTree cibool_NoTree cituple_NoTree cilist_NoTree cistr_NoTree cidict_NoTree⟩
 have cx_OftenError:q1a K C_OftenError:=⟨⟨ga_OftenError,gk_OftenError,cc_OftenError,cs_OftenError,ct_OftenError,cm_OftenError,cb_OftenError⟩,qd4 ciint_OftenError cibool_OftenError cituple_OftenError cilist_OftenError cistr_OftenError cidict_OftenError⟩
 have n_range:=mg_none_of X G z_range;have n_tuple:=mg_none_of X G z_tuple;have n_int:=mg_none_of X G z_int;have n_len:=mg_none_of X G z_len;have n_list:=mg_none_of X G z_list;have n_str:=mg_none_of X G z_str;have n_sorted:=mg_none_of X G z_sorted;have n_set:=mg_none_of X G z_set;have n_zip:=mg_none_of X G z_zip;have n_isinstance:=mg_none_of X G z_isinstance;have n_bool:=mg_none_of X G z_bool;have n_ValueError:=mg_none_of X G z_ValueError;have n_sum:=mg_none_of X G z_sum;have n_dict:=mg_none_of X G z_dict;have n_all:=mg_none_of X G z_all;have n_enumerate:=mg_none_of X G z_enumerate;have n_min:=mg_none_of X G z_min;have n_max:=mg_none_of X G z_max;have e:=hfa.symm.trans (mg_of X G x_law);cases e;have b_10:Binds K _ ["_law_number_here","_law_wares"] []:=F_law_above.bindsTo (P:=fun fd=>Binds K fd ["_law_number_here","_law_wares"] []) fun _ _ _ _ _ _ s us hk hl=>ln2 (fun _ _=>.of_eq rfl) us hl;have b_14:Binds K _ ["_law_cell_here","_law_k"] []:=F_law_mixed.bindsTo (P:=fun fd=>Binds K fd ["_law_cell_here","_law_k"] []) fun _ _ _ _ _ _ s us hk hl=>ln2 (fun _ _=>.of_eq rfl) us hl;have b_12:Binds K _ ["_law_script","_law_k"] []:=F_law_cell.bindsTo (P:=fun fd=>Binds K fd ["_law_script","_law_k"] []) fun _ _ _ _ _ _ s us hk hl=>ln2 (fun _ _=>.of_eq rfl) us hl;have b_16:Binds K _ ["_law_script","_law_k"] []:=F_law_number.bindsTo (P:=fun fd=>Binds K fd ["_law_script","_law_k"] []) fun _ _ _ _ _ _ s us hk hl=>ln2 (fun _ _=>.of_eq rfl) us hl;have b_15:Binds K _ ["_law_above_here","_law_number_here"] []:=F_law_no_trees.bindsTo (P:=fun fd=>Binds K fd ["_law_above_here","_law_number_here"] []) fun _ _ _ _ _ _ s us hk hl=>ln2 (fun _ _=>.of_eq rfl) us hl;have b_20:Binds K _ ["_law_mark","_law_wares"] []:=F_law_set.bindsTo (P:=fun fd=>Binds K fd ["_law_mark","_law_wares"] []) fun _ _ _ _ _ _ s us hk hl=>ln2 (fun _ _=>.of_eq rfl) us hl;have b_8:Binds K _ ["one","other"] []:=F_joined.bindsTo (P:=fun fd=>Binds K fd ["one","other"] []) fun _ _ _ _ _ _ s us hk hl=>ln2 (fun _ _=>.of_eq rfl) us hl;have b_28:Binds K _ ["above","ware"] []:=F_standing_above.bindsTo (P:=fun fd=>Binds K fd ["above","ware"] []) fun _ _ _ _ _ _ s us hk hl=>ln2 (fun _ _=>.of_eq rfl) us hl;have b_9:Binds K _ ["above","some"] []:=F_kinds_of.bindsTo (P:=fun fd=>Binds K fd ["above","some"] []) fun _ _ _ _ _ _ s us hk hl=>ln2 (fun _ _=>.of_eq rfl) us hl;have b_21:Binds K _ ["above","some"] []:=F_lean.bindsTo (P:=fun fd=>Binds K fd ["above","some"] []) fun _ _ _ _ _ _ s us hk hl=>ln2 (fun _ _=>.of_eq rfl) us hl;have b_19:Binds K _ ["_law_found","_law_due"] []:=F_law_row.bindsTo (P:=fun fd=>Binds K fd ["_law_found","_law_due"] []) fun _ _ _ _ _ _ s us hk hl=>ln2 (fun _ _=>.of_eq rfl) us hl;have b_11:Binds K _ ["_law_error"] []:=F_law_alone.bindsTo (P:=fun fd=>Binds K fd ["_law_error"] []) fun _ _ _ _ _ _ s us hk hl=>ln1 (fun _=>.of_eq rfl) us hl;have b_2:Binds K _ ["pairs","least"] []:=F_at_least.bindsTo (P:=fun fd=>Binds K fd ["pairs","least"] []) fun _ _ _ _ _ _ s us hk hl=>ln2 (fun _ _=>.of_eq rfl) us hl;have b_23:Binds K _ ["some"] []:=F_mark_of.bindsTo (P:=fun fd=>Binds K fd ["some"] []) fun _ _ _ _ _ _ s us hk hl=>ln1 (fun _=>.of_eq rfl) us hl;have b_24:Binds K _ ["pile"] []:=F_marked.bindsTo (P:=fun fd=>Binds K fd ["pile"] []) fun _ _ _ _ _ _ s us hk hl=>ln1 (fun _=>.of_eq rfl) us hl;have b_27:Binds K _ ["some","wares"] []:=F_one_ware_more.bindsTo (P:=fun fd=>Binds K fd ["some","wares"] []) fun _ _ _ _ _ _ s us hk hl=>ln2 (fun _ _=>.of_eq rfl) us hl;have b_26:Binds K _ ["some"] []:=F_one_ware_fewer.bindsTo (P:=fun fd=>Binds K fd ["some"] []) fun _ _ _ _ _ _ s us hk hl=>ln1 (fun _=>.of_eq rfl) us hl;have b_4:Binds K _ ["layer","wares"] []:=F_grown.bindsTo (P:=fun fd=>Binds K fd ["layer","wares"] []) fun _ _ _ _ _ _ s us hk hl=>ln2 (fun _ _=>.of_eq rfl) us hl;have b_3:Binds K _ ["marked_runs","some"] []:=F_count_marked.bindsTo (P:=fun fd=>Binds K fd ["marked_runs","some"] []) fun _ _ _ _ _ _ s us hk hl=>ln2 (fun _ _=>.of_eq rfl) us hl;have b_0:Binds K _ ["self","pile","least"] []:=F_Growing_counted.bindsTo (P:=fun fd=>Binds K fd ["self","pile","least"] []) fun _ _ _ _ _ _ s us hk hl=>ln3 (fun _ _ _=>.of_eq rfl) us hl;have b_1:Binds K _ ["self","pile","least"] []:=F_Growing_often.bindsTo (P:=fun fd=>Binds K fd ["self","pile","least"] []) fun _ _ _ _ _ _ s us hk hl=>ln3 (fun _ _ _=>.of_eq rfl) us hl;have b_5:Binds K _ ["thing"] []:=F_is_number.bindsTo (P:=fun fd=>Binds K fd ["thing"] []) fun _ _ _ _ _ _ s us hk hl=>ln1 (fun _=>.of_eq rfl) us hl;have b_7:Binds K _ ["thing","lowest","highest"] []:=F_is_within.bindsTo (P:=fun fd=>Binds K fd ["thing","lowest","highest"] []) fun _ _ _ _ _ _ s us hk hl=>ln3 (fun _ _ _=>.of_eq rfl) us hl;have b_6:Binds K _ ["thing","wares"] []:=F_is_tree.bindsTo (P:=fun fd=>Binds K fd ["thing","wares"] []) fun _ _ _ _ _ _ s us hk hl=>ln2 (fun _ _=>.of_eq rfl) us hl;have b_22:Binds K _ ["pile","above"] []:=F_lifted.bindsTo (P:=fun fd=>Binds K fd ["pile","above"] []) fun _ _ _ _ _ _ s us hk hl=>ln2 (fun _ _=>.of_eq rfl) us hl;have b_25:Binds K _ ["pile","above","least"] []:=F_often_kinds.bindsTo (P:=fun fd=>Binds K fd ["pile","above","least"] []) fun _ _ _ _ _ _ s us hk hl=>ln3 (fun _ _ _=>.of_eq rfl) us hl;have b_18:Binds K _ ["_law_pile","_law_thing","_law_whole"] []:=F_law_refused.bindsTo (P:=fun fd=>Binds K fd ["_law_pile","_law_thing","_law_whole"] []) fun _ _ _ _ _ _ s us hk hl=>ln3 (fun _ _ _=>.of_eq rfl) us hl;have b_17:Binds K _ ["_law_above_here","_law_ware"] []:=F_law_over.bindsTo (P:=fun fd=>Binds K fd ["_law_above_here","_law_ware"] []) fun _ _ _ _ _ _ s us hk hl=>ln2 (fun _ _=>.of_eq rfl) us hl;have b_13:Binds K _ ["_law_above_here","_law_some"] []:=F_law_lean.bindsTo (P:=fun fd=>Binds K fd ["_law_above_here","_law_some"] []) fun _ _ _ _ _ _ s us hk hl=>ln2 (fun _ _=>.of_eq rfl) us hl;refine⟨_,F_law.bindsTo (P:=fun fd=>∀(s:Shared) (v:Value),BindsTo s fd ⟨[v],[]⟩ [("_law_script",v)]) (fun _ _ _ _ _ _ s v=>.of_eq rfl),fun base _ _=>?_⟩;have o_10:=qaz (P:=l.prog) (w:=w) (mg:=mg) (base:=base) F_law_above n_range n_tuple n_int;have c_10:=Cal.mk o_10 (mg_of X G x_law_above) k_10;have o_14:=qb1 (P:=l.prog) (w:=w) (mg:=mg) (base:=base) F_law_mixed;have c_14:=Cal.mk o_14 (mg_of X G x_law_mixed) k_14;have o_12:=qc1 (P:=l.prog) (w:=w) (mg:=mg) (base:=base) F_law_cell n_len;have c_12:=Cal.mk o_12 (mg_of X G x_law_cell) k_12;have o_16:=q97 (P:=l.prog) (w:=w) (mg:=mg) (base:=base) F_law_number c_14 b_14 c_12 b_12;have c_16:=Cal.mk o_16 (mg_of X G x_law_number) k_16;have o_15:=q6v (P:=l.prog) (w:=w) (mg:=mg) (base:=base) F_law_no_trees n_len n_list n_str;have c_15:=Cal.mk o_15 (mg_of X G x_law_no_trees) k_15;have o_20:=qed (P:=l.prog) (w:=w) (mg:=mg) (base:=base) F_law_set n_range n_tuple;have c_20:=Cal.mk o_20 (mg_of X G x_law_set) k_20;have o_8:=qgg (P:=l.prog) (w:=w) (mg:=mg) (base:=base) F_joined n_tuple n_sorted n_set;have c_8:=Cal.mk o_8 (mg_of X G x_joined) k_8;have o_28:=q53 (P:=l.prog) (w:=w) (mg:=mg) (base:=base) F_standing_above n_tuple;have c_28:=Cal.mk o_28 (mg_of X G x_standing_above) k_28;have o_9:=qc3 (P:=l.prog) (w:=w) (mg:=mg) (base:=base) F_kinds_of c_8 b_8 c_28 b_28;have c_9:=Cal.mk o_9 (mg_of X G x_kinds_of) k_9;have o_21:=qkx (P:=l.prog) (w:=w) (mg:=mg) (base:=base) F_lean c_9 b_9 n_tuple;have c_21:=Cal.mk o_21 (mg_of X G x_lean) k_21;have o_19:=qef (P:=l.prog) (w:=w) (mg:=mg) (base:=base) F_law_row n_zip n_isinstance n_tuple n_len n_bool n_int;have c_19:=Cal.mk o_19 (mg_of X G x_law_row) k_19;have o_11:=qb5 (P:=l.prog) (w:=w) (mg:=mg) (base:=base) F_law_alone ns_NoTree cx_NoTree m_NoTree kt_NoTree_NoTree kt_NoTree_ValueError m_NoRun m_NoShare m_NoStore m_NoText ka_NoTree_NoRun_NoShare_NoStore_NoText m_NotThere m_TooGreat ka_NoTree_NotThere_TooGreat n_isinstance n_ValueError;have c_11:=Cal.mk o_11 (mg_of X G x_law_alone) k_11;have o_2:=qc6 (P:=l.prog) (w:=w) (mg:=mg) (base:=base) F_at_least n_tuple;have c_2:=Cal.mk o_2 (mg_of X G x_at_least) k_2;have o_23:=qei (P:=l.prog) (w:=w) (mg:=mg) (base:=base) F_mark_of n_sum;have c_23:=Cal.mk o_23 (mg_of X G x_mark_of) k_23;have o_24:=qgk (P:=l.prog) (w:=w) (mg:=mg) (base:=base) F_marked c_23 b_23;have c_24:=Cal.mk o_24 (mg_of X G x_marked) k_24;have o_27:=q5y (P:=l.prog) (w:=w) (mg:=mg) (base:=base) F_one_ware_more n_range;have c_27:=Cal.mk o_27 (mg_of X G x_one_ware_more) k_27;have o_26:=q56 (P:=l.prog) (w:=w) (mg:=mg) (base:=base) F_one_ware_fewer n_range n_len;have c_26:=Cal.mk o_26 (mg_of X G x_one_ware_fewer) k_26;have o_4:=qiw (P:=l.prog) (w:=w) (mg:=mg) (base:=base) F_grown c_27 b_27 c_26 b_26 n_dict n_all;have c_4:=Cal.mk o_4 (mg_of X G x_grown) k_4;have o_3:=q72 (P:=l.prog) (w:=w) (mg:=mg) (base:=base) F_count_marked c_23 b_23 n_sum;have c_3:=Cal.mk o_3 (mg_of X G x_count_marked) k_3;have o_0:=q4i (P:=l.prog) (w:=w) (mg:=mg) (base:=base) F_Growing_counted c_24 b_24 c_4 b_4 c_3 b_3 c_2 b_2 n_tuple;have c_0:CalM l.prog w K mg base "Growing" "counted" C_Growing _ _ _ _ _ _:=⟨o_0,⟨x_Growing_counted,i_0,k_0⟩⟩
 have o_1:=q61 (P:=l.prog) (w:=w) (mg:=mg) (base:=base) F_Growing_often O_Growing c_2 b_2 c_0 b_0;have c_1:CalM l.prog w K mg base "Growing" "often" C_Growing _ _ _ _ _ _:=⟨o_1,⟨x_Growing_often,i_1,k_1⟩⟩
 have o_5:=qba (P:=l.prog) (w:=w) (mg:=mg) (base:=base) F_is_number n_isinstance n_int n_bool;have c_5:=Cal.mk o_5 (mg_of X G x_is_number) k_5;have o_7:=qbd (P:=l.prog) (w:=w) (mg:=mg) (base:=base) F_is_within c_5 b_5;have c_7:=Cal.mk o_7 (mg_of X G x_is_within) k_7;have o_6:=qen (P:=l.prog) (w:=w) (mg:=mg) (base:=base) F_is_tree c_7 b_7 n_all n_isinstance n_tuple n_len n_enumerate;have c_6:=Cal.mk o_6 (mg_of X G x_is_tree) k_6;have o_22:=qgm (P:=l.prog) (w:=w) (mg:=mg) (base:=base) F_lifted c_6 b_6 c_8 b_8 c_9 b_9 n_tuple;have c_22:=Cal.mk o_22 (mg_of X G x_lifted) k_22;have gr_lifted:=qeo (P:=l.prog) (w:=w) (mg:=mg) (base:=base) F_lifted c_6 b_6 c_8 b_8 c_9 b_9 n_tuple e_NoTree m_NoTree ns_NoTree;have o_25:=q7w (P:=l.prog) (w:=w) (mg:=mg) (base:=base) F_often_kinds O_Growing m_Growing c_1 b_1 c_22 b_22 c_21 b_21 n_tuple;have c_25:=Cal.mk o_25 (mg_of X G x_often_kinds) k_25;have gr_often_kinds:=q74 (P:=l.prog) (w:=w) (mg:=mg) (base:=base) F_often_kinds O_Growing m_Growing c_1 b_1 c_22 b_22 c_21 b_21 n_tuple gr_lifted;have o_18:=q7z (P:=l.prog) (w:=w) (mg:=mg) (base:=base) F_law_refused c_11 b_11 c_25 b_25 c_22 b_22 ns_NoTree cx_NoTree m_NoTree ns_OftenError cx_OftenError m_OftenError tp_OftenError mr_NoTree_OftenError gr_often_kinds gr_lifted;have c_18:=Cal.mk o_18 (mg_of X G x_law_refused) k_18;have o_17:=qc8 (P:=l.prog) (w:=w) (mg:=mg) (base:=base) F_law_over n_range n_len;have c_17:=Cal.mk o_17 (mg_of X G x_law_over) k_17;have o_13:=qca (P:=l.prog) (w:=w) (mg:=mg) (base:=base) F_law_lean c_17 b_17;have c_13:=Cal.mk o_13 (mg_of X G x_law_lean) k_13;exact qml (qnd (P:=l.prog) (w:=w) (mg:=mg) (base:=base) F_law c_10 b_10 c_16 b_16 c_15 b_15 c_20 b_20 c_21 b_21 c_12 b_12 c_19 b_19 c_18 b_18 c_28 b_28 c_17 b_17 c_13 b_13 n_range n_min n_max n_len) hm
end My
namespace PySem.W.Fast
theorem tw4756191754804198120 : True := trivial
theorem tw3991112957969556002 : True := trivial
theorem tw3827023392610108935 : True := trivial
theorem tw11587721161464359792 : True := trivial
theorem tw8881713408320626586 : True := trivial
theorem tw4817772167626556537 : True := trivial
theorem tw11516149567591331561 : True := trivial
theorem tw1471221540932864222 : True := trivial
theorem tw9339549152095126887 : True := trivial
theorem tw2118226538446842604 : True := trivial
theorem tw5779033448407834298 : True := trivial
theorem tw2036156428916051333 : True := trivial
theorem tw13463912631424720405 : True := trivial
theorem tw13112955590541261387 : True := trivial
theorem tw6711889047980293756 : True := trivial
theorem tw12550720099715576075 : True := trivial
theorem tw5387288306470220847 : True := trivial
theorem tw17223653477660574786 : True := trivial
theorem tw4101089742292311663 : True := trivial
theorem tw1509333288999183262 : True := trivial
theorem tw4708088312553470133 : True := trivial
theorem tw13426002345674733360 : True := trivial
theorem tw3063042084585969052 : True := trivial
theorem tw141581751375994730 : True := trivial
theorem tw14500383088529866912 : True := trivial
theorem tw4980211026711696749 : True := trivial
theorem tw16517001154230911613 : True := trivial
theorem tw10325662339359312271 : True := trivial
theorem tw8084365563162080329 : True := trivial
theorem tw1071641905274998104 : True := trivial
theorem tw2296406784602837060 : True := trivial
end PySem.W.Fast
open PySem PySem.W PyProof.Rows
local macro_rules | `(tactic| walk_at "F")=> `(tactic| (letI:DL.Lam:=⟨[]⟩;exact DL.q7o (by k_is) (by k_is) (by k_is)))
set_option maxHeartbeats 0 in
theorem PySem.Challenge.cw_oftentogether_k51_standing_above_holds : PySem.Challenge.rw_oftentogether_k51_standing_above.Holds := by
 w_on;o_law;k_head;(case hw=>w_witness2)
 k_fill
 letI:DL.Lam:=⟨[]⟩
 refine DL.qmm rfl (l:=PySem.Challenge.rw_oftentogether_k51_standing_above) (k:=7) (x:="_law_script") rfl rfl ⟨rfl,by decide,by decide⟩ (fun w h Y=>PySem.W.kIn_of Y) ?F
 case F=>
  intro w mg fa h KX G hmg;refine' My.all_mk KX G hmg My.qiz ?x_Growing ?mk_Growing ?in_Growing ?kp_Growing ?pg_Growing ?hd_Growing ?po_Growing ?sa_Growing ?cg_Growing ?cc_Growing ?cs_Growing ?ct_Growing ?cm_Growing ?ciint_Growing ?cibool_Growing ?cituple_Growing ?cilist_Growing ?cistr_Growing ?cidict_Growing ?x_law_above ?F_law_above ?x_law_mixed ?F_law_mixed ?x_law_cell ?F_law_cell ?x_law_number ?F_law_number ?x_law_no_trees ?F_law_no_trees ?x_law_set ?F_law_set ?x_joined ?F_joined ?x_standing_above ?F_standing_above ?x_kinds_of ?F_kinds_of ?x_lean ?F_lean ?x_law_row ?F_law_row ?x_law_alone ?F_law_alone ?x_at_least ?F_at_least ?x_mark_of ?F_mark_of ?x_marked ?F_marked ?x_one_ware_more ?F_one_ware_more ?x_one_ware_fewer ?F_one_ware_fewer ?x_grown ?F_grown ?x_count_marked ?F_count_marked ?x_Growing_counted ?i_0 ?l_0 ?q_0 ?k_0 ?x_Growing_often ?i_1 ?l_1 ?q_1 ?k_1 ?x_is_number ?F_is_number ?x_is_within ?F_is_within ?x_is_tree ?F_is_tree ?x_lifted ?F_lifted ?x_often_kinds ?F_often_kinds ?x_law_refused ?F_law_refused ?x_law_over ?F_law_over ?x_law_lean ?F_law_lean ?x_law ?F_law ?ns_NoTree ?ns_OftenError ?ns_NoRun ?ns_NoShare ?ns_NoStore ?ns_NoText ?ns_NotThere ?ns_TooGreat ?e_NoTree ?ga_NoTree ?gk_NoTree ?cc_NoTree ?cs_NoTree ?ct_NoTree ?cm_NoTree ?cb_NoTree ?ciint_NoTree ?cibool_NoTree ?cituple_NoTree ?cilist_NoTree ?cistr_NoTree ?cidict_NoTree ?tp_OftenError ?ga_OftenError ?gk_OftenError ?cc_OftenError ?cs_OftenError ?ct_OftenError ?cm_OftenError ?cb_OftenError ?ciint_OftenError ?cibool_OftenError ?cituple_OftenError ?cilist_OftenError ?cistr_OftenError ?cidict_OftenError ?mr_NoTree_OftenError ?kt_NoTree_NoTree ?kt_NoTree_ValueError ?ka_NoTree_NoRun_NoShare_NoStore_NoText ?ka_NoTree_NotThere_TooGreat ?z_range ?z_tuple ?z_int ?z_len ?z_list ?z_str ?z_sorted ?z_set ?z_zip ?z_isinstance ?z_bool ?z_ValueError ?z_sum ?z_dict ?z_all ?z_enumerate ?z_min ?z_max
  (case x_Growing=>k_is)
  (case mk_Growing=>k_is)
  (case in_Growing=>k_is)
  (case kp_Growing=>k_is)
  (case pg_Growing=>k_is)
  (case hd_Growing=>k_is)
  (case po_Growing=>k_is)
  (case sa_Growing=>k_is)
  (case cg_Growing=>k_is)
  (case cc_Growing=>k_is)
  (case cs_Growing=>k_is)
  (case ct_Growing=>k_is)
  (case cm_Growing=>k_is)
  (case ciint_Growing=>k_is)
  (case cibool_Growing=>k_is)
  (case cituple_Growing=>k_is)
  (case cilist_Growing=>k_is)
  (case cistr_Growing=>k_is)
  (case cidict_Growing=>k_is)
  (case x_law_above=>k_is)
  (case F_law_above=>walk_at "F")
  (case x_law_mixed=>k_is)
  (case F_law_mixed=>walk_at "F")
  (case x_law_cell=>k_is)
  (case F_law_cell=>walk_at "F")
  (case x_law_number=>k_is)
  (case F_law_number=>walk_at "F")
  (case x_law_no_trees=>k_is)
  (case F_law_no_trees=>walk_at "F")
  (case x_law_set=>k_is)
  (case F_law_set=>walk_at "F")
  (case x_joined=>k_is)
  (case F_joined=>walk_at "F")
  (case x_standing_above=>k_is)
  (case F_standing_above=>walk_at "F")
  (case x_kinds_of=>k_is)
  (case F_kinds_of=>walk_at "F")
  (case x_lean=>k_is)
  (case F_lean=>walk_at "F")
  (case x_law_row=>k_is)
  (case F_law_row=>walk_at "F")
  (case x_law_alone=>k_is)
  (case F_law_alone=>walk_at "F")
  (case x_at_least=>k_is)
  (case F_at_least=>walk_at "F")
  (case x_mark_of=>k_is)
  (case F_mark_of=>walk_at "F")
  (case x_marked=>k_is)
  (case F_marked=>walk_at "F")
  (case x_one_ware_more=>k_is)
  (case F_one_ware_more=>walk_at "F")
  (case x_one_ware_fewer=>k_is)
  (case F_one_ware_fewer=>walk_at "F")
  (case x_grown=>k_is)
  (case F_grown=>walk_at "F")
  (case x_count_marked=>k_is)
  (case F_count_marked=>walk_at "F")
  (case x_Growing_counted=>k_is)
  (case i_0=>k_is)
  (case l_0=>k_is)
  (case q_0=>k_is)
  (case k_0=>k_is)
  (case x_Growing_often=>k_is)
  (case i_1=>k_is)
  (case l_1=>k_is)
  (case q_1=>k_is)
  (case k_1=>k_is)
  (case x_is_number=>k_is)
  (case F_is_number=>walk_at "F")
  (case x_is_within=>k_is)
  (case F_is_within=>walk_at "F")
  (case x_is_tree=>k_is)
  (case F_is_tree=>walk_at "F")
  (case x_lifted=>k_is)
  (case F_lifted=>walk_at "F")
  (case x_often_kinds=>k_is)
  (case F_often_kinds=>walk_at "F")
  (case x_law_refused=>k_is)
  (case F_law_refused=>walk_at "F")
  (case x_law_over=>k_is)
  (case F_law_over=>walk_at "F")
  (case x_law_lean=>k_is)
  (case F_law_lean=>walk_at "F")
  (case x_law=>k_is)
  (case F_law=>walk_at "F")
  (case ns_NoTree=>k_is)
  (case ns_OftenError=>k_is)
  (case ns_NoRun=>k_is)
  (case ns_NoShare=>k_is)
  (case ns_NoStore=>k_is)
  (case ns_NoText=>k_is)
  (case ns_NotThere=>k_is)
  (case ns_TooGreat=>k_is)
  (case e_NoTree=>first|kernel_rfl|rfl)
  (case ga_NoTree=>k_is)
  (case gk_NoTree=>k_is)
  (case cc_NoTree=>k_is)
  (case cs_NoTree=>k_is)
  (case ct_NoTree=>k_is)
  (case cm_NoTree=>k_is)
  (case cb_NoTree=>k_is)
  (case ciint_NoTree=>first|kernel_rfl|rfl)
  (case cibool_NoTree=>first|kernel_rfl|rfl)
  (case cituple_NoTree=>first|kernel_rfl|rfl)
  (case cilist_NoTree=>first|kernel_rfl|rfl)
  (case cistr_NoTree=>first|kernel_rfl|rfl)
  (case cidict_NoTree=>first|kernel_rfl|rfl)
  (case tp_OftenError=>first|k_is|kernel_rfl|rfl)
  (case ga_OftenError=>k_is)
  (case gk_OftenError=>k_is)
  (case cc_OftenError=>k_is)
  (case cs_OftenError=>k_is)
  (case ct_OftenError=>k_is)
  (case cm_OftenError=>k_is)
  (case cb_OftenError=>k_is)
  (case ciint_OftenError=>first|kernel_rfl|rfl)
  (case cibool_OftenError=>first|kernel_rfl|rfl)
  (case cituple_OftenError=>first|kernel_rfl|rfl)
  (case cilist_OftenError=>first|kernel_rfl|rfl)
  (case cistr_OftenError=>first|kernel_rfl|rfl)
  (case cidict_OftenError=>first|kernel_rfl|rfl)
  (case mr_NoTree_OftenError=>first|k_is|kernel_rfl|rfl)
  (case kt_NoTree_NoTree=>first|kernel_rfl|rfl)
  (case kt_NoTree_ValueError=>first|kernel_rfl|rfl)
  (case ka_NoTree_NoRun_NoShare_NoStore_NoText=>first|kernel_rfl|rfl)
  (case ka_NoTree_NotThere_TooGreat=>first|kernel_rfl|rfl)
  (case z_range=>k_is)
  (case z_tuple=>k_is)
  (case z_int=>k_is)
  (case z_len=>k_is)
  (case z_list=>k_is)
  (case z_str=>k_is)
  (case z_sorted=>k_is)
  (case z_set=>k_is)
  (case z_zip=>k_is)
  (case z_isinstance=>k_is)
  (case z_bool=>k_is)
  (case z_ValueError=>k_is)
  (case z_sum=>k_is)
  (case z_dict=>k_is)
  (case z_all=>k_is)
  (case z_enumerate=>k_is)
  (case z_min=>k_is)
  (case z_max=>k_is)
