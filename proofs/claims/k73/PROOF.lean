import PyProof.Rows.All
import Wide.All
import OpenK.AllK
import Wide.FinOn
import Lean
import PyProof.EqAt
import PyProof.EqKinds
import PyProof.TupleCall
import PyProof.AutoSeq1
import PyProof.NeKinds
import PyProof.ListRange
import PyProof.CollectIter
import PyProof.TupleOfGen
import PyProof.StationsW
import PyProof.Rows.Catch
import PyProof.StrCalls2
import PyProof.StrBlockH
import PyProof.SliceStr2
import KE.KIntText
import PyProof.StrWalks
import KE.KDictLaws
import PyProof.DictTruth
import PyProof.Rows.SetFrom
import PyProof.SetRoads
import KE.KDictList
import PyProof.StrLawsTight
import PyProof.StrLawsOccR
import PyProof.StrBlockL
import PyProof.StrLawsNeg
import PyProof.StrBlockI
import KE.KxText
import PySem.Challenge.RW_oftentogether_k73_no_text
set_option maxRecDepth 100000
set_option maxHeartbeats 4000000
set_option Elab.async false
set_option linter.all false
abbrev g0:=@Option.bind_eq_some_iff
abbrev g6:=@Option.bind_some
abbrev g7:=@List.length_map
abbrev g8:=@PySem.wpAny_bind
abbrev g9:=@List.getElem?_set_ne
abbrev gb:=@PySem.Heap.get?_push_of_some
abbrev gc:=@List.length_append
abbrev gd:=@List.mem_cons_self
abbrev gf:=@PySem.wpAny_pure
abbrev gh:=@List.size_toArray
abbrev gi:=@List.mem_cons_of_mem
abbrev gj:=@List.length_singleton
abbrev gm:=@decide_eq_true
abbrev gp:=@List.mem_map
abbrev gq:=@decide_eq_false
abbrev gr:=@Option.map_eq_some_iff
abbrev gs:=@List.length_cons
abbrev gu:=@Bool.and_eq_true
abbrev gv:=@PySem.Heap.lt_size
abbrev gw:=@Nat.le_refl
abbrev gx:=@List.mem_cons
abbrev gy:=@if_pos
abbrev gz:=@List.getElem?_map
abbrev m4:=@Ne.symm
abbrev m5:=@Bool.false_ne_true
abbrev m6:=@List.getElem?_eq_getElem
abbrev m7:=@List.map_cons
abbrev m8:=@Nat.lt_of_lt_of_le
abbrev m9:=@List.mem_append_right
abbrev ma:=@if_neg
abbrev md:=@PySem.Heap.get?_push_size
abbrev me:=@PySem.wpAny_mono
abbrev mf:=@List.length_take
abbrev mh:=@List.map_map
abbrev mi:=@List.mem_singleton
abbrev mj:=@Nat.ne_of_lt
abbrev mm:=@Nat.le_trans
abbrev mn:=@List.append_assoc
abbrev mq:=@Option.map_some
abbrev mr:=@List.lookup_cons
abbrev mv:=@List.mem_range
abbrev mw:=@PySem.Heap.get?_update_other
abbrev my:=@List.append_nil
abbrev mz:=@List.mem_append
abbrev n3:=@Option.some.inj
abbrev n4:=@Array.getElem?_eq_some_iff
abbrev n5:=@List.getD_eq_getElem?_getD
abbrev n6:=@congrArg
abbrev n8:=@List.getElem?_eq_some_iff
abbrev n9:=@List.length_set
abbrev ng:=@List.map_append
abbrev nh:=@List.getElem?_append_left
abbrev ni:=@List.length_drop
abbrev nj:=@List.length_range
abbrev nk:=@PyProof.Rows.slot_tuple_getitem
abbrev nq:=@List.getElem?_append_right
abbrev nr:=@Bool.false_eq_true
abbrev nt:=@List.length_nil
abbrev nu:=@decide_eq_true_iff
abbrev nv:=@List.all_eq_true
abbrev ny:=@List.take_of_length_le
abbrev p6:=@List.flatten_cons
abbrev p7:=@Nat.mod_lt
abbrev p8:=@Nat.lt_irrefl
abbrev p9:=@PySem.AutoSeq1.wpAny_loadPart'
abbrev pb:=@List.getElem?_replicate
abbrev pd:=@if_true
abbrev pf:=@List.cons_append
abbrev ph:=@List.getElem?_set_self
abbrev pj:=@PySem.wpAny_newObj_type
abbrev pk:=@List.nil_append
abbrev pq:=@PySem.PassesOwn.never
abbrev pz:=@Nat.zero_le
abbrev t4:=@PySem.wpAny_holding
abbrev t5:=@beq_iff_eq
abbrev t6:=@PySem.wpAny_Call_Name_kw
abbrev t7:=@Option.none_or
abbrev t8:=@Int.emod_lt_of_pos
abbrev t9:=@List.drop_eq_getElem_cons
abbrev td:=@PySem.wpAny_field
abbrev tf:=@PySem.codeAny_mono
abbrev tm:=@PySem.codeAny_call_builtin
abbrev tq:=@Nat.not_lt_zero
abbrev tw:=@List.length_zip
abbrev tx:=@PySem.wpAny_truthy_bool
abbrev u7:=@of_decide_eq_true
abbrev u9:=@List.replicate_succ
abbrev ua:=@if_false
abbrev uc:=@PySem.sizeLine_eq
abbrev ud:=@PySem.wpAny_call
abbrev ue:=@PySem.F.attrBase_ValueError
abbrev uf:=@PySem.Obj.data_mapFields
abbrev ug:=@PySem.codeAny_builtin
abbrev uh:=@List.foldl_cons
abbrev ui:=@PySem.Heap.get?_update_self
abbrev uj:=@PySem.Obj.isFreed_of_fields
abbrev uk:=@Int.emod_nonneg
abbrev um:=@PySem.F.excBase_ValueError
abbrev uo:=@List.nodup_iff_pairwise_ne
abbrev uq:=@PySem.Heap.get?_none_of_le
abbrev ur:=@List.mem_append_left
abbrev uv:=@PySem.Around.under_plainId
abbrev uw:=@List.mem_of_mem_take
abbrev ux:=@List.drop_zero
abbrev uy:=@Option.isSome_iff_exists
abbrev uz:=@Nat.min_self
abbrev g00:=@List.mem_nil_iff
abbrev g01:=@PySem.F.called_set
abbrev g02:=@beq_eq_false_iff_ne
abbrev g03:=@List.filterMap_cons
abbrev g04:=@PySem.mem_of_lookup
abbrev g05:=@Int.toNat_of_nonneg
abbrev g06:=@List.getElem?_range
abbrev g07:=@List.map_congr_left
abbrev g08:=@PySem.wpAny_getItem_str_slice
abbrev g09:=@PySem.W.callWith_K
abbrev g0a:=@PySem.W.Looks.here
abbrev g0b:=@List.append_eq_nil_iff
abbrev g0c:=@List.getLast?_eq_some_getLast
abbrev g0d:=@List.getElem?_set
abbrev g0e:=@PySem.wpAny_loadPart_at
abbrev g0f:=@List.nodup_append
abbrev g0g:=@Nat.ne_of_gt
abbrev g0h:=@List.map_nil
abbrev g0i:=@List.cons.sizeOf_spec
abbrev g0j:=@PySem.wpAny_setField
abbrev g0k:=@List.getElem?_toArray
abbrev g0l:=@List.dropLast_concat_getLast
abbrev g0m:=@PyProof.Rows.callWith_type1
abbrev g0n:=@List.idxOf_lt_length_of_mem
abbrev g0o:=@PySem.wpAny_execs_cons
abbrev g0p:=@PySem.call_meets
abbrev g0q:=@List.drop_length
abbrev g0r:=@PySem.F.slot_tuple_mul
abbrev g0s:=@decide_eq_decide
abbrev g0t:=@List.getElem_mem
abbrev g0u:=@Nat.le_succ
abbrev g0v:=@Array.length_toList
abbrev g0w:=@List.map_eq_nil_iff
abbrev g0x:=@PySem.wpAny_passesOwn
abbrev g0y:=@List.of_mem_zip
abbrev g0z:=@Bool.or_eq_true
abbrev g11:=@Array.append_assoc
abbrev g12:=@PySem.W.of_hideAll
abbrev g13:=@Nat.le_of_lt
abbrev g14:=@PySem.Calls.Constant_str
abbrev g15:=@PySem.F.args_tuple_add_2
abbrev g16:=@PySem.wpAny_comprehension_free
abbrev g17:=@PySem.Code.quiet_builtin
abbrev g18:=@PySem.AutoSeq1.sub_tuple_tuple
abbrev g19:=@PySem.Heap.size_push
abbrev g1a:=@Option.some_or
abbrev g1b:=@PySem.F.entry_tuple_add
abbrev g1c:=@List.getElem?_cons_succ
abbrev g1d:=@PyProof.Rows.F.plain_set_update_loop
abbrev g1e:=@List.getElem?_cons_zero
abbrev g1f:=@Nat.toDigits_of_lt_base
abbrev g1g:=@Option.some.injEq
abbrev g1h:=@Bool.not_eq_true'
abbrev g1i:=@List.pairwise_map
abbrev g1j:=@PySem.W.cellsFrom_some
abbrev g1k:=@PySem.F.slot_tuple_add
abbrev g1l:=@List.range_succ_eq_map
abbrev g1m:=@PySem.F.plainAttrs_str
abbrev g1n:=@List.all_cons
abbrev g1o:=@PySem.wpAny_standAt
abbrev g1p:=@beq_self_eq_true
abbrev g1q:=@Option.join_some
abbrev g1r:=@or_false
abbrev g1s:=@List.not_mem_nil
abbrev g1t:=@List.length_replicate
abbrev g1u:=@List.take_append_drop
abbrev g1v:=@List.mem_filter
abbrev g1w:=@PySem.W.hideAll_none
abbrev g1x:=@PySem.wpAny_execs_nil
abbrev g1y:=@Bool.eq_iff_iff
abbrev g1z:=@List.nodup_cons
abbrev g20:=@PyProof.Rows.callWith_builtin1
abbrev g21:=@PySem.wpAny_typeOf
abbrev g22:=@PySem.typeIs_str
abbrev g23:=@PySem.W.kia_one
abbrev g24:=@PySem.wpAny_ite_false
abbrev g25:=@PySem.post_val_or_str
abbrev g26:=@List.mem_of_mem_drop
abbrev g27:=@List.eq_nil_of_length_eq_zero
abbrev g28:=@PySem.W.hideAll_get
abbrev g29:=@ne_true_of_eq_false
abbrev g2a:=@List.take_zero
abbrev g2b:=@PySem.F.slot_dict_setdefault
abbrev g2c:=@List.mem_filterMap
abbrev g2d:=@PySem.F.args_tuple_mul_2
abbrev g2e:=@PySem.F.args_str_split_2
abbrev g2f:=@Int.toNat_natCast
abbrev g2g:=@PySem.wpAny_pyIter_list
abbrev g2h:=@decide_eq_true_eq
abbrev g2i:=@PySem.F.entry_tuple_mul
abbrev g2j:=@PySem.F.entry_str_split
abbrev g2k:=@List.foldl_append
abbrev g2l:=@List.ext_getElem?
abbrev g2m:=@Decidable.byContradiction
abbrev g2n:=@List.getElem?_take_of_lt
abbrev g2o:=@PySem.concat_meets
abbrev g2p:=@PySem.noFill_tuple_add
abbrev g2q:=@Nat.le_of_not_lt
abbrev g2r:=@Option.getD_some
abbrev g2s:=@List.take_length
abbrev g2t:=@List.all_map
abbrev g2u:=@Nat.lt_succ_self
abbrev g2v:=@PySem.AutoSeq1.idx_int
abbrev g2w:=@PySem.F.slot_str_split
abbrev g2x:=@PySem.Txt.slice_le
abbrev g2y:=@List.any_eq_true
abbrev g2z:=@Nat.min_eq_right
abbrev g30:=@List.Pairwise.imp_of_mem
abbrev g31:=@List.mem_flatten
abbrev g32:=@Int.eq_ofNat_of_zero_le
abbrev g33:=@PySem.SeqAt.EqAt.same
abbrev g34:=@List.forIn_cons
abbrev g35:=@PySem.codeAny_of_tree
abbrev g36:=@Nat.min_eq_left
abbrev g37:=@List.cons.injEq
abbrev g38:=@List.sum_replicate_nat
abbrev g39:=@List.drop_eq_nil_of_le
abbrev g3a:=@List.singleton_append
abbrev g3b:=@List.getElem?_eq_none
abbrev g3c:=@List.length_filter_le
abbrev g3d:=@Bool.not_true
abbrev g3e:=@List.sum_cons
abbrev g3f:=@Bool.true_and
abbrev g3g:=@Bool.or_true
abbrev g3h:=@Nat.succ_mul
namespace L2
open PySem PySem.Spec PyProof.Rows
abbrev Key:=Sum Int Str
def q7x:Key->Value->Bool
 | .inl k,v=>Value.isInt k v
 | .inr x,v=>Value.isStrOf x v
def qqq(w:World): Key->Int
 | .inl k=>hashInt k
 | .inr x=>hashStr w x
theorem xw:∀ {k:Key} {v:Value},q7x k v=true->(∃i t,k=Sum.inl i/\v=Value.int i t)\/(∃x t,k=Sum.inr x/\v=Value.str x t)
 | .inl i,v,h=>by
  obtain⟨t,e⟩:=Value.isInt_shape (k:=i) (v:=v) h;exact .inl ⟨i,t,rfl,e⟩
 | .inr x,v,h=>by
  obtain⟨t,e⟩:=Value.isStrOf_shape (x:=x) (v:=v) h;exact .inr ⟨x,t,rfl,e⟩
theorem qh4(x:Str)(t:Tok): q7x (.inr x) (.str x t)=true:=by simp [q7x,Value.isStrOf]
theorem qne(a b:Int): decide ((Sum.inl a:Key)=Sum.inl b)=(a==b):=by
 by_cases e:a=b
 ·subst e;simp
 ·have h:¬(Sum.inl a:Key)=Sum.inl b:=fun q=>e (Sum.inl.inj q)
  rw [gq h];exact(g02.mpr e).symm
theorem qnf(a b:Str): decide ((Sum.inr a:Key)=Sum.inr b)=decide (a=b):=by
 by_cases e:a=b
 ·subst e;simp
 ·have h:¬(Sum.inr a:Key)=Sum.inr b:=fun q=>e (Sum.inr.inj q)
  rw [gq h,gq e]
theorem qng(a:Int)(b:Str): decide ((Sum.inl a:Key)=Sum.inr b)=false:=gq (fun q=>nomatch q)
theorem qnh(a:Str)(b:Int): decide ((Sum.inr a:Key)=Sum.inl b)=false:=gq (fun q=>nomatch q)
def mixKind(prog:Program)(w:World): PySem.KeyKind prog w Key where
 is:=q7x
 hash:=qqq w
 inj:=fun v a b ha hb=>by
  rcases xw ha with⟨i,t,rfl,rfl⟩|⟨x,t,rfl,rfl⟩
  ·rcases xw hb with⟨j,u,rfl,e⟩|⟨y,u,rfl,e⟩
   ·injection e with e1 _;rw [e1]
   ·exact nomatch e
  ·rcases xw hb with⟨j,u,rfl,e⟩|⟨y,u,rfl,e⟩
   ·exact nomatch e
   ·injection e with e1 _;rw [e1]
 byValue:=fun k v h=>by
  rcases xw h with⟨i,t,rfl,rfl⟩|⟨x,t,rfl,rfl⟩ <;> rfl
 pyHash:=fun hv h=>by
  rcases xw hv with⟨i,t,rfl,rfl⟩|⟨x,t,rfl,rfl⟩
  ·exact wpAny_pyHash_int h
  ·exact wpAny_pyHash_str h
 eqBool:=fun hu hv h=>by
  rcases xw hu with⟨i,t,rfl,rfl⟩|⟨x,t,rfl,rfl⟩
  ·rcases xw hv with⟨j,u,rfl,rfl⟩|⟨y,u,rfl,rfl⟩
   ·rw [qne] at h;exact wpAny_eqBool_int h
   ·rw [qng] at h;exact SeqAt.EqAt.int_str i t y u _ _ _ _ h
  ·rcases xw hv with⟨j,u,rfl,rfl⟩|⟨y,u,rfl,rfl⟩
   ·rw [qnh] at h;exact SeqAt.EqAt.str_int x t j u _ _ _ _ h
   ·rw [qnf] at h;exact wpAny_eqBool_str h
 «strs» :=fun k x t v h=>by
  rcases xw h with⟨i,u,rfl,e⟩|⟨y,u,rfl,e⟩
  ·exact nomatch e
  ·injection e with e1 _
   subst e1;cases v <;> rfl
theorem q6x(prog:Program)(w:World)(x:Str)(t:Tok): (mixKind prog w).is (.inr x) (.str x t)=true:=qh4 x t
inductive V where
 | non|bl (b:Bool)|int (i:Int)|str (x:Str)|byt (b:Array UInt8)|flt (b:UInt64)|ref (a:Addr)|ty (n:String)
 deriving DecidableEq
def RelV:V->Value->Prop
 | .non,u=>u=Value.none
 | .bl b,u=>u=Value.bool b
 | .int i,u=>∃t,u=Value.int i t
 | .str x,u=>∃t,u=Value.str x t
 | .byt b,u=>∃t,u=Value.bytes b t
 | .flt b,u=>∃t,u=Value.float b t
 | .ref a,u=>u=Value.ref a
 | .ty n,u=>u=Value.type n
abbrev Vals:List V->List Value->Prop:=Paired RelV
theorem Vals.length{xs:List V}{us:List Value}(r:Vals xs us): xs.length=us.length:=Paired.length r
theorem Vals.get:∀ {xs:List V} {us:List Value} {i:Nat} {x:V},Vals xs us->xs[i]? = some x->∃u,us[i]? = some u/\RelV x u
 | _,_,_,_,.nil,e=>by simp at e
 | _,_,0,_,.cons r _,e=>by simp at e;subst e;exact⟨_,rfl,r⟩
 | _,_,i+1,x,.cons _ t,e=>by
  obtain⟨u,h1,h2⟩:=Vals.get (i:=i) (x:=x) t (by simpa using e);exact⟨u,by simpa using h1,h2⟩
theorem Vals.append:∀ {xs ys:List V} {us ws:List Value},Vals xs us->Vals ys ws->Vals (xs++ys) (us++ws)
 | _,_,_,_,.nil,s=>s
 | _,_,_,_,.cons r t,s=>.cons r (Vals.append t s)
theorem Vals.take:∀ {xs:List V} {us:List Value} (n:Nat),Vals xs us->Vals (xs.take n) (us.take n)
 | _,_,0,_=>.nil
 | _,_,_+1,.nil=>.nil
 | _,_,n+1,.cons r t=>.cons r (Vals.take n t)
theorem Vals.drop:∀ {xs:List V} {us:List Value} (n:Nat),Vals xs us->Vals (xs.drop n) (us.drop n)
 | _,_,0,r=>r
 | _,_,_+1,.nil=>.nil
 | _,_,n+1,.cons _ t=>Vals.drop n t
def qfh:Option V->Option Value->Prop
 | some v,some u=>RelV v u
 | none,none=>True
 | _,_=>False
def KV{κ : Type}: List (κ × V)->List (κ × Value)->Prop:=Paired fun(p : κ × V) (q : κ × Value)=>p.1=q.1/\RelV p.2 q.2
def kV:Key->V
 | .inl i=>.int i
 | .inr x=>.str x
inductive HO where
 /-- a list -/
 | lst (xs:List V)
 /-- a tuple (never changes) -/
 | tup (xs:List V)
 /-- a dict whose keys are ints and texts; one whose keys are tuples of ints and texts (the empty one is both) -/
 | dK (kvs:List (Key×V))|dT (kvs:List (List Key×V))
 /-- a set of ints: its members, its size -/
 | set (S:Int->Bool) (n:Nat)
 /-- an instance of the class at C, its dict at dx, its attributes -/
 | ins (C dx:Addr) (fs:List (Str×V))
 /-- the dict of the instance at x -/
 | own (x:Addr)
 /-- the dict of an exception -/
 | xd (fs:List (Str×V))
 /-- a bound method, f of x -/
 | met (f x:Addr)
 /-- a range object lo, lo + 1, .. below hi -/
 | rng (lo hi:Int)
 /-- a thing that is known to the object (the script; a dict while a loop walks it): read, never written while it is so -/
 | frz (o:Obj) (u:HO)
 /-- a code object's table -/
 | tbl (ps:Array Value)
 /-- any other thing, by what is true of its one object (a def of one's own: SetO a S n := HO.ext fun h => ..) -/
 | ext (φ : Heap->Prop)
abbrev Hp:=Addr->Option HO
def upd(H:Hp)(a:Addr)(o:HO): Hp:=fun b=>if b=a then some o else H b
theorem z7{H:Hp}{a:Addr}{o:HO}: upd H a o a=some o:=by unfold upd;rw [gy rfl]
theorem qu{H:Hp}{a b:Addr}{o:HO}(h:b≠a): upd H a o b=H b:=by unfold upd;rw [ma h]
theorem xx{H:Hp}{a b:Addr}{o:HO}(h:H a=some o)(h':H b=none): a≠b:=by
 intro e;subst e;rw [h] at h';cases h'
def TupX(h:Heap)(a:Addr)(items:Array Value): Prop:=∃o,h.get? a=some o/\o.cls=.type "tuple" /\ o.dict=none/\∃n,o.data=.seq items n
theorem TupX.up{h:Heap}{a:Addr}{items:Array Value}(p:TupX h a items): IsTup h a items:=let⟨o,x,y,_,z⟩:=p; ⟨o,x,y,z⟩
theorem TupX.new(h:Heap)(items:Array Value): TupX (h.push {cls:=.type "tuple",data:=.seq items}) h.objs.size items:=⟨_,md _ rfl,rfl,rfl,_,rfl⟩
section
variable(P:Program)(w:World)
def ObjOk(H:Hp)(h:Heap)(a:Addr): HO->Prop
 | .lst xs=>xs.length<=sizeLine/\∃(its:List Value) (n:Nat),Vals xs its/\h.get? a=some {cls:=.type "list",data:=.seq its.toArray n}
 | .tup xs=>xs.length<=sizeLine/\∃its:List Value,Vals xs its/\TupX h a its.toArray
 | .dK kvs=>kvs.length<=sizeLine/\(a==sysModules)=false/\∃vs,KV kvs vs/\h.DictOf (mixKind P w) a vs
 | .dT kvs=>kvs.length<=sizeLine/\(a==sysModules)=false/\∃xs:List (List Key×Addr×Value),
   Paired (fun(p:List Key×V) (q:List Key×Addr×Value)=>p.1=q.1/\H q.2.1=some (.tup (p.1.map kV))/\RelV p.2 q.2.2) kvs xs /\
   ∃o es ep,h.get? a=some o/\o.ExactDict/\o.data=.dict es ep/\es.toList=xs.map (entryOfKey (tupleKind (mixKind P w)))/\(xs.map (·.1)).Nodup
 | .set S n=>h.SetOf (intKind P w) a S n
 | .ins C dx fs=>H dx=some (.own a)/\fs.length<=1000/\dx≠a/\h.get? a=some (PySem.W.instObj C dx) /\
   ∃mA,h.Ns1 dx mA/\(∀f,qfh (fs.lookup f) (mA f))/\PySem.Within mA (fs.map (·.1))
 | .own _=>∃o,h.get? a=some o
 | .xd fs=>∃mA,h.Ns1 a mA/\∀f,qfh (fs.lookup f) (mA f)
 | .rng lo hi=>∃t u v,h.get? a=some {cls:=.type "range",data:=.fields #[.int lo t,.int hi u,.int 1 v]}
 | .frz o u=>h.get? a=some o/\ObjOk H h a u
 | .tbl ps=>h.get? a=some {cls:=.none,data:=.fields ps}
 | .met f x=>h.get? a=some (PySem.W.methodObj (.ref f) (.ref x))
 | .ext φ => φ h/\(∃o,h.get? a=some o)/\∀h1 h2:Heap, φ h1->(∀o,h1.get? a=some o->h2.get? a=some o) -> φ h2
def HOk(H:Hp)(h:Heap): Prop:=∀a o,H a=some o->ObjOk P w H h a o
end
section
variable{P:Program}{w:World}{H H':Hp}{h h':Heap}{a:Addr}{o:HO}
theorem ObjOk.lt(x:ObjOk P w H h a o): a<h.objs.size:=by
 cases o with
 | lst xs=>obtain⟨_,_,_,_,e⟩:=x;exact gv e
 | tup xs=>obtain⟨_,_,_,p⟩:=x;exact p.up.lt
 | dK kvs=>obtain⟨_,_,_,_,o,_,_,e,_⟩:=x;exact gv e
 | dT kvs=>obtain⟨_,_,_,_,o,_,_,e,_⟩:=x;exact gv e
 | set S n=>obtain⟨o,_,_,_,e,_⟩:=x;exact gv e
 | ins C dx fs=>obtain⟨_,_,_,e,_⟩:=x;exact gv e
 | own y=>obtain⟨_,e⟩:=x;exact gv e
 | xd fs=>obtain⟨_,⟨_,_,_,e,_⟩,_⟩:=x;exact gv e
 | rng lo hi=>obtain⟨_,_,_,e⟩:=x;exact gv e
 | frz ob u=>obtain⟨e,_⟩:=x;exact gv e
 | tbl ps=>exact gv (show h.get? a=some _ from x)
 | met f y=>exact gv (show h.get? a=some _ from x)
 | ext φ =>obtain⟨_,⟨_,e⟩,_⟩:=x;exact gv e
theorem Paired.mapP{α β : Type}{F G : α -> β -> Prop}: ∀ {l₁:List α} {l₂:List β},Paired F l₁ l₂->(∀a b,F a b->G a b)->Paired G l₁ l₂
 | _,_,.nil,_=>.nil
 | _,_,.cons r t,f=>.cons (f _ _ r) (Paired.mapP t f)
theorem ObjOk.stay(x:ObjOk P w H h a o)(k:∀b u,(b=a\/H b=some (.own a))->h.get? b=some u->h'.get? b=some u)
  (ho:∀b,H b=some (.own a)->H' b=some (.own a)) (ht:∀b xs,H b=some (.tup xs)->H' b=some (.tup xs)):ObjOk P w H' h' a o:=by
 induction o with
 | lst xs=>obtain⟨z,its,n,r,e⟩:=x;exact⟨z,its,n,r,k _ _ (.inl rfl) e⟩
 | tup xs=>obtain⟨z,its,r,ob,e,c⟩:=x;exact⟨z,its,r,ob,k _ _ (.inl rfl) e,c⟩
 | dK kvs=>obtain⟨z,y,vs,r,ob,es,ep,e,c⟩:=x;exact⟨z,y,vs,r,ob,es,ep,k _ _ (.inl rfl) e,c⟩
 | dT kvs=>
  obtain⟨z,y,xs,r,ob,es,ep,e,c⟩:=x;exact⟨z,y,xs,Paired.mapP r fun p q z=>⟨z.1,ht _ _ z.2.1,z.2.2⟩,ob,es,ep,k _ _ (.inl rfl) e,c⟩
 | set S n=>obtain⟨ob,es,ep,t,e,c⟩:=x;exact⟨ob,es,ep,t,k _ _ (.inl rfl) e,c⟩
 | ins C dx fs=>
  obtain⟨d,z,ne,e,mA,⟨od,es,ep,e2,c⟩,r⟩:=x;exact⟨ho _ d,z,ne,k _ _ (.inl rfl) e,mA,⟨od,es,ep,k _ _ (.inr d) e2,c⟩,r⟩
 | own y=>obtain⟨ob,e⟩:=x;exact⟨ob,k _ _ (.inl rfl) e⟩
 | xd fs=>obtain⟨mA,⟨od,es,ep,e,c⟩,r⟩:=x;exact⟨mA,⟨od,es,ep,k _ _ (.inl rfl) e,c⟩,r⟩
 | rng lo hi=>obtain⟨t,u,v,e⟩:=x;exact⟨t,u,v,k _ _ (.inl rfl) e⟩
 | frz ob u ih=>obtain⟨e,q⟩:=x;exact⟨k _ _ (.inl rfl) e,ih q⟩
 | tbl ps=>
  have e:h.get? a=some {cls:=.none,data:=.fields ps}:=x;show h'.get? a=some {cls:=.none,data:=.fields ps};exact k a _ (.inl rfl) e
 | met f y=>
  have e:h.get? a=some (PySem.W.methodObj (.ref f) (.ref y)):=x;show h'.get? a=some (PySem.W.methodObj (.ref f) (.ref y));exact k a _ (.inl rfl) e
 | ext φ =>obtain⟨p,⟨o,e⟩,st⟩:=x;exact⟨st _ _ p fun o q=>k _ _ (.inl rfl) q,⟨o,k _ _ (.inl rfl) e⟩,st⟩
theorem HOk.lt(x:HOk P w H h)(e:H a=some o): a<h.objs.size:=(x a o e).lt
theorem HOk.fresh(x:HOk P w H h)(e:h.objs.size<=a): H a=none:=by
 cases q:H a with
 | none=>rfl
 | some u=>exact absurd (m8 (x.lt q) e) (p8 _)
theorem HOk.kept(x:HOk P w H h)(k:∀b u,h.get? b=some u->h'.get? b=some u): HOk P w H h':=fun a o e=>
 (x a o e).stay (fun b u _ q=>k b u q) (fun _ q=>q) fun _ _ q=>q
theorem HOk.laid(x:HOk P w H h)(k:∀b u,h.get? b=some u->h'.get? b=some u)(hp:h.objs.size<=a)(new:ObjOk P w (upd H a o) h' a o): HOk P w (upd H a o) h':=fun b u e=>by
 have hn:=x.fresh hp
 by_cases hb:b=a
 ·subst hb;rw [z7] at e;cases e;exact new
 ·rw [qu hb] at e
  exact(x b u e).stay (fun c v _ q=>k c v q) (fun c q=>by rw [qu (xx q hn)];exact q) fun c xs q=>by rw [qu (xx q hn)];exact q
end
def Rd(H:Hp)(a:Addr)(u:HO): Prop:=H a=some u\/∃o,H a=some (.frz o u)
theorem Rd.ok{P:Program}{w:World}{H:Hp}{h:Heap}{a:Addr}{u:HO}(r:Rd H a u)(x:HOk P w H h): ObjOk P w H h a u:=by
 rcases r with r|⟨o,r⟩
 ·exact x a u r
 ·obtain⟨_,q⟩:=x a _ r
  exact q
def Mut:Option HO->Prop
 | some (.lst _)=>True
 | some (.dK _)=>True
 | some (.dT _)=>True
 | some (.set _ _)=>True
 | some (.ins _ _ _)=>True
 | some (.ext _)=>True
 | _=>False
section
variable{P:Program}{w:World}{H:Hp}{h h':Heap}{x e:Addr}{o':HO}
theorem HOk.write(ok:HOk P w H h)(mu:Mut (H x))(he:e=x\/H e=some (.own x))(k:∀b u,b≠e->h.get? b=some u->h'.get? b=some u)(heo:∃u,h'.get? e=some u)
  (new:ObjOk P w (upd H x o') h' x o'):HOk P w (upd H x o') h':=fun b u q=>by
 have nown:∀c y,H c=some (.own y)->c≠x:=fun c y r z=>by subst z;rw [r] at mu;exact mu
 have ntup:∀c xs,H c=some (.tup xs)->c≠x:=fun c xs r z=>by subst z;rw [r] at mu;exact mu
 by_cases hb:b=x
 ·subst hb;rw [z7] at q;cases q;exact new
 ·rw [qu hb] at q
  by_cases hbe:b=e
  ·have q':H b=some (.own x):=by
    rcases he with z|z
    ·exact absurd (hbe.trans z) hb
    ·rw [hbe];exact z
   rw [q] at q';cases q';obtain⟨v,hv⟩:=heo;exact⟨v,by rw [hbe];exact hv⟩
  ·refine(ok b u q).stay (fun c v hc r=>k c v ?_ r) (fun c r=>by rw [qu (nown c b r)];exact r) fun c xs r=>by rw [qu (ntup c xs r)];exact r
   rcases hc with rfl|hc
   ·exact hbe
   ·rintro rfl
    rcases he with z|z
    ·exact nown c b hc z
    ·rw [hc] at z;cases z;exact hb rfl
end
structure Un(fs ex:List Addr)(H H':Hp)(h h':Heap): Prop where
 keep:∀b o,h.get? b=some o->H b=none->b∉fs->b∉ex->h'.get? b=some o
 slot:∀b o,h.get? b=some o->H b=none->b∈fs->b∉ex->∃sl,h'.get? b=some {o with slots:=sl}
 free:∀b o,h.get? b=some o->H b=none->b∉ex->H' b=none
 there:∀b o,h.get? b=some o->b∉ex->∃o',h'.get? b=some o'
 tups:∀b xs,H b=some (.tup xs)->H' b=some (.tup xs)
 frzs:∀b o u,H b=some (.frz o u)->H' b=some (.frz o u)
 tbls:∀b ps,H b=some (.tbl ps)->∃more,H' b=some (.tbl (ps++more))
section
variable{fs fs' ex ex':List Addr}{H H1 H2:Hp}{h h1 h2 h':Heap}{a x e:Addr}{o:HO}
theorem Un.any(u:Un fs ex H H1 h h1){b:Addr}{ob:Obj}(q:h.get? b=some ob)(n:H b=none)(hx:b∉ex): ∃sl,h1.get? b=some {ob with slots:=sl}:=by
 by_cases hb:b∈fs
 ·exact u.slot b ob q n hb hx
 ·exact⟨ob.slots,u.keep b ob q n hb hx⟩
theorem Un.trans(a:Un fs ex H H1 h h1)(b:Un fs ex H1 H2 h1 h2): Un fs ex H H2 h h2 where
 keep:=fun c ob q n hc hx=>b.keep c ob (a.keep c ob q n hc hx) (a.free c ob q n hx) hc hx
 slot:=fun c ob q n hc hx=>by
  obtain⟨sl,e1⟩:=a.slot c ob q n hc hx;obtain⟨sl',e2⟩:=b.slot c _ e1 (a.free c ob q n hx) hc hx;exact⟨sl',e2⟩
 free:=fun c ob q n hx=>by
  obtain⟨o',e1⟩:=a.there c ob q hx;exact b.free c o' e1 (a.free c ob q n hx) hx
 there:=fun c ob q hx=>by
  obtain⟨o',e1⟩:=a.there c ob q hx;exact b.there c o' e1 hx
 tups:=fun c xs q=>b.tups c xs (a.tups c xs q)
 frzs:=fun c ob xs q=>b.frzs c ob xs (a.frzs c ob xs q)
 tbls:=fun c ps q=>by
  obtain⟨m1,e1⟩:=a.tbls c ps q;obtain⟨m2,e2⟩:=b.tbls c _ e1;exact⟨m1++m2,by rw [e2,g11]⟩
theorem Un.kept(k:∀b u,h.get? b=some u->h'.get? b=some u): Un fs ex H H h h':=
 ⟨fun b ob q _ _ _=>k b ob q,fun b ob q _ _ _=>⟨ob.slots,k b ob q⟩,fun _ _ _ n _=>n,fun b ob q _=>⟨ob,k b ob q⟩,fun _ _ q=>q,fun _ _ _ q=>q,fun _ ps q=>⟨#[],by rw [q];simp⟩⟩
theorem Un.refl:Un fs ex H H h h:=Un.kept fun _ _ q=>q
theorem Un.laid(k:∀b u,h.get? b=some u->h'.get? b=some u)(hp:h.objs.size<=a)(hn:H a=none): Un fs ex H (upd H a o) h h' where
 keep:=fun b u q _ _ _=>k b u q
 slot:=fun b u q _ _ _=>⟨u.slots,k b u q⟩
 free:=fun b u q n _=>by rw [qu (mj (m8 (gv q) hp))];exact n
 there:=fun b u q _=>⟨u,k b u q⟩
 tups:=fun b xs q=>by rw [qu (xx q hn)];exact q
 frzs:=fun b u xs q=>by rw [qu (xx q hn)];exact q
 tbls:=fun b ps q=>⟨#[],by rw [qu (xx q hn),q];simp⟩
theorem Un.write(mu:Mut (H x))(he:e=x\/H e=some (.own x))(k:∀b u,b≠e->h.get? b=some u->h'.get? b=some u)(heo:∃u,h'.get? e=some u): Un fs ex H (upd H x o) h h':=by
 have hx:∀b,H b=none->b≠x:=fun b n z=>by subst z;rw [n] at mu;exact mu
 have hb:∀b,H b=none->b≠e:=fun b n z=>by
  subst z;rcases he with r|r
  ·exact hx b n r
  ·rw [n] at r;cases r
 have hm:∀b u,H b=some u->¬Mut (some u)->b≠x:=fun b u q nm z=>by subst z;rw [q] at mu;exact nm mu
 refine⟨fun b u q n _ _=>k b u (hb b n) q,fun b u q n _ _=>⟨u.slots,k b u (hb b n) q⟩,fun b u q n _=>by rw [qu (hx b n)];exact n,fun b u q _=>?_,
  fun b xs q=>by rw [qu (hm b _ q fun z=>z)];exact q,fun b u xs q=>by rw [qu (hm b _ q fun z=>z)];exact q,fun b ps q=>⟨#[],by rw [qu (hm b _ q fun z=>z),q];simp⟩⟩
 by_cases hbe:b=e
 ·subst hbe;exact heo
 ·exact⟨u,k b u hbe q⟩
end
def trk(h:Heap)(H:Hp): List Addr:=(List.range h.objs.size).filter fun a=>(H a).isSome
def q4a(h:Heap)(H:Hp): Heap:=PySem.W.hideAll h (trk h H)
theorem qh5(h:Heap)(H:Hp): (q4a h H).objs.size=h.objs.size:=PySem.W.hideAll_size _ _
theorem qj4{h:Heap}{H:Hp}{b:Addr}{o:Obj}(e:h.get? b=some o)(n:H b=none): (q4a h H).get? b=some o:=
 g28 _ e fun hm=>by
  have q:(H b).isSome=true:=(g1v.mp hm).2;rw [n] at q;simp at q
theorem qlj{h:Heap}{H:Hp}{b:Addr}{o:Obj}(e:(q4a h H).get? b=some o): h.get? b=some o/\H b=none:=by
 have e':h.get? b=some o:=g12 (trk h H) e;refine⟨e',?_⟩;cases q:H b with
 | none=>rfl
 | some x=>
  have hm:b∈trk h H:=g1v.mpr ⟨mv.mpr (gv e'),by simp [q]⟩;have z:(q4a h H).get? b=none:=g1w (trk h H) hm;rw [z] at e;cases e
def qlk(g h:Heap)(L:Addr): List (Addr×Obj):=(List.range h.objs.size).filterMap fun a=>if a=L\/(g.get? a).isSome=true then none else(h.get? a).map fun o=>(a,o)
def rest(g h:Heap)(L d:Addr): List (Addr×Obj):=(qlk g h L).filter fun p=>decide (p.1≠d)
structure Mod(K:PySem.W.Frag)(mg:Str->Option Value)(base:Heap): Prop where
 kin:K.In base
 glob:base.Ns mainGlobals mg
 blt:∃mb,base.Ns builtinsNs mb/\∀x:Str,x≠"__name__" -> mb x=bootBuiltins x
 nolimit:base.NoLimit
structure Cx where
 prog:Program
 w:World
 K:PySem.W.Frag
 mg:Str->Option Value
 base:Heap
 A:Around
 N:List Str
 s₀:Shared
 H₀:Hp
 env:Env
 outer:List Env
 stack:List Env
 ex:List Addr
 fn:Str->Bool
 calm:Bool
 pn:List (Addr×Obj)
 xe:Value->Shared->Prop
def frs(l:List Env): List Addr:=l.filterMap (·.frame)
abbrev Cx.fs(X:Cx): List Addr:=frs X.outer
def Vis(sc:Scope)(x:Str): Prop:=sc.names.lookup x=some .local\/sc.names.lookup x=some .cell\/sc.names.lookup x=some .free
def Loc(sc:Scope)(x:Str): Prop:=sc.names.lookup x=some .local\/sc.names.lookup x=some .cell
def Look(env:Env)(h:Heap)(m:Str->Option Value)(x:Str)(u:Value): Prop:=
 (env.kindOf x=some .local/\m x=some u)\/((env.kindOf x=some .cell\/env.kindOf x=some .free)/\∃c,env.cells.lookup x=some c/\h.IsCell c (some u))
structure Cx.Ok(X:Cx): Prop where
 mod:Mod X.K X.mg X.base
 kind:X.env.scope.kind=.function
 glob:X.env.globals=mainGlobals
 blt:X.env.builtins=builtinsNs
 above:X.s₀.heap.objs.size<=X.env.locals
 inj:∀x y c,X.env.cells.lookup x=some c->X.env.cells.lookup y=some c->x=y
 has:∀x,(X.env.kindOf x=some .cell\/X.env.kindOf x=some .free)->∃c,X.env.cells.lookup x=some c
 cab:∀x c,X.fn x=true->X.env.cells.lookup x=some c->X.s₀.heap.objs.size<=c
 hd:X.calm=true->X.A.handled=none
 frames:X.A.frames=some X.stack
 stk:X.stack=X.outer\/(X.stack=X.env :: X.outer/\X.env.frame=some X.env.locals)
 exf:∀b∈X.ex,b≠X.env.locals/\∀x c,X.env.cells.lookup x=some c->c≠b
 bs:∀b o,X.base.get? b=some o->X.s₀.heap.get? b=some o/\X.H₀ b=none
 bsz:X.base.objs.size<=X.s₀.heap.objs.size
 noex:∀b o,X.base.get? b=some o->b∉X.ex
 exfs:∀b∈X.ex,b∉X.fs
 funs:X.s₀.heap.FunFrames X.base X.outer
 frf:∀b∈X.fs,X.H₀ b=none
structure Inv(X:Cx)(pins:List (Addr×Obj))(σ : List (Option V))(H:Hp)(s:Shared): Prop where
 ok:X.Ok
 os:s.os=X.s₀.os
 bare:AllBare s.gens
 base:Un X.fs X.ex X.H₀ H X.s₀.heap s.heap
 loc:∃m,s.heap.Ns X.env.locals m/\∀(i:Nat) (x:Str) (v:V),X.N[i]? = some x -> σ[i]? = some (some v)->Vis X.env.scope x->∃u,RelV v u/\Look X.env s.heap m x u
 cell:∀x c,X.env.cells.lookup x=some c->∃v,s.heap.IsCell c v
 free:H X.env.locals=none
 freeC:∀x c,X.env.cells.lookup x=some c->H c=none
 pin:∀p∈X.pn++pins,s.heap.get? p.1=some p.2/\H p.1=none/\p.1≠X.env.locals/\p.1∉X.fs/\∀v,p.2.data ≠ .cell v
 hok:HOk X.prog X.w H s.heap
 len : σ.length=X.N.length
section
variable{X:Cx}{pins:List (Addr×Obj)}{σ : List (Option V)}{H H':Hp}{s:Shared}{h':Heap}
theorem Cx.Ok.nofr(ok:X.Ok){b:Addr}{o:Obj}(e:X.base.get? b=some o): b∉X.fs:=fun hb=>by
 have:=(ok.funs.mem hb).1;rw [e] at this;cases this
theorem Inv.bs(I:Inv X pins σ H s): ∀b o,X.base.get? b=some o->s.heap.get? b=some o/\H b=none:=fun b o e=>
 ⟨I.base.keep b o (I.ok.bs b o e).1 (I.ok.bs b o e).2 (I.ok.nofr e) (I.ok.noex b o e),I.base.free b o (I.ok.bs b o e).1 (I.ok.bs b o e).2 (I.ok.noex b o e)⟩
theorem Inv.bk(I:Inv X pins σ H s): ∀b o,X.base.get? b=some o->s.heap.get? b=some o:=fun b o e=>(I.bs b o e).1
theorem Inv.mod(I:Inv X pins σ H s): Mod X.K X.mg X.base:=I.ok.mod
theorem Inv.kIn(I:Inv X pins σ H s): X.K.In s.heap:=I.ok.mod.kin.keeps I.bk
theorem Inv.lt(I:Inv X pins σ H s): X.env.locals<s.heap.objs.size:=let⟨_,hn,_⟩:=I.loc;hn.lt
theorem Inv.sz(I:Inv X pins σ H s): X.s₀.heap.objs.size<=s.heap.objs.size:=mm I.ok.above (g13 I.lt)
theorem Inv.nofs(I:Inv X pins σ H s){a:Addr}(h:s.heap.objs.size<=a): a∉X.fs:=fun hb=>by
 obtain⟨_,o,ho,_⟩:=I.ok.funs.mem hb;exact absurd (m8 (gv ho) (mm I.sz h)) (p8 _)
theorem Inv.cne(I:Inv X pins σ H s): ∀x c,X.env.cells.lookup x=some c->c≠X.env.locals:=fun x c e z=>by
 obtain⟨v,o,ho,hd⟩:=I.cell x c e;obtain⟨m,⟨o',es,ep,ho',hd',_⟩,_⟩:=I.loc;rw [z,ho'] at ho;cases ho;rw [hd'] at hd;cases hd
theorem Inv.funs(I:Inv X pins σ H s): s.heap.FunFrames X.base X.outer:=by
 have all:∀(l:List Env),(∀b∈frs l,b∈X.fs)->X.s₀.heap.FunFrames X.base l->s.heap.FunFrames X.base l:=by
  intro l
  induction l with
  | nil=>intro _ _;trivial
  | cons env r ih=>
   intro hs hl;obtain⟨hk,⟨L,o,hf,hn,ho,hd⟩,hr⟩:=hl;have hL:L∈X.fs:=hs L (by unfold frs;rw [g03,hf];exact gd);obtain⟨sl,e⟩:=I.base.slot L o ho (I.ok.frf L hL) hL fun z=>I.ok.exfs L z hL;exact⟨hk,⟨L,_,hf,hn,e,hd⟩,ih (fun b hb=>hs b (by unfold frs;rw [g03,hf];exact gi _ hb)) hr⟩
 exact all X.outer (fun _ hb=>hb) I.ok.funs
theorem Inv.stack(I:Inv X pins σ H s): s.heap.FunFrames X.base X.stack:=by
 rcases I.ok.stk with e|⟨e,hf⟩
 ·rw [e];exact I.funs
 ·rw [e]
  obtain⟨m,hn,_⟩:=I.loc;refine .cons (by rw [I.ok.kind];decide) hf hn ?_ I.funs;exact uq (mm I.ok.bsz I.ok.above)
theorem Inv.stkSub(I:Inv X pins σ H s): ∀b∈frs X.stack,b∈X.env.locals :: X.fs:=fun b hb=>by
 rcases I.ok.stk with e|⟨e,hf⟩
 ·rw [e] at hb;exact gi _ hb
 ·rw [e] at hb
  unfold frs at hb;rw [g03,hf] at hb;exact hb
theorem Inv.stkFree(I:Inv X pins σ H s): ∀b∈frs X.stack,H b=none:=fun b hb=>by
 rcases gx.mp (I.stkSub b hb) with e|hb
 ·rw [e];exact I.free
 ·obtain⟨_,o,ho,_⟩:=I.ok.funs.mem hb
  exact I.base.free b o ho (I.ok.frf b hb) fun z=>I.ok.exfs b z hb
theorem Inv.step{g':Array GenState}{t':Nat}{d':Drawn}{ch:List Addr}(I:Inv X pins σ H s)
  (hch:∀b∈ch,(b∈X.ex\/X.s₀.heap.objs.size<=b)/\b≠X.env.locals/\(∀x c,X.env.cells.lookup x=some c->c≠b)/\∀p∈X.pn++pins,p.1≠b)
  (keep:∀b o,b≠X.env.locals->b∉X.fs->b∉ch->s.heap.get? b=some o->H b=none->h'.get? b=some o)
  (slot:∀b o,b≠X.env.locals->b∈X.fs->b∉ch->s.heap.get? b=some o->H b=none->∃sl,h'.get? b=some {o with slots:=sl}) (free:∀b o,b∉ch->s.heap.get? b=some o->H b=none->H' b=none)
  (there:∀b o,b∉ch->s.heap.get? b=some o->∃o',h'.get? b=some o')
  (tups:∀b xs,H b=some (.tup xs)->H' b=some (.tup xs)) (frzs:∀b o u,H b=some (.frz o u)->H' b=some (.frz o u)) (tbls:∀b ps,H b=some (.tbl ps)->∃more,H' b=some (.tbl (ps++more)))
  (ns:∀m,s.heap.Ns X.env.locals m->h'.Ns X.env.locals m) (hok:HOk X.prog X.w H' h') (hg:AllBare g') :
  Inv X pins σ H' {s with heap:=h',gens:=g',drawn:=d',toks:=t'}:=by
 have neL:∀b o,X.s₀.heap.get? b=some o->b≠X.env.locals:=fun b o e=>mj (m8 (gv e) I.ok.above);have neC:∀b o,X.s₀.heap.get? b=some o->b∉X.ex->b∉ch:=fun b o e hx hb=>by
  rcases(hch b hb).1 with z|z
  ·exact hx z
  ·exact absurd (m8 (gv e) z) (p8 _)
 have cellK:∀x c,X.env.cells.lookup x=some c->∀v,s.heap.IsCell c v->h'.IsCell c v:=fun x c e v ⟨o,ho,hd⟩=>by
  have nch:c∉ch:=fun z=>(hch c z).2.2.1 x c e rfl
  by_cases hc:c∈X.fs
  ·obtain⟨sl,q⟩:=slot c o (I.cne x c e) hc nch ho (I.freeC x c e)
   exact⟨_,q,hd⟩
  ·exact⟨o,keep c o (I.cne x c e) hc nch ho (I.freeC x c e),hd⟩
 refine⟨I.ok,I.os,hg,⟨fun b o e n hb hx=>?_,fun b o e n hb hx=>?_,fun b o e n hx=>?_,fun b o e hx=>?_,fun b xs e=>tups b xs (I.base.tups b xs e),fun b o xs e=>frzs b o xs (I.base.frzs b o xs e),fun b ps e=>?_⟩,?_,fun x c e=>?_,?_,fun x c e=>?_,fun p hp=>?_,hok,I.len⟩
 ·exact keep b o (neL b o e) hb (neC b o e hx) (I.base.keep b o e n hb hx) (I.base.free b o e n hx)
 ·obtain⟨sl,e1⟩:=I.base.slot b o e n hb hx
  obtain⟨sl',e2⟩:=slot b _ (neL b o e) hb (neC b o e hx) e1 (I.base.free b o e n hx);exact⟨sl',e2⟩
 ·obtain⟨o',e1⟩:=I.base.there b o e hx
  exact free b o' (neC b o e hx) e1 (I.base.free b o e n hx)
 ·obtain⟨o',e1⟩:=I.base.there b o e hx
  exact there b o' (neC b o e hx) e1
 ·obtain⟨m1,e1⟩:=I.base.tbls b ps e
  obtain⟨m2,e2⟩:=tbls b _ e1;exact⟨m1++m2,by rw [e2,g11]⟩
 ·obtain⟨m,hn,hl⟩:=I.loc
  refine⟨m,ns m hn,fun i x v e1 e2 e3=>?_⟩;obtain⟨u,r,l⟩:=hl i x v e1 e2 e3;refine⟨u,r,?_⟩;rcases l with l|⟨k,c,e,z⟩
  ·exact .inl l
  ·exact .inr ⟨k,c,e,cellK x c e _ z⟩
 ·obtain⟨v,z⟩:=I.cell x c e
  exact⟨v,cellK x c e v z⟩
 ·obtain⟨m,⟨o,_,_,ho,_⟩,_⟩:=I.loc
  exact free _ o (fun z=>(hch _ z).2.1 rfl) ho I.free
 ·obtain⟨v,o,ho,hd⟩:=I.cell x c e
  exact free c o (fun z=>(hch c z).2.2.1 x c e rfl) ho (I.freeC x c e)
 ·obtain⟨e,n,ne,nf,d⟩:=I.pin p hp
  have nch:p.1∉ch:=fun z=>(hch p.1 z).2.2.2 p hp rfl;exact⟨keep p.1 p.2 ne nf nch e n,free p.1 p.2 nch e n,ne,nf,d⟩
theorem Inv.un{t':Nat}(I:Inv X pins σ H s)(u:Un X.fs [] H H' s.heap h')(hok:HOk X.prog X.w H' h'): Inv X pins σ H' {s with heap:=h',toks:=t'}:=by
 obtain⟨m,⟨o,es,ep,ho,r⟩,_⟩:=id I.loc;obtain⟨sl,hL⟩:=u.any ho I.free (by simp);exact I.step (g':=s.gens) (d':=s.drawn) (ch:=[]) (fun _ z=>nomatch z) (fun b o _ hb _ e n=>u.keep b o e n hb (by simp)) (fun b o _ hb _ e n=>u.slot b o e n hb (by simp)) (fun b o _ e n=>u.free b o e n (by simp)) (fun b o _ e=>u.there b o e (by simp)) u.tups u.frzs u.tbls (fun m' hm=>by
  obtain⟨o',es',ep',ho',r'⟩:=hm;rw [ho] at ho';cases ho';exact⟨_,es',ep',hL,r'⟩) hok I.bare
theorem Inv.call{g':Array GenState}{t':Nat}{d':Drawn}{ch:List Addr}(I:Inv X pins σ H s)(u:Un (frs X.stack) ch H H' s.heap h')(hok:HOk X.prog X.w H' h')(hg:AllBare g')
  (hch:∀b∈ch,(b∈X.ex\/X.s₀.heap.objs.size<=b)/\b≠X.env.locals/\(∀x c,X.env.cells.lookup x=some c->c≠b)/\∀p∈X.pn++pins,p.1≠b) :
  Inv X pins σ H' {s with heap:=h',gens:=g',drawn:=d',toks:=t'}:=by
 obtain⟨m,⟨o,es,ep,ho,r⟩,_⟩:=id I.loc;obtain⟨sl,hL⟩:=u.any ho I.free fun z=>(hch _ z).2.1 rfl;exact I.step (ch:=ch) hch (fun b o hL hb hc e n=>u.keep b o e n (fun z=>(gx.mp (I.stkSub b z)).elim hL hb) hc) (fun b o _ _ hc e n=>u.any e n hc) (fun b o hc e n=>u.free b o e n hc) (fun b o hc e=>u.there b o e hc) u.tups u.frzs u.tbls (fun m' hm=>by
  obtain⟨o',es',ep',ho',r'⟩:=hm;rw [ho] at ho';cases ho';exact⟨_,es',ep',hL,r'⟩) hok hg
theorem Inv.turned{t':Nat}{it:Addr}(I:Inv X pins σ H s)(k:∀b o,b≠it->s.heap.get? b=some o->h'.get? b=some o)(hn:H it=none)(hL:it≠X.env.locals)
  (h1:it∈X.ex\/X.s₀.heap.objs.size<=it) (h2:∀x c,X.env.cells.lookup x=some c->c≠it) (h3:∀p∈X.pn++pins,p.1≠it):Inv X pins σ H {s with heap:=h',toks:=t'}:=by
 have nit:∀b u,H b=some u->b≠it:=fun b u e z=>by rw [z,hn] at e;cases e
 refine I.step (g':=s.gens) (d':=s.drawn) (ch:=[it]) (fun b hb=>?_) (fun b o _ _ hc e _=>k b o (fun z=>hc (by simp [z])) e) (fun b o _ _ hc e _=>⟨o.slots,k b o (fun z=>hc (by simp [z])) e⟩) (fun _ _ _ _ n=>n)
  (fun b o hc e=>⟨o,k b o (fun z=>hc (by simp [z])) e⟩) (fun _ _ e=>e) (fun _ _ _ e=>e) (fun b ps e=>⟨#[],by rw [e];simp⟩) (fun m hm=>?_) (fun b u e=>?_) I.bare
 ·have e:b=it:=by simpa using hb
  subst e;exact⟨h1,hL,h2,h3⟩
 ·obtain⟨o,es,ep,ho,r⟩:=hm
  exact⟨o,es,ep,k _ o (m4 hL) ho,r⟩
 ·refine(I.hok b u e).stay (fun c v hc q=>k c v ?_ q) (fun _ q=>q) fun _ _ q=>q
  rcases hc with z|z
  ·rw [z];exact nit b u e
  ·exact nit c _ z
theorem Inv.tok(I:Inv X pins σ H s)(t:Nat): Inv X pins σ H {s with toks:=t}:=I.un (h':=s.heap) (t':=t) Un.refl I.hok
theorem Inv.kept{t':Nat}(I:Inv X pins σ H s)(k:∀b u,s.heap.get? b=some u->h'.get? b=some u): Inv X pins σ H {s with heap:=h',toks:=t'}:=I.un (Un.kept k) (I.hok.kept k)
theorem Inv.laid{a:Addr}{o:HO}{t':Nat}(I:Inv X pins σ H s)(k:∀b u,s.heap.get? b=some u->h'.get? b=some u)(hp:s.heap.objs.size<=a)(new:ObjOk X.prog X.w (upd H a o) h' a o):
  Inv X pins σ (upd H a o) {s with heap:=h',toks:=t'}:=I.un (Un.laid k hp (I.hok.fresh hp)) (I.hok.laid k hp new)
theorem Inv.write{x e:Addr}{o:HO}{t':Nat}(I:Inv X pins σ H s)(mu:Mut (H x))(he:e=x\/H e=some (.own x))(k:∀b u,b≠e->s.heap.get? b=some u->h'.get? b=some u)(heo:∃u,h'.get? e=some u)
  (new:ObjOk X.prog X.w (upd H x o) h' x o):Inv X pins σ (upd H x o) {s with heap:=h',toks:=t'}:=I.un (Un.write mu he k heo) (I.hok.write mu he k heo new)
theorem Inv.pins_of{pins':List (Addr×Obj)}(I:Inv X pins σ H s)(h:∀p∈pins',s.heap.get? p.1=some p.2/\H p.1=none/\p.1≠X.env.locals/\p.1∉X.fs/\∀v,p.2.data ≠ .cell v): Inv X pins' σ H s:=
 ⟨I.ok,I.os,I.bare,I.base,I.loc,I.cell,I.free,I.freeC,fun p hp=>(mz.mp hp).elim (fun z=>I.pin p (ur _ z)) (h p),I.hok,I.len⟩
theorem qbb{N:List Str}(hN:N.Nodup){i j:Nat}{x:Str}(a:N[i]? = some x)(b:N[j]? = some x): i=j:=by
 obtain⟨h1,e1⟩:=n8.mp a;obtain⟨h2,e2⟩:=n8.mp b;exact(List.getElem_inj hN).mp (e1.trans e2.symm)
theorem qh6{M:Model}{A:Around}{E:Value->Shared->Prop}{i:Nat}{x:Str}{v:V}{u:Value}{Q:Unit->Shared->Prop}(I:Inv X pins σ H s)(hN:X.N.Nodup)(hi:X.N[i]? = some x)(hx:Loc X.env.scope x)(r:RelV v u)
  (h:∀s',Inv X pins (σ.set i (some v)) H s'->(∃a,Heap.SameBut a s.heap s'.heap/\(a=X.env.locals\/X.env.cells.lookup x=some a))->Q () s') (hf:X.fn x=true\/X.env.scope.names.lookup x=some .local:=by first|exact .inl rfl|exact .inr rfl|assumption):wpAny M A (storeName X.env x u) Q E s:=by
 obtain⟨m,hn,hl⟩:=id I.loc;have hcls:(X.env.scope.kind == .class || (X.env.scope.kind == .module&&X.env.locals != X.env.globals))=false:=by rw [I.ok.kind];rfl
 have hiσ : i < σ.length:=by rw [I.len];exact(n8.mp hi).1
 have cne:=I.cne;have tracked:∀ {a:Addr} {h':Heap},(∃o,s.heap.get? a=some o/\H a=none)->Heap.SameBut a s.heap h'->HOk X.prog X.w H h':=fun {a h'} ha hs b ob e=>by
  obtain⟨_,_,hfree⟩:=ha;refine(I.hok b ob e).stay (fun c w' hc q=>(hs.2 c ?_).trans q) (fun _ q=>q) fun _ _ q=>q
  rintro rfl
  rcases hc with rfl|hc
  ·rw [hfree] at e;cases e
  ·rw [hfree] at hc;cases hc
 rcases hx with hk|hk
 ·refine wpAny_storeName_local hk hn (fun h' hn' hs=>?_) hcls
  obtain⟨oL,_,_,hoL,_⟩:=id hn;refine h _ ⟨I.ok,I.os,I.bare,⟨fun b o e n hb hx=>?_,fun b o e n hb hx=>?_,I.base.free,fun b o e hx=>?_,I.base.tups,I.base.frzs,I.base.tbls⟩,⟨_,hn',fun j y v' e1 e2 e3=>?_⟩,fun y c e=>?_,I.free,I.freeC,fun p hp=>?_,tracked ⟨oL,hoL,I.free⟩ hs,by simpa using I.len⟩ ⟨_,hs,.inl rfl⟩
  ·exact(hs.2 b (mj (m8 (gv e) I.ok.above))).trans (I.base.keep b o e n hb hx)
  ·obtain⟨sl,e1⟩:=I.base.slot b o e n hb hx
   exact⟨sl,(hs.2 b (mj (m8 (gv e) I.ok.above))).trans e1⟩
  ·obtain⟨o',e1⟩:=I.base.there b o e hx
   exact⟨o',(hs.2 b (mj (m8 (gv e) I.ok.above))).trans e1⟩
  ·by_cases hj:j=i
   ·subst hj
    rw [hi] at e1;cases e1;rw [ph hiσ] at e2;cases e2;exact⟨u,r,.inl ⟨hk,by simp⟩⟩
   ·rw [g9 (m4 hj)] at e2
    obtain⟨u',r',q⟩:=hl j y v' e1 e2 e3;refine⟨u',r',?_⟩;rcases q with⟨k,e⟩|⟨k,c,e,z⟩
    ·refine .inl ⟨k,?_⟩
     have:y≠x:=fun e=>hj (qbb hN e1 (e ▸ hi));simp [this,e]
    ·exact .inr ⟨k,c,e,z.sameBut hs (cne y c e)⟩
  ·obtain⟨w',z⟩:=I.cell y c e
   exact⟨w',z.sameBut hs (cne y c e)⟩
  ·obtain⟨e,n,ne,nf,d⟩:=I.pin p hp
   exact⟨(hs.2 p.1 ne).trans e,n,ne,nf,d⟩
 ·have hfn:X.fn x=true:=by
   rcases hf with z|z
   ·exact z
   ·rw [z] at hk;cases hk
  obtain⟨c,hc⟩:=I.ok.has x (.inl hk);obtain⟨w',z⟩:=I.cell x c hc;refine wpAny_storeName_cell I.ok.kind hk hc z (fun h' hc' hs=>?_);obtain⟨oc,hoc,hocd⟩:=id z;refine h {s with heap:=h'} ⟨I.ok,I.os,I.bare,⟨fun b o e n hb hx=>?_,fun b o e n hb hx=>?_,I.base.free,fun b o e hx=>?_,I.base.tups,I.base.frzs,I.base.tbls⟩,⟨m,hn.sameBut hs (m4 (cne x c hc)),fun j y v' e1 e2 e3=>?_⟩,fun y c' e=>?_,I.free,I.freeC,fun p hp=>?_,tracked ⟨oc,hoc,I.freeC x c hc⟩ hs,by simpa using I.len⟩ ⟨c,hs,.inr hc⟩
  ·exact(hs.2 b (mj (m8 (gv e) (I.ok.cab x c hfn hc)))).trans (I.base.keep b o e n hb hx)
  ·obtain⟨sl,e1⟩:=I.base.slot b o e n hb hx
   exact⟨sl,(hs.2 b (mj (m8 (gv e) (I.ok.cab x c hfn hc)))).trans e1⟩
  ·obtain⟨o',e1⟩:=I.base.there b o e hx
   exact⟨o',(hs.2 b (mj (m8 (gv e) (I.ok.cab x c hfn hc)))).trans e1⟩
  ·by_cases hj:j=i
   ·subst hj
    rw [hi] at e1;cases e1;rw [ph hiσ] at e2;cases e2;exact⟨u,r,.inr ⟨.inl hk,c,hc,hc'⟩⟩
   ·rw [g9 (m4 hj)] at e2
    obtain⟨u',r',q⟩:=hl j y v' e1 e2 e3;refine⟨u',r',?_⟩;rcases q with q|⟨k,c',e,z'⟩
    ·exact .inl q
    ·refine .inr ⟨k,c',e,z'.sameBut hs ?_⟩
     rintro rfl
     exact hj (qbb hN e1 (I.ok.inj _ _ _ e hc ▸ hi))
  ·by_cases hcc:c'=c
   ·subst hcc;exact⟨_,hc'⟩
   ·obtain⟨w2,z2⟩:=I.cell y c' e
    exact⟨w2,z2.sameBut hs hcc⟩
  ·obtain⟨e,n,ne,nf,d⟩:=I.pin p hp
   refine⟨(hs.2 p.1 ?_).trans e,n,ne,nf,d⟩;intro q;rw [q,hoc] at e;have q':oc=p.2:=n3 e;exact d w' (by rw [<- q'];exact hocd)
theorem q4b{M:Model}{A:Around}{E:Value->Shared->Prop}{i:Nat}{x:Str}{v:V}{u:Value}{Q:Unit->Shared->Prop}(I:Inv X pins σ H s)(hN:X.N.Nodup)(hi:X.N[i]? = some x)(hx:Loc X.env.scope x)(r:RelV v u)
  (h:∀s',Inv X pins (σ.set i (some v)) H s'->Q () s') (hf:X.fn x=true\/X.env.scope.names.lookup x=some .local:=by first|exact .inl rfl|exact .inr rfl|assumption):wpAny M A (storeName X.env x u) Q E s:=
 qh6 I hN hi hx r (fun s' I' _=>h s' I') hf
theorem Inv.call'{s':Shared}{ch:List Addr}(I:Inv X pins σ H s)(ho:s'.os=s.os)(u:Un (frs X.stack) ch H H' s.heap s'.heap)(hok:HOk X.prog X.w H' s'.heap)(hg:AllBare s'.gens)
  (hch:∀b∈ch,(b∈X.ex\/X.s₀.heap.objs.size<=b)/\b≠X.env.locals/\(∀x c,X.env.cells.lookup x=some c->c≠b)/\∀p∈X.pn++pins,p.1≠b):Inv X pins σ H' s':=by
 obtain⟨h',g',d',t',o'⟩:=s';have e:o'=s.os:=ho;subst e;exact I.call (g':=g') (t':=t') (d':=d') u hok hg hch
end
abbrev XK:=Value->Option Addr->Hp->Prop
abbrev St:=List (Option V)
abbrev VK:=V->Hp->Prop
abbrev TE:=St->Hp->VK->Prop
abbrev TT:=St->Hp->(Bool->Hp->Prop)->Prop
abbrev TA:=St->Hp->(List V->Hp->Prop)->Prop
structure Ends where
 nx:St->Hp->Prop
 rt:VK
 bk:St->Hp->Prop:=fun _ _=>False
 ct:St->Hp->Prop:=fun _ _=>False
abbrev TS:=Ends->St->Hp->Prop
def EP(X:Cx)(pins:List (Addr×Obj))(σ : St)(Q:VK)(u:Value)(s':Shared): Prop:=∃v H',Inv X pins σ H' s'/\RelV v u/\Q v H'
def TP(X:Cx)(pins:List (Addr×Obj))(σ : St)(Q:Bool->Hp->Prop)(b:Bool)(s':Shared): Prop:=∃H',Inv X pins σ H' s'/\Q b H'
def AP(X:Cx)(pins:List (Addr×Obj))(σ : St)(Q:List V->Hp->Prop)(us:List Value)(s':Shared): Prop:=∃vs H',Inv X pins σ H' s'/\Vals vs us/\Q vs H'
def SP(X:Cx)(pins:List (Addr×Obj))(D:Ends)(f:Flow)(s':Shared): Prop:=
 match f with
 | .next=>∃ σ' H',Inv X pins σ' H' s'/\D.nx σ' H'
 | .brk=>∃ σ' H',Inv X pins σ' H' s'/\D.bk σ' H'
 | .cont=>∃ σ' H',Inv X pins σ' H' s'/\D.ct σ' H'
 | .ret u=>∃v σ' H',Inv X pins σ' H' s'/\RelV v u/\D.rt v H'
def PE(X:Cx)(e:Expr)(t:TE): Prop:=
 ∀(pins:List (Addr×Obj)) (s:Shared) (σ : St) (H:Hp) (Q:VK),Inv X pins σ H s->t σ H Q->wpAny (model X.prog X.w) X.A (eval e X.env) (EP X pins σ Q) X.xe s
def PT(X:Cx)(e:Expr)(t:TT): Prop:=
 ∀(pins:List (Addr×Obj)) (s:Shared) (σ : St) (H:Hp) (Q:Bool->Hp->Prop),Inv X pins σ H s->t σ H Q->wpAny (model X.prog X.w) X.A (isTrue e X.env (eval e X.env)) (TP X pins σ Q) X.xe s
def PW(X:Cx)(e:Expr)(t:TT): Prop:=
 ∀(whole:Sem Value) (pins:List (Addr×Obj)) (s:Shared) (σ : St) (H:Hp) (Q:Bool->Hp->Prop),Inv X pins σ H s->t σ H Q->wpAny (model X.prog X.w) X.A (isTrue e X.env whole) (TP X pins σ Q) X.xe s
theorem PW.pt{X:Cx}{e:Expr}{t:TT}(h:PW X e t): PT X e t:=h _
def PA(X:Cx)(es:List Expr)(t:TA): Prop:=
 ∀(pos:Pos) (pins:List (Addr×Obj)) (s:Shared) (σ : St) (H:Hp) (Q:List V->Hp->Prop),Inv X pins σ H s->t σ H Q->wpAny (model X.prog X.w) X.A (spliced (backTo pos (starEach es X.env))) (AP X pins σ Q) X.xe s
def PS(X:Cx)(st:Stmt)(t:TS): Prop:=
 ∀(pins:List (Addr×Obj)) (s:Shared) (σ : St) (H:Hp) (D:Ends),Inv X pins σ H s->t D σ H->wpAny (model X.prog X.w) X.A (exec st X.env) (SP X pins D) X.xe s
def PSs(X:Cx)(st:List Stmt)(t:TS): Prop:=
 ∀(pins:List (Addr×Obj)) (s:Shared) (σ : St) (H:Hp) (D:Ends),Inv X pins σ H s->t D σ H->wpAny (model X.prog X.w) X.A (execs st X.env) (SP X pins D) X.xe s
theorem thn{α : Type}{t:Sem α}{Q Q' : α -> Shared->Prop}{M:Model}{A:Around}{E:Value->Shared->Prop}{s:Shared}(h:wpAny M A t Q E s)(hQ:∀a s,Q a s->Q' a s): wpAny M A t Q' E s:=me h hQ fun _ _ x=>x
section
variable{X:Cx}
def q2s(i:Nat): TE:=fun σ H Q=>∃v, σ[i]? = some (some v)/\Q v H
def tC(v:V): TE:=fun _ H Q=>Q v H
theorem qni{i:Nat}{x:Str}{pos:Pos}(hN:X.N[i]? = some x)(hv:Vis X.env.scope x)(hd:(x==("__debug__" : Str))=false:=by decide)(hcd:(x==("__classdict__" : Str))=false:=by decide): PE X (.Name x pos) (q2s i):=by
 intro pins s σ H Q I h;obtain⟨v,e,h⟩:=h;obtain⟨m,hn,hl⟩:=I.loc;obtain⟨u,r,l⟩:=hl i x v hN e hv;have fin:EP X pins σ Q u s:=⟨v,H,I,r,h⟩
 rcases l with⟨hk,hm⟩|⟨hk,c,hc,hcell⟩
 ·exact wpAny_Name (wpAny_loadName_local I.ok.kind hk hn hm fin) hd
 ·rcases hk with hk|hk
  ·exact wpAny_Name (wpAny_loadName_cell I.ok.kind hk hc hcell fin) hd
  ·exact wpAny_Name (wpAny_loadName_free I.ok.kind hk hc hcell fin hcd) hd
theorem qnj{i j pos}: PE X (.Constant (.int i) j pos) (tC (.int i)):=fun _ _ _ H _ I h=>wpAny_Constant_int ⟨.int i,H,I.tok _,⟨_,rfl⟩,h⟩
theorem qpw{b j pos}: PE X (.Constant (.bool b) j pos) (tC (.bl b)):=fun _ _ _ H _ I h=>Constant_bool ⟨.bl b,H,I,rfl,h⟩
theorem qnk{j pos}: PE X (.Constant .none j pos) (tC .non):=fun _ _ _ H _ I h=>Constant_none ⟨.non,H,I,rfl,h⟩
theorem qnl{x j pos}: PE X (.Constant (.str x) j pos) (tC (.str x)):=fun _ _ _ H _ I h=>g14 ⟨.str x,H,I.tok _,⟨_,rfl⟩,h⟩
def Gl(X:Cx)(x:Str): Prop:=X.env.kindOf x=some .globalImplicit
theorem wk{E:Value->Shared->Prop}{pins:List (Addr×Obj)}{s:Shared}{σ : St}{H:Hp}{x:Str}{u:Value}{pos:Pos}{Q:Value->Shared->Prop}(I:Inv X pins σ H s)(hg:Gl X x)(hm:X.mg x=some u)(h:Q u s)
  (hd:(x==("__debug__" : Str))=false:=by decide):wpAny (model X.prog X.w) X.A (eval (.Name x pos) X.env) Q E s:=
 Calls.Name_function_global I.ok.kind hg (Calls.loadGlobal_global (by rw [I.ok.glob];exact I.mod.glob.keeps I.bk) hm h) hd
theorem q5a{E:Value->Shared->Prop}{pins:List (Addr×Obj)}{s:Shared}{σ : St}{H:Hp}{x:Str}{u:Value}{pos:Pos}{Q:Value->Shared->Prop}(I:Inv X pins σ H s)(hg:Gl X x)(hm:X.mg x=none)(hv:bootBuiltins x=some u)(h:Q u s)
  (hn:x≠"__name__" :=by decide) (hd:(x==("__debug__" : Str))=false:=by decide):wpAny (model X.prog X.w) X.A (eval (.Name x pos) X.env) Q E s:=by
 obtain⟨mb,h1,h2⟩:=I.mod.blt;exact Calls.Name_function_global I.ok.kind hg (Calls.loadGlobal_builtin (by rw [I.ok.glob];exact I.mod.glob.keeps I.bk) hm (by rw [I.ok.blt];exact h1.keeps I.bk) ((h2 x hn).trans hv) h) hd
theorem q93{x:Str}{v:V}{u:Value}{pos:Pos}(hg:Gl X x)(hm:X.mg x=some u)(r:RelV v u)(hd:(x==("__debug__" : Str))=false:=by decide): PE X (.Name x pos) (tC v):=
 fun _ _ _ H _ I h=>wk I hg hm ⟨v,H,I,r,h⟩ hd
theorem qe5{x:Str}{v:V}{u:Value}{pos:Pos}(hg:Gl X x)(hm:X.mg x=none)(hv:bootBuiltins x=some u)(r:RelV v u)(hn:x≠"__name__" :=by decide)(hd:(x==("__debug__" : Str))=false:=by decide): PE X (.Name x pos) (tC v):=
 fun _ _ _ H _ I h=>q5a I hg hm hv ⟨v,H,I,r,h⟩ hn hd
variable{a b:Expr}{ta tb:TE}{pos:Pos}
theorem qbc(b:Expr){op:CmpOp}(h:op ≠ .In)(h2:op ≠ .NotIn): behindInMarks op b=false:=by
 have e1:(op==CmpOp.In)=false:=by cases op <;> first|rfl|exact absurd rfl h
 have e2:(op==CmpOp.NotIn)=false:=by cases op <;> first|rfl|exact absurd rfl h2
 cases b <;> simp [behindInMarks,e1,e2]
variable{tA tB':TT}{rest:List Expr}
def qqr(t u:TT): TT:=fun σ H Q=>t σ H fun c H1=>if c=true then u σ H1 Q else Q false H1
def tOr(t u:TT): TT:=fun σ H Q=>t σ H fun c H1=>if c=true then Q true H1 else u σ H1 Q
def qqs(t:TT): TT:=fun σ H Q=>t σ H fun c H1=>Q (!c) H1
theorem qll(ha:PT X a tA): PW X (.BoolOp .And [a] pos) tA:=by
 intro wh pins s σ H Q I h;refine isTrue_and (thn (ha pins s σ H Q I h) fun c s1 e=>?_);cases c with
 | true=>exact isTrue_and_nil e
 | false=>exact e
theorem qnm(ha:PT X a tA): PW X (.BoolOp .Or [a] pos) tA:=by
 intro wh pins s σ H Q I h;refine isTrue_or (thn (ha pins s σ H Q I h) fun c s1 e=>?_);cases c with
 | false=>exact isTrue_or_nil e
 | true=>exact e
theorem qnn(ha:PT X a tA)(hb:PW X (.BoolOp .And (b :: rest) pos) tB'): PW X (.BoolOp .And (a :: b :: rest) pos) (qqr tA tB'):=by
 intro wh pins s σ H Q I h;refine isTrue_and (thn (ha pins s σ H _ I h) fun c s1 ⟨H1,I1,q1⟩=>?_);cases c with
 | true=>exact hb wh pins s1 σ H1 Q I1 q1
 | false=>exact⟨H1,I1,q1⟩
theorem qpx(ha:PT X a tA)(hb:PW X (.BoolOp .Or (b :: rest) pos) tB'): PW X (.BoolOp .Or (a :: b :: rest) pos) (tOr tA tB'):=by
 intro wh pins s σ H Q I h;refine isTrue_or (thn (ha pins s σ H _ I h) fun c s1 ⟨H1,I1,q1⟩=>?_);cases c with
 | true=>exact⟨H1,I1,q1⟩
 | false=>exact hb wh pins s1 σ H1 Q I1 q1
theorem qno(ha:PT X a tA): PT X (.UnaryOp .Not a pos) (qqs tA):=by
 intro pins s σ H Q I h;exact isTrue_not (ha pins s σ H (fun c H1=>Q (!c) H1) I h)
def qpy(ta tb:TE): TE:=fun σ H Q=>ta σ H fun x H1=>∃c,x=.bl c/\if c=true then tb σ H1 Q else Q (.bl false) H1
theorem qnp{op}{t:TE}(h:PE X a t): PE X (.BoolOp op [a] pos) t:=fun pins s σ H Q I hw=>BoolOp_one (h pins s σ H Q I hw)
theorem qnq(ha:PE X a ta)(hb:PE X (.BoolOp .And (b :: rest) pos) tb): PE X (.BoolOp .And (a :: b :: rest) pos) (qpy ta tb):=by
 intro pins s σ H Q I h;refine BoolOp_and (thn (ha pins s σ H _ I h) fun v s1 ⟨x,H1,I1,r1,q1⟩=>?_);obtain⟨c,rfl,q1⟩:=q1;cases r1;refine tx ?_;cases c with
 | true=>exact hb pins s1 σ H1 Q I1 q1
 | false=>exact⟨.bl false,H1,I1,rfl,q1⟩
end
def SqL(K:PySem.W.Frag)(H:Hp)(a:Addr)(xs:List V): Prop:=
 Rd H a (.lst xs) \/
  ∃(o:Obj) (its:Array Value) (n:Nat),K.lookup a=some o/\o.cls=.type "list" /\ o.dict=none/\o.data=.seq its n/\its.size<=sizeLine/\Vals xs its.toList
def SqT(K:PySem.W.Frag)(H:Hp)(a:Addr)(xs:List V): Prop:=
 Rd H a (.tup xs) \/
  ∃(o:Obj) (its:Array Value) (n:Nat),K.lookup a=some o/\o.cls=.type "tuple" /\ o.dict=none/\o.data=.seq its n/\its.size<=sizeLine/\Vals xs its.toList
def qqt:Value->Option V
 | .none=>some .non
 | .bool b=>some (.bl b)
 | .int i _=>some (.int i)
 | .str x _=>some (.str x)
 | .bytes b _=>some (.byt b)
 | .float b _=>some (.flt b)
 | .ref a=>some (.ref a)
 | .type n=>some (.ty n)
 | _=>none
theorem RelV.abs{x:V}{u:Value}(r:RelV x u): qqt u=some x:=by
 cases x with
 | non=>cases r;rfl
 | bl _=>cases r;rfl
 | int _=>obtain⟨t,rfl⟩:=r;rfl
 | str _=>obtain⟨t,rfl⟩:=r;rfl
 | byt _=>obtain⟨t,rfl⟩:=r;rfl
 | flt _=>obtain⟨t,rfl⟩:=r;rfl
 | ref _=>cases r;rfl
 | ty _=>cases r;rfl
theorem RelV.inj{x y:V}{u:Value}(r:RelV x u)(q:RelV y u): x=y:=n3 (r.abs.symm.trans q.abs)
theorem Vals.inj:∀ {xs ys:List V} {us:List Value},Vals xs us->Vals ys us->xs=ys
 | _,_,_,.nil,.nil=>rfl
 | _,_,_,.cons r t,.cons r' t'=>by rw [r.inj r',Vals.inj t t']
section
variable{X:Cx}{pins:List (Addr×Obj)}{σ : St}{H:Hp}{s:Shared}{a:Addr}{xs ys:List V}
theorem SqL.of{K:PySem.W.Frag}(h:H a=some (.lst xs)): SqL K H a xs:=.inl (.inl h)
theorem SqT.of{K:PySem.W.Frag}(h:H a=some (.tup xs)): SqT K H a xs:=.inl (.inl h)
theorem Inv.list(I:Inv X pins σ H s)(h:SqL X.K H a xs): ∃its:List Value,Vals xs its/\PlainL s.heap a its.toArray/\xs.length<=sizeLine:=by
 rcases h with h|⟨o,its,n,hk,hc,hd,hs,hz,r⟩
 ·obtain⟨z,its,n,r,e⟩:=h.ok I.hok
  exact⟨its,r,⟨_,n,e,rfl,rfl,rfl⟩,z⟩
 ·refine⟨its.toList,r,⟨o,n,I.kIn a o hk,hc,hd,by simpa using hs⟩,?_⟩
  have e:=r.length;simp only [g0v] at e;omega
theorem Inv.tupleX(I:Inv X pins σ H s)(h:SqT X.K H a xs): ∃its:List Value,Vals xs its/\TupX s.heap a its.toArray/\xs.length<=sizeLine:=by
 rcases h with h|⟨o,its,n,hk,hc,hd,hs,hz,r⟩
 ·obtain⟨z,its,r,p⟩:=h.ok I.hok
  exact⟨its,r,p,z⟩
 ·refine⟨its.toList,r,⟨o,I.kIn a o hk,hc,hd,n,by simpa using hs⟩,?_⟩
  have e:=r.length;simp only [g0v] at e;omega
theorem Inv.tuple(I:Inv X pins σ H s)(h:SqT X.K H a xs): ∃its:List Value,Vals xs its/\IsTup s.heap a its.toArray/\xs.length<=sizeLine:=let⟨its,r,p,z⟩:=I.tupleX h; ⟨its,r,p.up,z⟩
theorem Inv.list_inj(I:Inv X pins σ H s)(h:SqL X.K H a xs)(h':SqL X.K H a ys): xs=ys:=by
 obtain⟨its,r,⟨o,n,e,_,_,d⟩,_⟩:=I.list h;obtain⟨its',r',⟨o',n',e',_,_,d'⟩,_⟩:=I.list h';rw [e] at e';cases e';rw [d] at d';injection d' with d1 _
 have:its=its':=by simpa using n6 Array.toList d1
 subst this;exact r.inj r'
theorem Inv.tuple_inj(I:Inv X pins σ H s)(h:SqT X.K H a xs)(h':SqT X.K H a ys): xs=ys:=by
 obtain⟨its,r,⟨o,e,_,n,d⟩,_⟩:=I.tuple h;obtain⟨its',r',⟨o',e',_,n',d'⟩,_⟩:=I.tuple h';rw [e] at e';cases e';rw [d] at d';injection d' with d1 _
 have:its=its':=by simpa using n6 Array.toList d1
 subst this;exact r.inj r'
end
abbrev Cx.wish(X:Cx)(E:Value->Shared->Prop): Cx:={X with xe:=E}
abbrev Cx.nox(X:Cx): Cx:=X.wish fun _ _=>False
theorem Cx.Ok.wish{X:Cx}(ok:X.Ok)(E:Value->Shared->Prop): (X.wish E).Ok:=
 ⟨ok.mod,ok.kind,ok.glob,ok.blt,ok.above,ok.inj,ok.has,ok.cab,ok.hd,ok.frames,ok.stk,ok.exf,ok.bs,ok.bsz,ok.noex,ok.exfs,ok.funs,ok.frf⟩
theorem Cx.Ok.unwish{X:Cx}{E:Value->Shared->Prop}(ok:(X.wish E).Ok): X.Ok:=
 ⟨ok.mod,ok.kind,ok.glob,ok.blt,ok.above,ok.inj,ok.has,ok.cab,ok.hd,ok.frames,ok.stk,ok.exf,ok.bs,ok.bsz,ok.noex,ok.exfs,ok.funs,ok.frf⟩
section
variable{X:Cx}{pins:List (Addr×Obj)}{σ : St}{H:Hp}{s:Shared}{E:Value->Shared->Prop}
theorem Inv.wish(I:Inv X pins σ H s)(E:Value->Shared->Prop): Inv (X.wish E) pins σ H s:=⟨I.ok.wish E,I.os,I.bare,I.base,I.loc,I.cell,I.free,I.freeC,I.pin,I.hok,I.len⟩
theorem Inv.unwish(I:Inv (X.wish E) pins σ H s): Inv X pins σ H s:=⟨I.ok.unwish,I.os,I.bare,I.base,I.loc,I.cell,I.free,I.freeC,I.pin,I.hok,I.len⟩
theorem SP.unwish{D:Ends}{f:Flow}{s':Shared}(h:SP (X.wish E) pins D f s'): SP X pins D f s':=by
 cases f with
 | next=>obtain⟨σ',H',I,q⟩:=h;exact⟨σ',H',I.unwish,q⟩
 | brk=>obtain⟨σ',H',I,q⟩:=h;exact⟨σ',H',I.unwish,q⟩
 | cont=>obtain⟨σ',H',I,q⟩:=h;exact⟨σ',H',I.unwish,q⟩
 | ret u=>obtain⟨v, σ',H',I,r,q⟩:=h;exact⟨v, σ',H',I.unwish,r,q⟩
theorem PT.nox{e:Expr}{t:TT}(h:PT X.nox e t): PT X e t:=fun pins s σ H Q I hw=>
 me (h pins s σ H Q (I.wish _) hw) (fun _ _ ⟨H',I',q⟩=>⟨H',I'.unwish,q⟩) fun _ _ z=>False.elim z
theorem PSs.nox{st:List Stmt}{t:TS}(h:PSs X.nox st t): PSs X st t:=fun pins s σ H D I hw=>
 me (h pins s σ H D (I.wish _) hw) (fun _ _ q=>q.unwish) fun _ _ z=>False.elim z
end
section
variable{X:Cx}{st:Stmt}{rest:List Stmt}{t u:TS}{e:Expr}{te:TE}{pos:Pos}
def tNext:TS:=fun D σ H=>D.nx σ H
def qqu(t u:TS): TS:=fun D σ H=>t {D with nx:=u D} σ H
theorem qlm:PSs X [] tNext:=fun _ _ σ H _ I h=>g1x ⟨σ,H,I,h⟩
theorem q4c(h1:PS X st t)(h2:PSs X rest u): PSs X (st :: rest) (qqu t u):=by
 intro pins s σ H D I h;refine g0o (thn (h1 pins s σ H {D with nx:=u D} I h) fun f s1 q=>?_);cases f with
 | next=>
  obtain⟨σ',H',I',q⟩:=q;exact h2 pins s1 σ' H' D I' q
 | ret v=>exact q
 | brk=>exact q
 | cont=>exact q
theorem q3t(h1:PS X st t): PSs X [st] t:=by
 intro pins s σ H D I h;refine g0o (thn (h1 pins s σ H D I h) fun f s1 q=>?_);cases f with
 | next=>exact g1x q
 | ret v=>exact q
 | brk=>exact q
 | cont=>exact q
theorem Inv.quiet{pins:List (Addr×Obj)}{σ : St}{H:Hp}{s:Shared}(I:Inv X pins σ H s): interactive X.env=false:=by simp [interactive,I.ok.kind]
def qpz(te:TE): TS:=fun D σ H=>te σ H fun _ H1=>D.nx σ H1
theorem q6a(he:PE X e te)(hs:swapsWith e none pos.line X.env=pure false:=by rfl): PS X (.Expr e pos) (qpz te):=by
 intro pins s σ H D I h;exact wpAny_Expr_any (thn (he pins s σ H _ I h) fun v s1 ⟨x,H1,I1,r1,q1⟩=>⟨σ,H1,I1,q1⟩) I.quiet hs
def qqv(te:TE): TS:=fun D σ H=>te σ H D.rt
theorem qh7(he:PE X e te): PS X (.Return (some e) pos) (qqv te):=by
 intro pins s σ H D I h;exact wpAny_Return_some (thn (he pins s σ H _ I h) fun v s1 ⟨x,H1,I1,r1,q1⟩=>⟨x, σ,H1,I1,r1,q1⟩)
def qqw(c:TT)(t u:TS): TS:=fun D σ H=>c σ H fun b H1=>if b=true then t D σ H1 else u D σ H1
theorem ql3{c:Expr}{a b:List Stmt}{tc:TT}(hc:PT X c tc)(ha:PSs X a t)(hb:PSs X b u): PS X (.If c a b pos) (qqw tc t u):=by
 intro pins s σ H D I h;refine wpAny_If (thn (hc pins s σ H _ I h) fun d s1 ⟨H1,I1,q1⟩=>?_);cases d with
 | true=>exact ha pins s1 σ H1 D I1 q1
 | false=>exact hb pins s1 σ H1 D I1 q1
end
abbrev TG:=V->St->Hp->(St->Hp->Prop)->Prop
abbrev TGs:=List V->St->Hp->(St->Hp->Prop)->Prop
def PG(X:Cx)(target:Expr)(t:TG): Prop:=
 ∀(pins:List (Addr×Obj)) (s:Shared) (σ : St) (H:Hp) (v:V) (u:Value) (Q:St->Hp->Prop),Inv X pins σ H s->RelV v u->t v σ H Q ->
  wpAny (model X.prog X.w) X.A (assign target X.env u) (fun _ s'=>∃ σ' H',Inv X pins σ' H' s'/\Q σ' H') X.xe s
def PGs(X:Cx)(ts:List Expr)(t:TGs): Prop:=
 ∀(pins:List (Addr×Obj)) (s:Shared) (σ : St) (H:Hp) (vs:List V) (us:List Value) (Q:St->Hp->Prop),Inv X pins σ H s->Vals vs us->t vs σ H Q ->
  wpAny (model X.prog X.w) X.A (assignInOrder ((assignEach ts X.env).map (·.2)) us) (fun _ s'=>∃ σ' H',Inv X pins σ' H' s'/\Q σ' H') X.xe s
section
variable{X:Cx}{pos:Pos}
def q1n(i:Nat): TG:=fun v σ H Q=>Q (σ.set i (some v)) H
theorem q6b{i:Nat}{x:Str}(hN:X.N.Nodup)(hi:X.N[i]? = some x)(hx:Loc X.env.scope x)(hf:X.fn x=true\/X.env.scope.names.lookup x=some .local:=by first|exact .inl rfl|exact .inr rfl|assumption): PG X (.Name x pos) (q1n i):=by
 intro pins s σ H v u Q I r h;exact wpAny_assign_Name (q4b I hN hi hx r (fun s' I'=>⟨_,H,I',h⟩) hf)
def gNil:TGs:=fun vs σ H Q=>vs=[]/\Q σ H
def qq0(t:TG)(u:TGs): TGs:=fun vs σ H Q=>∃v r,vs=v :: r/\t v σ H fun σ' H'=>u r σ' H' Q
theorem qe6:PGs X [] gNil:=by
 intro pins s σ H vs us Q I r h;obtain⟨e,h⟩:=h;subst e;cases r;exact assignInOrder_nil ⟨σ,H,I,h⟩
theorem q7c{e:Expr}{es:List Expr}{t:TG}{u:TGs}(h1:PG X e t)(h2:PGs X es u)
  (hs:(assignEach (e :: es) X.env).map (·.2)=assign e X.env :: (assignEach es X.env).map (·.2):=by rfl):PGs X (e :: es) (qq0 t u):=by
 intro pins s σ H vs us Q I r h;obtain⟨v,vr,e1,h⟩:=h;subst e1;cases r with
 | cons r rr=>
  rw [hs];refine assignInOrder_cons (thn (h1 pins s σ H _ _ _ I r h) fun _ s1 ⟨σ1,H1,I1,q1⟩=>?_);exact h2 pins s1 σ1 H1 _ _ Q I1 rr q1
def qqx(K:PySem.W.Frag)(n:Nat)(t:TGs): TG:=fun v σ H Q=>∃a xs,v=.ref a/\SqT K H a xs/\xs.length=n/\t xs σ H Q
theorem qh8{es:List Expr}{k:Nat}{t:TGs}{n:Nat}(hc:X.calm=true)(h:PGs X es t)
  (hn:(assignEach es X.env).length=n:=by rfl) (hst:(assignEach es X.env).findIdx? (·.1)=none:=by rfl):PG X (.Tuple es k pos) (qqx X.K n t):=by
 intro pins s σ H v u Q I r hw;obtain⟨a,xs,e1,hq,hl,hw⟩:=hw;subst e1;cases r;obtain⟨its,rv,ht,hz⟩:=I.tuple hq;refine assign_Tuple_tuple (I.ok.hd hc) ht (by simp [hn, <- hl,rv.length]) hst fun h' hx=>?_;have I1:Inv X pins σ H {s with heap:=h'}:=I.kept (t':=s.toks) fun b o e=>hx b o (mj (gv e)) e;exact h pins _ σ H xs _ Q I1 (by simpa using rv) hw
def qj5(te:TE)(g:TG): TS:=fun D σ H=>te σ H fun x H1=>g x σ H1 D.nx
theorem q7y{i:Nat}{x:Str}{e:Expr}{te:TE}{pos':Pos}(hN:X.N.Nodup)(hi:X.N[i]? = some x)(hx:Loc X.env.scope x)(he:PE X e te)(hs:swapsWith e (some (.Name x pos')) pos.line X.env=pure false:=by rfl)(hf:X.fn x=true\/X.env.scope.names.lookup x=some .local:=by first|exact .inl rfl|exact .inr rfl|assumption):
  PS X (.Assign [.Name x pos'] e pos) (qj5 te (q1n i)):=by
 intro pins s σ H D I h;refine wpAny_Assign_Name (thn (he pins s σ H _ I h) fun v s1 ⟨y,H1,I1,r1,q1⟩=>?_) hs;exact q4b I1 hN hi hx r1 (fun s2 I2=>⟨_,H1,I2,q1⟩) hf
end
section
variable{X:Cx}{pos:Pos}
end
structure It where
 go:Nat->Hp->Prop
 yld:Nat->Hp->V->Hp->Prop
 stop:Nat->Hp->Prop
def q01(X:Cx)(pins:List (Addr×Obj))(H:Hp)(b:Addr): Prop:=
 H b=none/\b≠X.env.locals/\b∉X.fs/\(b∈X.ex\/X.s₀.heap.objs.size<=b)/\(∀x c,X.env.cells.lookup x=some c->c≠b)/\∀p∈X.pn++pins,p.1≠b
theorem Inv.fpOk{X:Cx}{pins:List (Addr×Obj)}{σ : St}{H H':Hp}{s:Shared}{b:Addr}(I:Inv X pins σ H s)(hb:s.heap.objs.size<=b)(hn:H' b=none): q01 X pins H' b:=by
 refine⟨hn,g0g (m8 I.lt hb),I.nofs hb,.inr (mm I.sz hb),fun x c e z=>?_,fun p hp z=>?_⟩
 ·obtain⟨v,q⟩:=I.cell x c e
  exact absurd (m8 q.lt (by rw [z];exact hb)) (p8 _)
 ·exact absurd (m8 (gv (I.pin p hp).1) (by rw [z];exact hb)) (p8 _)
structure Turn(P:Program)(w:World)(K:PySem.W.Frag)(tg:Expr)(J:It)(fp:List Addr)(it:Addr)(tn:Nat->Heap->Prop): Prop where
 mem:it∈fp
 obj:∀i h,tn i h->∀b∈fp,∃o,h.get? b=some o/\∀v,o.data ≠ .cell v
 keep:∀i h h',tn i h->(∀b∈fp,∀o,h.get? b=some o->h'.get? b=some o)->tn i h'
 item:∀(X:Cx),X.prog=P->X.w=w->X.K=K->X.calm=true->∀(i:Nat) (pins:List (Addr×Obj)) (s:Shared) (σ : St) (H:Hp) (E:Value->Shared->Prop),Inv X pins σ H s->(∀b∈fp,q01 X pins H b)->tn i s.heap->J.go i H ->
  wpAny (model P w) X.A (pyNext (.ref it)) (fun r s1=>∃u,r=some u /\
   wpAny (model P w) X.A (letOwnedTupleGo tg (.ref it) u) (fun _ s2=>∃x H',Inv X pins σ H' s2/\RelV x u/\J.yld i H x H'/\tn (i+1) s2.heap/\∀b∈fp,H' b=none) E s1) E s
 done:∀(X:Cx),X.prog=P->X.w=w->X.K=K->X.calm=true->∀(i:Nat) (pins:List (Addr×Obj)) (s:Shared) (σ : St) (H:Hp) (E:Value->Shared->Prop),Inv X pins σ H s->(∀b∈fp,q01 X pins H b)->tn i s.heap->J.stop i H ->
  wpAny (model P w) X.A (pyNext (.ref it)) (fun r s1=>r=none/\Inv X pins σ H s1) E s
 self:∀(A:Around) (i:Nat) (s:Shared) (Q:Value->Shared->Prop) (E:Value->Shared->Prop),tn i s.heap->Q (.ref it) s->wpAny (model P w) A (pyIter (.ref it)) Q E s
abbrev TI:=St->Hp->(It->Hp->Prop)->Prop
def PIE(X:Cx)(pins:List (Addr×Obj))(σ : St)(tg:Expr)(R:It->Hp->Prop)(itv:Value)(s2:Shared): Prop:=
 ∃(it:Addr) (fp:List Addr) (tn:Nat->Heap->Prop) (J:It) (H':Hp),itv=.ref it/\Inv X pins σ H' s2/\Turn X.prog X.w X.K tg J fp it tn/\tn 0 s2.heap/\(∀b∈fp,q01 X pins H' b)/\R J H'
def PI(X:Cx)(tg iter:Expr)(wi:TI): Prop:=
 ∀(pins:List (Addr×Obj)) (s:Shared) (σ : St) (H:Hp) (R:It->Hp->Prop),Inv X pins σ H s->wi σ H R ->
  wpAny (model X.prog X.w) X.A (eval iter X.env) (fun v s1=>wpAny (model X.prog X.w) X.A (pyIter v) (PIE X pins σ tg R) X.xe s1) X.xe s
theorem qb4{M:Model}{A:Around}{E:Value->Shared->Prop}{s:Shared}{tg:Expr}{it:Addr}{u:Value}{o:Obj}{n:String}{vs:Array Value}{Q:Unit->Shared->Prop}(ho:s.heap.get? it=some o)(hc:o.cls=.type n)(hd:o.data=.fields vs)
  (hn:["enumerate","zip","dict_itemiterator","dict_reverseitemiterator","odict_iterator","itertools.zip_longest","itertools.pairwise"].contains n=false) (hQ:Q () s):wpAny M A (letOwnedTupleGo tg (.ref it) u) Q E s:=by
 unfold letOwnedTupleGo;cases tg <;> first
  | exact gf hQ
  | (cases u <;> first
    | exact gf hQ
    | (refine g8 (wpAny_load ho ?_);rw [hc,hd];show wpAny M A (if(["enumerate","zip","dict_itemiterator","dict_reverseitemiterator","odict_iterator","itertools.zip_longest","itertools.pairwise"].contains n&&vs[0]? == some (rawInt _))=true then _ else _) Q E s;rw [ma (by intro h;rw [hn,Bool.false_and] at h;cases h)];exact gf hQ))
def Itl(K:PySem.W.Frag)(a:Addr): It:=
 ⟨fun i H=>∃xs x,SqL K H a xs/\xs[i]? = some x,fun i H x H'=>H'=H/\∀xs,SqL K H a xs->xs[i]? = some x,fun i H=>∃xs,SqL K H a xs/\xs.length<=i⟩
def Itt(K:PySem.W.Frag)(a:Addr): It:=
 ⟨fun i H=>∃xs x,SqT K H a xs/\xs[i]? = some x,fun i H x H'=>H'=H/\∀xs,SqT K H a xs->xs[i]? = some x,fun i H=>∃xs,SqT K H a xs/\xs.length<=i⟩
def Itr(lo:Int)(n:Nat): It:=⟨fun i _=>i<n,fun i H x H'=>H'=H/\x=.int (lo+i),fun i _=>n<=i⟩
theorem qh9{P:Program}{w:World}{K:PySem.W.Frag}{tg:Expr}(a it:Addr): Turn P w K tg (Itl K a) [it] it (fun i h=>h.IsListIter it a i) where
 mem:=by simp
 obj:=fun i h st b hb=>by
  have e:b=it:=by simpa using hb
  subst e;obtain⟨o,e,c,d⟩:=st;exact⟨o,e,fun v z=>by rw [d] at z;cases z⟩
 keep:=fun i h h' st k=>st.at fun o e=>k it (by simp) o e
 item:=by
  intro X hP hw hK hc i pins s σ H E I hf st hg;subst hP hw hK;obtain⟨xs,x,hq,hx⟩:=hg;obtain⟨its,rv,p,hz⟩:=I.list hq;obtain⟨u,hu,ru⟩:=rv.get hx;obtain⟨f0,f1,f2,f3,f4,f5⟩:=hf it (by simp);refine wpAny_pyNext_list_item st p.isList (x:=u) (by simpa using hu) fun h' st' sb=>?_;have I1:Inv X pins σ H {s with heap:=h'}:=I.turned (t':=s.toks) (fun b o hb e=>(sb.2 b hb).trans e) f0 f1 f3 f4 f5;obtain⟨o,e,c,d⟩:=id st';exact⟨u,rfl,qb4 (s:={s with heap:=h'}) e c d (by decide) ⟨x,H,I1,ru,⟨rfl,fun ys hy=>by rw [I.list_inj hy hq];exact hx⟩,st',fun b hb=>(hf b hb).1⟩⟩
 done:=by
  intro X hP hw hK hc i pins s σ H E I hf st hg;subst hP hw hK;obtain⟨xs,hq,hx⟩:=hg;obtain⟨its,rv,p,hz⟩:=I.list hq;obtain⟨f0,f1,f2,f3,f4,f5⟩:=hf it (by simp);have hl:=rv.length;exact wpAny_pyNext_list_end (I.ok.hd hc) st p.isList (by simp;omega) fun h' eb=>⟨rfl,I.turned (t':=s.toks) (fun b o hb e=>eb b o hb e) f0 f1 f3 f4 f5⟩
 self:=fun _ _ _ _ _ st h=>wpAny_pyIter_listiter st h
theorem qfi{P:Program}{w:World}{K:PySem.W.Frag}{tg:Expr}(a it:Addr): Turn P w K tg (Itt K a) [it] it (fun i h=>h.IsTupleIter it a i) where
 mem:=by simp
 obj:=fun i h st b hb=>by
  have e:b=it:=by simpa using hb
  subst e;obtain⟨o,e,c,d⟩:=st;exact⟨o,e,fun v z=>by rw [d] at z;cases z⟩
 keep:=fun i h h' st k=>st.at fun o e=>k it (by simp) o e
 item:=by
  intro X hP hw hK hc i pins s σ H E I hf st hg;subst hP hw hK;obtain⟨xs,x,hq,hx⟩:=hg;obtain⟨its,rv,p,hz⟩:=I.tuple hq;obtain⟨u,hu,ru⟩:=rv.get hx;obtain⟨f0,f1,f2,f3,f4,f5⟩:=hf it (by simp);refine wpAny_pyNext_tuple_item st (show s.heap.IsTuple a its.toArray from p) (x:=u) (by simpa using hu) fun h' st' sb=>?_;have I1:Inv X pins σ H {s with heap:=h'}:=I.turned (t':=s.toks) (fun b o hb e=>(sb.2 b hb).trans e) f0 f1 f3 f4 f5;obtain⟨o,e,c,d⟩:=id st';exact⟨u,rfl,qb4 (s:={s with heap:=h'}) e c d (by decide) ⟨x,H,I1,ru,⟨rfl,fun ys hy=>by rw [I.tuple_inj hy hq];exact hx⟩,st',fun b hb=>(hf b hb).1⟩⟩
 done:=by
  intro X hP hw hK hc i pins s σ H E I hf st hg;subst hP hw hK;obtain⟨xs,hq,hx⟩:=hg;obtain⟨its,rv,p,hz⟩:=I.tuple hq;obtain⟨f0,f1,f2,f3,f4,f5⟩:=hf it (by simp);have hl:=rv.length;exact wpAny_pyNext_tuple_end (I.ok.hd hc) st (show s.heap.IsTuple a its.toArray from p) (by simp;omega) fun h' eb=>⟨rfl,I.turned (t':=s.toks) (fun b o hb e=>eb b o hb e) f0 f1 f3 f4 f5⟩
 self:=fun _ _ _ _ _ st h=>wpAny_pyIter_tupleiter st h
theorem qfj{P:Program}{w:World}{K:PySem.W.Frag}{tg:Expr}(it:Addr)(lo:Int)(n:Nat): Turn P w K tg (Itr lo n) [it] it (fun i h=>IsRangeIter h it (lo+(i:Nat)*1) ((n:Int)-(i:Nat)) 1) where
 mem:=by simp
 obj:=fun i h st b hb=>by
  have e:b=it:=by simpa using hb
  subst e;exact⟨_,st,fun v z=>by
   have z':Data.fields _=Data.cell v:=z;cases z'⟩
 keep:=fun i h h' st k=>k it (by simp) _ st
 item:=by
  intro X hP hw hK hc i pins s σ H E I hf st hg;subst hP hw hK;obtain⟨f0,f1,f2,f3,f4,f5⟩:=hf it (by simp);have W:=Walks.range (prog:=X.prog) (w:=X.w) (I.ok.hd hc) it lo 1 n;refine W.item i s _ _ hg st fun v h' tk hv st' kk=>?_;obtain⟨t,rfl⟩:=hv;have I1:Inv X pins σ H {s with heap:=h',toks:=tk}:=I.turned (fun b o hb e=>kk b o (by simpa using hb) e) f0 f1 f3 f4 f5;refine⟨_,rfl,qb4 (s:={s with heap:=h',toks:=tk}) (n:="range_iterator") st' rfl rfl (by decide) ⟨.int (lo+i),H,I1,⟨t,?_⟩,⟨rfl,rfl⟩,st',fun b hb=>(hf b hb).1⟩⟩;rw [Int.mul_one]
 done:=by
  intro X hP hw hK hc i pins s σ H E I hf st hg;subst hP hw hK;obtain⟨f0,f1,f2,f3,f4,f5⟩:=hf it (by simp);exact wpAny_pyNext_range_end (I.ok.hd hc) st (by have:n<=i:=hg;omega) fun h' eb=>⟨rfl,I.turned (t':=s.toks) (fun b o hb e=>eb b o hb e) f0 f1 f3 f4 f5⟩
 self:=fun _ _ _ _ _ st h=>wpAny_pyIter_rangeiter st h
section
variable{X:Cx}{tg:Expr}
theorem qbd{pins:List (Addr×Obj)}{σ : St}{H:Hp}{s:Shared}{R:It->Hp->Prop}{E:Value->Shared->Prop}{lo hi:Int}{t u v:Tok}{tk:Nat}(I:Inv X pins σ H s)(h1 : -(2 ^ 62)<=lo)(h2:lo<2 ^ 62)(h3 : -(2 ^ 62)<=hi)(h4:hi<2 ^ 62)
  (q:R (Itr lo (hi-lo).toNat) H):wpAny (model X.prog X.w) X.A (pyIter (.ref s.heap.objs.size)) (PIE X pins σ tg R) E {s with heap:=s.heap.push {cls:=.type "range",data:=.fields #[.int lo t,.int hi u,.int 1 v]},toks:=tk}:=by
 refine wpAny_pyIter_range (IsRange.new ..) (small_one h1 h2 h3 h4) ?_;have I1:Inv X pins σ H {s with heap:=s.heap.push {cls:=.type "range",data:=.fields #[.int lo t,.int hi u,.int 1 v]},toks:=tk}:=I.kept fun b o e=>gb _ e;refine⟨(s.heap.push {cls:=.type "range",data:=.fields #[.int lo t,.int hi u,.int 1 v]}).objs.size,[(s.heap.push {cls:=.type "range",data:=.fields #[.int lo t,.int hi u,.int 1 v]}).objs.size],_,_,H,rfl,
  I1.kept (t':=tk) fun b o e=>gb _ e,qfj _ lo (hi-lo).toNat,?_,fun b hb=>?_,q⟩
 ·have e1:lo+((0:Nat):Int)*1=lo:=by simp
  have e2:(((hi-lo).toNat:Nat):Int)-((0:Nat):Int)=Builtin.Range.rangeSize lo hi 1:=by rw [rangeSize_one];split <;> omega
  show IsRangeIter _ _ (lo+((0:Nat):Int)*1) ((((hi-lo).toNat:Nat):Int)-((0:Nat):Int)) 1;rw [e1,e2];exact md _ rfl
 ·have e:b=(s.heap.push {cls:=.type "range",data:=.fields #[.int lo t,.int hi u,.int 1 v]}).objs.size:=by simpa using hb
  subst e;exact I1.fpOk (gw _) (I1.hok.fresh (gw _))
def qq1(ta:TA): TI:=fun σ H R=>ta σ H fun vs H1=>∃j:Int,vs=[.int j] /\ -(2 ^ 62)<=j/\j<2 ^ 62/\R (Itr 0 j.toNat) H1
def qq2(ta:TA): TI:=fun σ H R=>ta σ H fun vs H1=>∃i j:Int,vs=[.int i,.int j]/\(-(2 ^ 62)<=i/\i<2 ^ 62 /\ -(2 ^ 62)<=j/\j<2 ^ 62)/\R (Itr i (j-i).toNat) H1
theorem qha{a:Expr}{ta:TA}{p pos:Pos}(hg:Gl X "range")(hm:X.mg "range" = none)(ha:PA X [a] ta)(hs:starEach [a] X.env=[(false,eval a X.env)]:=by rfl): PI X tg (.Call (.Name "range" p) [a] [] pos) (qq1 ta):=by
 intro pins s σ H R I h;refine Call_ (q5a I hg hm boot_range (g0m (thn (ha pos pins s σ H _ I h) fun us s1 ⟨vs,H1,I1,r1,q1⟩=>?_) hs rfl));obtain⟨j,e,q1,q2,q⟩:=q1;subst e;cases r1 with
 | cons r rr=>
  cases rr;obtain⟨t,rfl⟩:=r;exact call_range_1 (qbd I1 (by omega) (by omega) q1 q2 (by simpa using q))
theorem qhb{a b:Expr}{ta:TA}{p pos:Pos}(hg:Gl X "range")(hm:X.mg "range" = none)(ha:PA X [a,b] ta)(hs:starEach [a,b] X.env=[(false,eval a X.env),(false,eval b X.env)]:=by rfl)(hs2:starEach [b] X.env=[(false,eval b X.env)]:=by rfl):
  PI X tg (.Call (.Name "range" p) [a,b] [] pos) (qq2 ta):=by
 intro pins s σ H R I h;refine Call_ (q5a I hg hm boot_range (g0m (thn (ha pos pins s σ H _ I h) fun us s1 ⟨vs,H1,I1,r1,q1⟩=>?_) (by rw [hs,hs2]) (by rw [hs2];rfl)));obtain⟨i,j,e,⟨q1,q2,q3,q4⟩,q⟩:=q1;subst e;cases r1 with
 | cons r rr=>
  cases rr with
  | cons r' rr=>
   cases rr;obtain⟨t,rfl⟩:=r;obtain⟨t',rfl⟩:=r';exact call_range_2 (qbd I1 q1 q2 q3 q4 q)
def qqy(wi:TI)(g:TG)(tb:TS): TS:=fun D σ H=>wi σ H fun J H1=>∃W:Nat->Nat->St->Hp->Prop,(∃m,W 0 m σ H1)/\∀i m σ H,W i m σ H ->
 (J.stop i H/\D.nx σ H)\/(J.go i H/\∃N:St->Hp->Prop,(∀ σ' H',N σ' H'->∃m',m'<m/\W (i+1) m' σ' H')/\∀x H',J.yld i H x H'->g x σ H' fun σ2 H2=>tb {D with nx:=N,ct:=N,bk:=D.nx} σ2 H2)
def q1w(fp:List Addr)(h:Heap): List (Addr×Obj):=fp.filterMap fun b=>(h.get? b).map fun o=>(b,o)
theorem wm{fp:List Addr}{h:Heap}{b:Addr}{o:Obj}(hb:b∈fp)(e:h.get? b=some o): (b,o)∈q1w fp h:=g2c.mpr ⟨b,hb,by rw [e];rfl⟩
theorem qhc{fp:List Addr}{h:Heap}{p:Addr×Obj}(hp:p∈q1w fp h): p.1∈fp/\h.get? p.1=some p.2:=by
 obtain⟨b,hb,e⟩:=g2c.mp hp;cases q:h.get? b with
 | none=>rw [q] at e;cases e
 | some o=>
  rw [q] at e;have e':(b,o)=p:=n3 e;subst e';exact⟨hb,q⟩
theorem Inv.pinned{pins:List (Addr×Obj)}{σ : St}{H:Hp}{s:Shared}{fp:List Addr}(I:Inv X pins σ H s)(hf:∀b∈fp,q01 X pins H b)(ho:∀b∈fp,∃o,s.heap.get? b=some o/\∀v,o.data ≠ .cell v): Inv X (pins++q1w fp s.heap) σ H s:=
 I.pins_of fun p hp=>(mz.mp hp).elim (fun z=>I.pin p (m9 _ z)) fun z=>by
  obtain⟨hb,e⟩:=qhc z;obtain⟨f0,f1,f2,_⟩:=hf p.1 hb;obtain⟨o,e',d⟩:=ho p.1 hb;rw [e] at e';cases e';exact⟨e,f0,f1,f2,d⟩
theorem Inv.unpinned{pins pl:List (Addr×Obj)}{σ : St}{H:Hp}{s:Shared}(I:Inv X (pins++pl) σ H s): Inv X pins σ H s:=I.pins_of fun p hp=>I.pin p (m9 _ (ur _ hp))
theorem qbe{iter:Expr}{body:List Stmt}{wi:TI}{g:TG}{tb:TS}{pos:Pos}(hp:PassesOwn (model X.prog X.w) X.A X.env X.xe)(hc:X.calm=true)(hi:PI X tg iter wi)(hg:PG X tg g)(hb:PSs X body tb)
  (hs:∀x,foldedSetIterable iter X.env x=pure x:=by intro _;rfl):PS X (.For tg iter body [] pos) (qqy wi g tb):=by
 intro pins s σ H D I h;refine wpAny_For (thn (hi pins s σ H _ I h) fun v s1 h1=>thn h1 fun itv s2 h2=>?_) hs;obtain⟨it,fp,tn,J,H2,e,I2,T,st2,f2,W,⟨m0,w0⟩,turn⟩:=h2;subst e
 -- what stays true of the iterator's objects through the loop
 have stat:∀ {H':Hp},(∀b∈fp,H' b=none)->∀b∈fp,q01 X pins H' b:=fun hn b hb=>⟨hn b hb,(f2 b hb).2⟩
 refine codeAny_forLoop_any (fun n s'=>∃i σ' H',Inv X pins σ' H' s'/\tn i s'.heap/\(∀b∈fp,H' b=none)/\W i n σ' H') ?_ m0 ⟨0, σ,H2,I2,st2,fun b hb=>(f2 b hb).1,w0⟩
 rintro n s3 ⟨i, σ3,H3,I3,st3,fr3,w3⟩
 rcases turn i n σ3 H3 w3 with⟨stop,qn⟩|⟨go,N,hN,step⟩
 ·refine g0x hp (thn (T.done X rfl rfl rfl hc i pins s3 σ3 H3 X.xe I3 (stat fr3) st3 stop) fun r s4 ⟨hr,I4⟩=>?_)
  subst hr;exact g1x ⟨σ3,H3,I4,qn⟩
 ·refine g0x hp (thn (T.item X rfl rfl rfl hc i pins s3 σ3 H3 X.xe I3 (stat fr3) st3 go) fun r s4 ⟨u,hr,h4⟩=>?_)
  subst hr;refine g0x hp (thn h4 fun _ s5 ⟨x,H5,I5,r5,y5,st5,fr5⟩=>?_);have I5':=I5.pinned (stat fr5) (T.obj _ _ st5);refine g0x hp (thn (hg _ s5 σ3 H5 x u _ I5' r5 (step x H5 y5)) fun _ s6 ⟨σ6,H6,I6,q6⟩=>?_);refine g0x hp (thn (hb _ s6 σ6 H6 _ I6 q6) fun f s7 q7=>?_);have again:∀ {σ7:St} {H7:Hp},Inv X (pins++q1w fp s5.heap) σ7 H7 s7->N σ7 H7->∃m,m<n/\∃i σ' H',Inv X pins σ' H' s7/\tn i s7.heap/\(∀b∈fp,H' b=none)/\W i m σ' H':=fun {σ7 H7} I7 n7=>by
   obtain⟨m',hm,w7⟩:=hN σ7 H7 n7;refine⟨m',hm,i+1, σ7,H7,I7.unpinned,T.keep _ _ _ st5 fun b hb o e=>(I7.pin (b,o) (m9 _ (m9 _ (wm hb e)))).1,fun b hb=>?_,w7⟩;obtain⟨o,e,d⟩:=T.obj _ _ st5 b hb;exact(I7.pin (b,o) (m9 _ (m9 _ (wm hb e)))).2.1
  cases f with
  | next=>obtain⟨σ7,H7,I7,n7⟩:=q7;exact again I7 n7
  | cont=>obtain⟨σ7,H7,I7,n7⟩:=q7;exact again I7 n7
  | brk=>obtain⟨σ7,H7,I7,q7⟩:=q7;exact⟨σ7,H7,I7.unpinned,q7⟩
  | ret v=>obtain⟨x7, σ7,H7,I7,r7,q7⟩:=q7;exact⟨x7, σ7,H7,I7.unpinned,r7,q7⟩
end
abbrev R2:=V->V->Hp->VK->Prop
def OpR(X:Cx)(f:Value->Value->Sem Value)(r:R2): Prop:=
 ∀(pins:List (Addr×Obj)) (s:Shared) (σ : St) (H:Hp) (x y:V) (v u:Value) (Q:VK),Inv X pins σ H s->RelV x v->RelV y u->r x y H Q ->
  wpAny (model X.prog X.w) X.A (f v u) (EP X pins σ Q) X.xe s
def ji(X:Cx)(f:Value)(r:List V->Hp->VK->Prop): Prop:=
 ∀(pins:List (Addr×Obj)) (s:Shared) (σ : St) (H:Hp) (xs:List V) (us:List Value) (Q:VK),Inv X pins σ H s->Vals xs us->r xs H Q ->
  wpAny (model X.prog X.w) X.A (call f us) (EP X pins σ Q) X.xe s
def qqz(X:Cx)(r:V->Hp->(Bool->Hp->Prop)->Prop): Prop:=
 ∀(pins:List (Addr×Obj)) (s:Shared) (σ : St) (H:Hp) (x:V) (v:Value) (Q:Bool->Hp->Prop),Inv X pins σ H s->RelV x v->r x H Q ->
  wpAny (model X.prog X.w) X.A (truthy v) (TP X pins σ Q) X.xe s
def tOp(r:R2)(ta tb:TE): TE:=fun σ H Q=>ta σ H fun x H1=>tb σ H1 fun y H2=>r x y H2 Q
def rI(C:Int->Int->Prop)(g:Int->Int->V): R2:=fun x y H Q=>∃i j,x=.int i/\y=.int j/\C i j/\Q (g i j) H
def rI0(g:Int->Int->V): R2:=fun x y H Q=>∃i j,x=.int i/\y=.int j/\Q (g i j) H
section
variable{X:Cx}{a b c:Expr}{ta tb tc:TE}{pos:Pos}
theorem qj6(ha:PE X a ta)(hb:PE X b tb){pins:List (Addr×Obj)}{s:Shared}{σ : St}{H:Hp}{R:V->V->Hp->Prop}(I:Inv X pins σ H s)
  (h:ta σ H fun x H1=>tb σ H1 fun y H2=>R x y H2) {Q:Value->Shared->Prop} {f:Value->Value->Sem Value}
  (hf:∀v u s2 x y H2,Inv X pins σ H2 s2->RelV x v->RelV y u->R x y H2->wpAny (model X.prog X.w) X.A (f v u) Q X.xe s2) :
  wpAny (model X.prog X.w) X.A (eval a X.env) (fun v s₁=>wpAny (model X.prog X.w) X.A (eval b X.env) (fun u s₂=>wpAny (model X.prog X.w) X.A (f v u) Q X.xe s₂) X.xe s₁) X.xe s:=by
 refine thn (ha pins s σ H _ I h) fun v s1 ⟨x,H1,I1,r1,q1⟩=>?_;refine thn (hb pins s1 σ H1 _ I1 q1) fun u s2 ⟨y,H2,I2,r2,q2⟩=>?_;exact hf v u s2 x y H2 I2 r1 r2 q2
theorem qq3{op:Operator}{r:R2}(ho:OpR X (binaryOp op) r)(ha:PE X a ta)(hb:PE X b tb): PE X (.BinOp a op b pos) (tOp r ta tb):=by
 intro pins s σ H Q I h;exact wpAny_BinOp (qj6 ha hb I h fun v u s2 x y H2 I2 rx ry q=>ho pins s2 σ H2 x y v u Q I2 rx ry q)
theorem opI{f:Value->Value->Sem Value}{C:Int->Int->Prop}{g:Int->Int->Int}
  (rule:∀(i j:Int) (t u:Tok) (s:Shared) (Q:Value->Shared->Prop) (E:Value->Shared->Prop),C i j->Q (.int (g i j) s.toks) {s with toks:=s.toks+1}->wpAny (model X.prog X.w) X.A (f (.int i t) (.int j u)) Q E s) :
  OpR X f (rI C fun i j=>.int (g i j)):=by
 intro pins s σ H x y v u Q I rx ry h;obtain⟨i,j,rfl,rfl,hc,q⟩:=h;obtain⟨t,rfl⟩:=rx;obtain⟨t',rfl⟩:=ry;exact rule i j t t' s _ _ hc ⟨.int (g i j),H,I.tok _,⟨_,rfl⟩,q⟩
theorem qnr{f:Value->Value->Sem Value}{g:Int->Int->Int}
  (rule:∀(i j:Int) (t u:Tok) (s:Shared) (Q:Value->Shared->Prop) (E:Value->Shared->Prop),Q (.int (g i j) s.toks) {s with toks:=s.toks+1}->wpAny (model X.prog X.w) X.A (f (.int i t) (.int j u)) Q E s) :
  OpR X f (rI0 fun i j=>.int (g i j)):=by
 intro pins s σ H x y v u Q I rx ry h;obtain⟨i,j,rfl,rfl,q⟩:=h;obtain⟨t,rfl⟩:=rx;obtain⟨t',rfl⟩:=ry;exact rule i j t t' s _ _ ⟨.int (g i j),H,I.tok _,⟨_,rfl⟩,q⟩
theorem qns{f:Value->Value->Sem Value}{g:Int->Int->Bool}
  (rule:∀(i j:Int) (t u:Tok) (s:Shared) (Q:Value->Shared->Prop) (E:Value->Shared->Prop),Q (.bool (g i j)) s->wpAny (model X.prog X.w) X.A (f (.int i t) (.int j u)) Q E s) :
  OpR X f (rI0 fun i j=>.bl (g i j)):=by
 intro pins s σ H x y v u Q I rx ry h;obtain⟨i,j,rfl,rfl,q⟩:=h;obtain⟨t,rfl⟩:=rx;obtain⟨t',rfl⟩:=ry;exact rule i j t t' s _ _ ⟨.bl (g i j),H,I,rfl,q⟩
def qr0(i j:Int): Prop:=0<j/\j<1073741824
def qr1(i j:Int): Prop:=0<=j/\j<=1000000/\i.natAbs<2 ^ 64
def CMul(i j:Int): Prop:=(-(2 ^ 64)<i/\i<2 ^ 64)\/(-(2 ^ 64)<j/\j<2 ^ 64)
theorem CMul.ok{i j:Int}(h:CMul i j): IntMulOk i j:=by
 rcases h with⟨h1,h2⟩|⟨h1,h2⟩
 ·exact .of_left (intBits_le_64 h1 h2)
 ·exact .of_right (intBits_le_64 h1 h2)
theorem qnt:OpR X (binaryOp .Add) (rI0 fun i j=>.int (i+j)):=qnr fun _ _ _ _ _ _ _ q=>add_int q
theorem qnu:OpR X (binaryOp .Sub) (rI0 fun i j=>.int (i-j)):=qnr fun _ _ _ _ _ _ _ q=>sub_int q
theorem qnv:OpR X (binaryOp .Mult) (rI CMul fun i j=>.int (i*j)):=opI fun _ _ _ _ _ _ _ hc q=>mul_int q hc.ok
theorem qln:OpR X (binaryOp .FloorDiv) (rI qr0 fun i j=>.int (i / j)):=opI fun i j _ _ _ _ _ hc q=>by
 have h1:(0:Int)<j:=hc.1;have h2:j<1073741824:=hc.2;exact floordiv_int (by omega) (by rw [Int.fdiv_eq_ediv_of_nonneg i (by omega)];exact q) (.inl (PyProof.noPylong_small (by omega)))
theorem qnw:OpR X (binaryOp .Mod) (rI (fun _ j=>0<j) fun i j=>.int (i%j)):=opI fun i j _ _ _ _ _ hc q=>by
 have h1:(0:Int)<j:=hc;exact mod_int' (by omega) (by rw [Int.fmod_eq_emod_of_nonneg i (by omega)];exact q)
theorem qnx:OpR X (binaryOp .Pow) (rI qr1 fun i j=>.int (i ^ j.toNat)):=opI fun _ _ _ _ _ _ _ hc q=>pow_int_small hc.1 hc.2.1 hc.2.2 q
end
def q7d:V->V->Bool
 | .non,.non=>true | .non,.int _=>true | .int _,.non=>true | .non,.bl _=>true | .bl _,.non=>true | .non,.str _=>true | .str _,.non=>true
 | .int _,.int _=>true | .bl _,.bl _=>true | .str _,.str _=>true | .byt _,.byt _=>true
 | .int _,.str _=>true | .str _,.int _=>true | .bl _,.str _=>true | .str _,.bl _=>true
 | _,_=>false
def rEq:R2:=fun x y H Q=>q7d x y=true/\Q (.bl (decide (x=y))) H
def rNe:R2:=fun x y H Q=>q7d x y=true/\Q (.bl (!decide (x=y))) H
theorem qe7{i j:Int}: decide (V.int i=V.int j)=(i==j):=by
 rw [g1y];simp
theorem qhd{i j:Bool}: decide (V.bl i=V.bl j)=(i==j):=by
 rw [g1y];simp
theorem q6c{i j:Str}: decide (V.str i=V.str j)=(i==j):=by
 rw [g1y];simp
theorem qe8{i j:Array UInt8}: decide (V.byt i=V.byt j)=(i.toList==j.toList):=by
 rw [g1y];cases i;cases j;simp
section
variable{X:Cx}{a b c:Expr}{ta tb tc:TE}{pos:Pos}
theorem zq{pins:List (Addr×Obj)}{σ : St}{H:Hp}{s:Shared}{Q:VK}{k k':Bool}(I:Inv X pins σ H s)(q:Q (.bl k) H)(e:k=k'): EP X pins σ Q (.bool k') s:=by
 subst e;exact⟨.bl k,H,I,rfl,q⟩
theorem qq4:OpR X (compareOp .Eq) rEq:=by
 intro pins s σ H x y v u Q I rx ry h;obtain⟨hs,q⟩:=h;cases x with
 | non=>
  cases rx;cases y with
  | non=>cases ry;exact PySem.EqNone.eq_none_none (zq I q (by simp))
  | bl j=>cases ry;exact PySem.EqNone.eq_none_bool (zq I q (by simp))
  | int j=>obtain⟨t',rfl⟩:=ry;exact PySem.EqNone.eq_none_int (zq I q (by simp))
  | str j=>obtain⟨t',rfl⟩:=ry;exact PySem.EqNone.eq_none_str (zq I q (by simp))
  | _=>exact absurd (show false=true from hs) m5
 | bl i=>
  cases rx;cases y with
  | non=>cases ry;exact PySem.EqNone.eq_bool_none (zq I q (by simp))
  | bl j=>cases ry;exact eq_bool (zq I q qhd)
  | str j=>obtain⟨t',rfl⟩:=ry;exact PySem.EqMixed.eq_bool_str (zq I q (by simp))
  | _=>exact absurd (show false=true from hs) m5
 | int i=>
  obtain⟨t,rfl⟩:=rx;cases y with
  | non=>cases ry;exact PySem.EqNone.eq_int_none (zq I q (by simp))
  | int j=>obtain⟨t',rfl⟩:=ry;exact eq_int (zq I q qe7)
  | str j=>obtain⟨t',rfl⟩:=ry;exact PySem.EqMixed.eq_int_str (zq I q (by simp))
  | _=>exact absurd (show false=true from hs) m5
 | str i=>
  obtain⟨t,rfl⟩:=rx;cases y with
  | non=>cases ry;exact PySem.EqNone.eq_str_none (zq I q (by simp))
  | bl j=>cases ry;exact PySem.EqMixed.eq_str_bool (zq I q (by simp))
  | int j=>obtain⟨t',rfl⟩:=ry;exact PySem.EqMixed.eq_str_int (zq I q (by simp))
  | str j=>obtain⟨t',rfl⟩:=ry;exact eq_str (zq I q q6c)
  | _=>exact absurd (show false=true from hs) m5
 | byt i=>
  obtain⟨t,rfl⟩:=rx;cases y with
  | byt j=>obtain⟨t',rfl⟩:=ry;exact PySem.W.eq_bytes (zq I q qe8)
  | _=>exact absurd (show false=true from hs) m5
 | _=>cases y <;> exact absurd (show false=true from hs) m5
theorem qq5:OpR X (compareOp .NotEq) rNe:=by
 intro pins s σ H x y v u Q I rx ry h;obtain⟨hs,q⟩:=h;cases x with
 | non=>
  cases rx;cases y with
  | non=>cases ry;exact PySem.EqNone.ne_none_none (zq I q (by simp))
  | bl j=>cases ry;exact PySem.EqNone.ne_none_bool (zq I q (by simp))
  | int j=>obtain⟨t',rfl⟩:=ry;exact PySem.EqNone.ne_none_int (zq I q (by simp))
  | str j=>obtain⟨t',rfl⟩:=ry;exact PySem.EqNone.ne_none_str (zq I q (by simp))
  | _=>exact absurd (show false=true from hs) m5
 | bl i=>
  cases rx;cases y with
  | non=>cases ry;exact PySem.EqNone.ne_bool_none (zq I q (by simp))
  | bl j=>cases ry;exact ne_bool (zq I q (n6 not qhd))
  | str j=>obtain⟨t',rfl⟩:=ry;exact PySem.EqMixed.ne_bool_str (zq I q (by simp))
  | _=>exact absurd (show false=true from hs) m5
 | int i=>
  obtain⟨t,rfl⟩:=rx;cases y with
  | non=>cases ry;exact PySem.EqNone.ne_int_none (zq I q (by simp))
  | int j=>obtain⟨t',rfl⟩:=ry;exact ne_int (zq I q (n6 not qe7))
  | str j=>obtain⟨t',rfl⟩:=ry;exact PySem.EqMixed.ne_int_str (zq I q (by simp))
  | _=>exact absurd (show false=true from hs) m5
 | str i=>
  obtain⟨t,rfl⟩:=rx;cases y with
  | non=>cases ry;exact PySem.EqNone.ne_str_none (zq I q (by simp))
  | bl j=>cases ry;exact PySem.EqMixed.ne_str_bool (zq I q (by simp))
  | int j=>obtain⟨t',rfl⟩:=ry;exact PySem.EqMixed.ne_str_int (zq I q (by simp))
  | str j=>obtain⟨t',rfl⟩:=ry;exact ne_str (zq I q (n6 not q6c))
  | _=>exact absurd (show false=true from hs) m5
 | byt i=>
  obtain⟨t,rfl⟩:=rx;cases y with
  | byt j=>obtain⟨t',rfl⟩:=ry;exact PySem.W.ne_bytes (zq I q (n6 not qe8))
  | _=>exact absurd (show false=true from hs) m5
 | _=>cases y <;> exact absurd (show false=true from hs) m5
theorem qq6:OpR X (compareOp .LtE) (rI0 fun i j=>.bl (decide (i<=j))):=qns fun _ _ _ _ _ _ _ q=>le_int q
theorem qq7:OpR X (compareOp .Gt) (rI0 fun i j=>.bl (decide (j<i))):=qns fun _ _ _ _ _ _ _ q=>gt_int q
theorem qhe:OpR X (compareOp .In) (fun x y H Q=>∃i j,x=.str i/\y=.str j/\Q (.bl (!(Builtin.Str.occurrences j i 0 j.length 1).isEmpty)) H):=by
 intro pins s σ H x y v u Q I rx ry h;obtain⟨i,j,rfl,rfl,q⟩:=h;obtain⟨t,rfl⟩:=rx;obtain⟨t',rfl⟩:=ry;exact in_str (zq I q rfl)
theorem qlo{op:CmpOp}{r:R2}(ho:OpR X (compareOp op) r)(ha:PE X a ta)(hb:PE X b tb)(hm:behindInMarks op b=false): PE X (.Compare a [op] [b] pos) (tOp r ta tb):=by
 intro pins s σ H Q I h;exact wpAny_Compare1 (qj6 ha hb I h fun v u s2 x y H2 I2 rx ry q=>ho pins s2 σ H2 x y v u Q I2 rx ry q) hm
def ql4(t:TE): TT:=fun σ H Q=>t σ H fun x H'=>∃k,x=.bl k/\Q k H'
theorem qlp{op:CmpOp}{r:R2}(ho:OpR X (compareOp op) r)(ha:PE X a ta)(hb:PE X b tb)(hm:behindInMarks op b=false): PT X (.Compare a [op] [b] pos) (ql4 (tOp r ta tb)):=by
 intro pins s σ H Q I h;refine wpAny_isTrue_Compare1 (thn (ha pins s σ H _ I h) fun v s1 ⟨x,H1,I1,r1,q1⟩=>thn (hb pins s1 σ H1 _ I1 q1) fun u s2 ⟨y,H2,I2,r2,q2⟩=>
  thn (ho pins s2 σ H2 x y v u _ I2 r1 r2 q2) fun c s3 ⟨z,H3,I3,r3,k,e,q3⟩=>?_) hm
 subst e;cases r3;exact tx ⟨H3,I3,q3⟩
def qbf(r r':R2)(ta tb tc:TE): TE:=fun σ H Q=>ta σ H fun x H1=>tb σ H1 fun y H2=>r x y H2 fun z H3=>∃k,z=.bl k /\
 (if k=true then tc σ H3 fun w' H4=>r' y w' H4 Q else Q (.bl false) H3)
theorem qj7{op op':CmpOp}{r r':R2}(ho:OpR X (compareOp op) r)(ho':OpR X (compareOp op') r')(ha:PE X a ta)(hb:PE X b tb)(hc:PE X c tc)
  (hm:lastMarks [op,op'] [b,c]=false:=by with_unfolding_all rfl):PE X (.Compare a [op,op'] [b,c] pos) (qbf r r' ta tb tc):=by
 intro pins s σ H Q I h;refine Compare_chain (thn (ha pins s σ H _ I h) fun v s1 ⟨x,H1,I1,r1,q1⟩=>chain_link (thn (hb pins s1 σ H1 _ I1 q1) fun u s2 ⟨y,H2,I2,r2,q2⟩=>
  thn (ho pins s2 σ H2 x y v u _ I2 r1 r2 q2) fun d s3 ⟨z,H3,I3,r3,k,e,q3⟩=>?_)) hm
 subst e;cases r3;refine tx ?_;cases k with
 | false=>exact ite_ff ⟨.bl false,H3,I3,rfl,q3⟩
 | true=>exact ite_tt (chain_last (thn (hc pins s3 σ H3 _ I3 q3) fun w' s4 ⟨z',H4,I4,r4,q4⟩=>ho' pins s4 σ H4 y z' u w' Q I4 r2 r4 q4))
theorem qj8{op op':CmpOp}{r r':R2}(ho:OpR X (compareOp op) r)(ho':OpR X (compareOp op') r')(ha:PE X a ta)(hb:PE X b tb)(hc:PE X c tc)
  (hm:lastMarks [op,op'] [b,c]=false:=by with_unfolding_all rfl):PT X (.Compare a [op,op'] [b,c] pos) (ql4 (qbf r r' ta tb tc)):=by
 intro pins s σ H Q I h;refine isTrue_chain (thn (ha pins s σ H _ I h) fun v s1 ⟨x,H1,I1,r1,q1⟩=>test_link (thn (hb pins s1 σ H1 _ I1 q1) fun u s2 ⟨y,H2,I2,r2,q2⟩=>
  thn (ho pins s2 σ H2 x y v u _ I2 r1 r2 q2) fun d s3 ⟨z,H3,I3,r3,k,e,q3⟩=>?_)) hm
 subst e;cases r3;refine tx ?_;cases k with
 | false=>
  obtain⟨k',e',q'⟩:=q3;cases e';exact ite_ff ⟨H3,I3,q'⟩
 | true=>
  refine ite_tt (test_last (thn (hc pins s3 σ H3 _ I3 q3) fun w' s4 ⟨z',H4,I4,r4,q4⟩=>thn (ho' pins s4 σ H4 y z' u w' _ I4 r2 r4 q4) fun d' s5 ⟨z2,H5,I5,r5,k2,e2,q5⟩=>?_));subst e2;cases r5;exact tx ⟨H5,I5,q5⟩
def qj9(K:PySem.W.Frag)(x:V)(H:Hp)(k:Bool): Prop:=
 match x with
 | .non=>k=false
 | .bl b=>k=b
 | .int i=>k=(i != 0)
 | .str y=>y.length<=sizeLine/\k=((y.length:Int) != 0)
 | .byt y=>y.size<=sizeLine/\k=((y.size:Int) != 0)
 | .ref p=>(∃xs,SqL K H p xs/\k = !xs.isEmpty)\/(∃xs,SqT K H p xs/\k = !xs.isEmpty)\/∃kvs,H p=some (.dK kvs)/\k = !kvs.isEmpty
 | _=>False
theorem qfk{κ : Type}{kvs:List (κ × V)}{vs:List (κ × Value)}(r:KV kvs vs): (!vs.isEmpty) = !kvs.isEmpty:=by
 cases r <;> rfl
theorem q7z{xs:List V}{its:List Value}(r:Vals xs its): (!its.toArray.isEmpty) = !xs.isEmpty:=by
 cases r <;> simp
theorem q5b:(sizeLine:Nat)<2 ^ 63:=by rw [uc];decide
theorem qny:qqz X (fun x H Q=>∃k,qj9 X.K x H k/\Q k H):=by
 intro pins s σ H x v Q I rx h;obtain⟨k,e,q⟩:=h;have hl:=q5b;have hs:sizeLine=16777216:=uc;cases x with
 | non=>
  cases rx;have e':k=false:=e;subst e';exact truthy_none ⟨H,I,q⟩
 | bl b=>
  cases rx;have e':k=b:=e;subst e';exact tx ⟨H,I,q⟩
 | int i=>
  obtain⟨t,rfl⟩:=rx;have e':k=(i != 0):=e;subst e';exact PySem.P.truthy_int ⟨H,I,q⟩
 | str y=>
  obtain⟨t,rfl⟩:=rx;obtain⟨hy,e'⟩:y.length<=sizeLine/\k=((y.length:Int) != 0):=e;subst e';exact PySem.P.truthy_str (by omega) ⟨H,I.tok _,q⟩
 | byt y=>
  obtain⟨t,rfl⟩:=rx;obtain⟨hy,e'⟩:y.size<=sizeLine/\k=((y.size:Int) != 0):=e;subst e';exact PySem.W.truthy_bytes (by omega) ⟨H,I.tok _,q⟩
 | ref p=>
  cases rx;have e':(∃xs,SqL X.K H p xs/\k = !xs.isEmpty)\/(∃xs,SqT X.K H p xs/\k = !xs.isEmpty)\/∃kvs,H p=some (.dK kvs)/\k = !kvs.isEmpty:=e;rcases e' with⟨xs,hx,e'⟩|⟨xs,hx,e'⟩|⟨kvs,hx,e'⟩
  ·subst e'
   obtain⟨its,r,pl,hz⟩:=I.list hx;have hlen:=r.length;exact wpAny_truthy_list pl.isList (by simp only [gh];omega) ⟨H,I.tok _,by rw [q7z r];exact q⟩
  ·subst e'
   obtain⟨its,r,pl,hz⟩:=I.tuple hx;have hlen:=r.length;exact truthy_tuple pl (by simp only [gh];omega) ⟨H,I.tok _,by rw [q7z r];exact q⟩
  ·subst e'
   obtain⟨hz,hS,vs,r,m⟩:kvs.length<=sizeLine/\(p==sysModules)=false/\∃vs,KV kvs vs/\s.heap.DictOf (mixKind X.prog X.w) p vs:=I.hok p _ hx;have hlen:kvs.length=vs.length:=Paired.length r;exact wpAny_truthy_dict hS m (by omega) ⟨H,I.tok _,by rw [qfk r];exact q⟩
 | _=>exact(show False from e).elim
theorem qja(ha:PE X a ta)(he:∀whole,isTrue a X.env whole=(do let v <- whole;standAt a.pos;holding [v] (truthy v))):
  PT X a (fun σ H Q=>ta σ H fun x H'=>∃k,qj9 X.K x H' k/\Q k H'):=by
 intro pins s σ H Q I h;exact isTrue_plain (thn (ha pins s σ H _ I h) fun v s1 ⟨x,H1,I1,r1,q1⟩=>qny pins s1 σ H1 x v Q I1 r1 q1) (he _)
theorem qfl:OpR X (binaryOp .Add) (fun x y H Q=>∃i j,x=.str i/\y=.str j/\i.length+j.length<=sizeLine/\Q (.str (i++j)) H):=by
 intro pins s σ H x y v u Q I rx ry h;obtain⟨i,j,rfl,rfl,hz,q⟩:=h;obtain⟨t,rfl⟩:=rx;obtain⟨t',rfl⟩:=ry;exact add_str (fun t' tk=>⟨.str (i++j),H,I.tok _,⟨_,rfl⟩,q⟩) hz
theorem vals1{x:V}{us:List Value}(r:Vals [x] us): ∃u,us=[u]/\RelV x u:=by
 cases r with
 | cons r1 r2=>cases r2;exact⟨_,rfl,r1⟩
theorem vals2{x y:V}{us:List Value}(r:Vals [x,y] us): ∃u w',us=[u,w']/\RelV x u/\RelV y w':=by
 cases r with
 | cons r1 r2=>
  cases r2 with
  | cons r3 r4=>cases r4;exact⟨_,_,rfl,r1,r3⟩
theorem qhf(hc:X.calm=true): ji X (.builtin "max") (fun xs H Q=>∃i j,xs=[.int i,.int j]/\Q (.int (if j>i then j else i)) H):=by
 intro pins s σ H xs us Q I r h;obtain⟨i,j,rfl,q⟩:=h;obtain⟨u,w',rfl,⟨t,rfl⟩,⟨t',rfl⟩⟩:=vals2 r;refine max_two_ints (I.ok.hd hc) fun h' tk k=>⟨_,H,I.kept k,?_,q⟩
 by_cases hj:j>i
 ·rw [gy hj,gy hj];exact⟨_,rfl⟩
 ·rw [ma hj,ma hj];exact⟨_,rfl⟩
theorem qhg(hc:X.calm=true): ji X (.builtin "min") (fun xs H Q=>∃i j,xs=[.int i,.int j]/\Q (.int (if j<i then j else i)) H):=by
 intro pins s σ H xs us Q I r h;obtain⟨i,j,rfl,q⟩:=h;obtain⟨u,w',rfl,⟨t,rfl⟩,⟨t',rfl⟩⟩:=vals2 r;refine min_two_ints (I.ok.hd hc) fun h' tk k=>⟨_,H,I.kept k,?_,q⟩
 by_cases hj:j<i
 ·rw [gy hj,gy hj];exact⟨_,rfl⟩
 ·rw [ma hj,ma hj];exact⟨_,rfl⟩
theorem qbg:ji X (.type "str") (fun xs H Q=>∃i,xs=[.int i]/\i.natAbs.log2<1920/\Q (.str (toString i)) H):=by
 intro pins s σ H xs us Q I r h;obtain⟨i,rfl,hz,q⟩:=h;obtain⟨u,rfl,t,rfl⟩:=vals1 r;exact PySem.P.str_of_int hz ⟨.str _,H,I.tok _,⟨_,rfl⟩,q⟩
def qr2(K:PySem.W.Frag)(x:V)(H:Hp)(n:Nat): Prop:=
 match x with
 | .str y=>y.length<=sizeLine/\n=y.length
 | .byt y=>y.size<=sizeLine/\n=y.size
 | .ref p=>(∃xs,SqL K H p xs/\n=xs.length)\/∃xs,SqT K H p xs/\n=xs.length
 | _=>False
theorem call_len:ji X (.builtin "len") (fun xs H Q=>∃x n,xs=[x]/\qr2 X.K x H n/\Q (.int n) H):=by
 intro pins s σ H xs us Q I r h;obtain⟨x,n,rfl,e,q⟩:=h;obtain⟨u,rfl,rx⟩:=vals1 r;have hl:=q5b;have hs:sizeLine=16777216:=uc;cases x with
 | str y=>
  obtain⟨t,rfl⟩:=rx;obtain⟨hy,e'⟩:y.length<=sizeLine/\n=y.length:=e;subst e';exact len_str (by omega) ⟨.int _,H,I.tok _,⟨_,rfl⟩,q⟩
 | byt y=>
  obtain⟨t,rfl⟩:=rx;obtain⟨hy,e'⟩:y.size<=sizeLine/\n=y.size:=e;subst e';exact PySem.W.len_bytes (by omega) ⟨.int _,H,I.tok _,⟨_,rfl⟩,q⟩
 | ref p=>
  cases rx;have e':(∃xs,SqL X.K H p xs/\n=xs.length)\/∃xs,SqT X.K H p xs/\n=xs.length:=e;rcases e' with⟨xs,hx,e'⟩|⟨xs,hx,e'⟩
  ·subst e'
   obtain⟨its,r',pl,hz⟩:=I.list hx;have hlen:=r'.length;exact Calls.call_len_list pl.isList (by simp only [gh];omega) ⟨.int xs.length,H,I.tok _,⟨_,by simp only [gh];rw [hlen]⟩,q⟩
  ·subst e'
   obtain⟨its,r',pl,hz⟩:=I.tuple hx;have hlen:=r'.length;exact len_tuple pl (by simp only [gh];omega) ⟨.int xs.length,H,I.tok _,⟨_,by simp only [gh];rw [hlen]⟩,q⟩
 | _=>exact(show False from e).elim
end
structure ObjM(h:Heap)(x dx C:Addr)(mA:Str->Option Value): Prop where
 obj:h.get? x=some (PySem.W.instObj C dx)
 ns:h.Ns1 dx mA
 ne:dx≠x
theorem q9z{h:Heap}{dx:Addr}{mA:Str->Option Value}(n:h.Ns1 dx mA): ∃od,h.get? dx=some od/\∀name,PySem.W.lookIn name od=some (mA name):=by
 obtain⟨o,es,ep,ho,hd,hk,_,hm⟩:=n;refine⟨o,ho,fun name=>?_⟩;have e:=hm name;unfold nsFind findBy at e;rw [<- Array.find?_toList] at e;unfold PySem.W.lookIn;rw [hd];dsimp only
 split
 ·rename_i y q
  rw [q] at e;exact n6 some e
 ·rename_i q
  rw [q] at e;have a:es.toList.any (·.refKey)=false:=by
   rw [List.any_eq_false];intro y hy;obtain⟨z,t,hkey⟩:=hk y (Array.mem_toList_iff.mp hy);simp [DictEntry.refKey,hkey]
  have a':¬es.toList.any (·.refKey)=true:=by rw [a];exact m5
  rw [ma a'];exact n6 some e
theorem ObjM.look{h:Heap}{x dx C:Addr}{mA:Str->Option Value}(I:ObjM h x dx C mA): ∃od,PySem.W.InstAt h x (PySem.W.instObj C dx) C (some od)/\∀name,PySem.W.lookIn name od=some (mA name):=
 let⟨od,ho,hl⟩:=q9z I.ns
 ⟨od,⟨I.obj,rfl,rfl,ho⟩,hl⟩
section
variable{prog:Program}{w:World}{A:Around}{E:Value->Shared->Prop}{s:Shared}{K:PySem.W.Frag}{x dx C f:Addr}{mA:Str->Option Value}{name:Str}{v:Value}
end
section
variable{P:Program}{w:World}{H H':Hp}{h h':Heap}{a C dx:Addr}{fs fs':List (Str×V)}
theorem qlq(hok:HOk P w H h)(e:H a=some (.ins C dx fs)): ∃mA,ObjM h a dx C mA/\(∀f,qfh (fs.lookup f) (mA f))/\PySem.Within mA (fs.map (·.1))/\fs.length<=1000/\H dx=some (.own a):=by
 obtain⟨d,z,ne,ob,mA,n,r,q⟩:=(show ObjOk P w H h a (.ins C dx fs) from hok a _ e)
 exact⟨mA,⟨ob,n,ne⟩,r,q,z,d⟩
end
structure Cls(K:PySem.W.Frag)(C:Addr): Prop where
 pg:PySem.W.plainGet K C Str.empty=true
 hd:PySem.W.hasDictIn K C=true
 po:PySem.W.plainOver K C=true
 sa:PySem.W.findIn K (.ref C) "__setattr__" = some (some (.builtin "object.__setattr__"))
section
variable{X:Cx}{pins:List (Addr×Obj)}{σ : St}{H:Hp}{s:Shared}{a C dx:Addr}{fs:List (Str×V)}{f:Str}{v:V}{A:Around}{E:Value->Shared->Prop}
theorem qlr{prog:Program}{w:World}{env:Env}{e:Expr}{f:Str}{pos:Pos}{s:Shared}{Q:Value->Shared->Prop}(hb:attributeBase e f env (eval e env)=eval e env)
  (h:wpAny (model prog w) A (eval e env) (fun o s₁=>wpAny (model prog w) A (getAttr o f true) Q E s₁) E s):wpAny (model prog w) A (eval (.Attribute e f pos) env) Q E s:=
 Attribute_any_ h (by rw [arm_eval_Attribute,hb])
end
section
variable{X:Cx}{o e value:Expr}{f:Str}{pos pos' tpos:Pos}{ta tv:TE}
end
section
variable{X:Cx}{pins:List (Addr×Obj)}{σ : St}{H:Hp}{s:Shared}{A:Around}{E:Value->Shared->Prop}{Q:Value->Shared->Prop}{c:Value}{b:Bool}
end
structure Room(k:Nat)(A:Around): Prop where
 hd:A.handled=none
 dp:A.depth+3*k+5<recursionLimit
 un:A.units+16*k+200<cLine
theorem Room.mono{j k:Nat}{A:Around}(r:Room k A)(h:j<=k): Room j A:=⟨r.hd,by have:=r.dp;omega,by have:=r.un;omega⟩
theorem Room.deeper{k:Nat}{A:Around}(r:Room (k+1) A)(env:Env): Room k (A.deeper env):=
 ⟨r.hd,by have:=r.dp;show A.depth+1+3*k+5<_;omega,by have:=r.un;show A.units+3+16*k+200<_;omega⟩
theorem qfm{A:Around}{C:Addr}{us:List Value}{kw:List (Str×Value)}: (A.under (.builtin "type.__call__" ⟨.ref C :: us,kw⟩)).depth=A.depth+1:=by
 first|rfl|simp [Around.under,Code.weight,Code.isCreation,Code.isGuard,Code.isCaller,Code.frames,Code.isFrame,guardIds]
theorem qfn{A:Around}{C:Addr}{us:List Value}{kw:List (Str×Value)}: (A.under (.builtin "type.__call__" ⟨.ref C :: us,kw⟩)).units=A.units+1:=by
 first|rfl|simp [Around.under,Code.cUnits,Code.frames,Code.isFrame]
theorem Room.make{k:Nat}{A:Around}(r:Room (k+1) A)(C:Addr)(us:List Value)(kw:List (Str×Value)): Room k (A.under (.builtin "type.__call__" ⟨.ref C :: us,kw⟩)):=
 ⟨r.hd,by have:=r.dp;rw [qfm];omega,by have:=r.un;rw [qfn];omega⟩
theorem Room.depth{k:Nat}{A:Around}(r:Room k A): A.depth<recursionLimit:=by have:=r.dp;omega
theorem Room.units{k:Nat}{A:Around}(r:Room k A): A.units+64<cLine:=by have:=r.un;omega
def tNil:TA:=fun _ H Q=>Q [] H
def qq8(ta:TE)(tr:TA): TA:=fun σ H Q=>ta σ H fun x H1=>tr σ H1 fun xs H2=>Q (x :: xs) H2
section
variable{X:Cx}{e:Expr}{es:List Expr}{te:TE}{t:TA}{pos:Pos}
theorem y6:PA X [] tNil:=fun _ _ _ _ H Q I h=>Calls.spliced_nil ⟨[],H,I,.nil,h⟩
theorem jj(ha:PE X e te)(hr:PA X es t)(hs:starEach (e :: es) X.env=(false,eval e X.env) :: starEach es X.env:=by rfl): PA X (e :: es) (qq8 te t):=by
 intro pos pins s σ H Q I h;rw [hs];show wpAny _ _ (spliced ((false,eval e X.env) :: backTo pos (starEach es X.env))) _ _ s;refine Calls.spliced_cons (thn (ha pins s σ H _ I h) fun u s1 ⟨x,H1,I1,r1,q1⟩=>?_);exact thn (hr pos pins s1 σ H1 _ I1 q1) fun us s2 ⟨xs,H2,I2,r2,q2⟩=>⟨x :: xs,H2,I2,.cons r1 r2,q2⟩
def qr3(t:TA): TE:=fun σ H Q=>t σ H fun xs H1=>xs.length<=sizeLine/\∀p,H1 p=none->Q (.ref p) (upd H1 p (.tup xs))
def qr4(t:TA): TE:=fun σ H Q=>t σ H fun xs H1=>xs.length<=sizeLine/\∀p,H1 p=none->Q (.ref p) (upd H1 p (.lst xs))
theorem qnz{x1}(h:PA X es t): PE X (.Tuple es x1 pos) (qr3 t):=by
 intro pins s σ H Q I hq;refine wpAny_Tuple_spliced (thn (h pos pins s σ H _ I hq) fun us s1 ⟨xs,H1,I1,r,z,q⟩=>⟨by rw [<- r.length];exact z,?_⟩);have hf:H1 s1.heap.objs.size=none:=I1.hok.fresh (gw _);refine⟨.ref s1.heap.objs.size,upd H1 s1.heap.objs.size (.tup xs),I1.laid (t':=s1.toks) (fun b u e=>gb _ e) (gw _) ?_,rfl,q _ hf⟩;exact⟨z,us,r,⟨_,md _ rfl,rfl,rfl,_,rfl⟩⟩
theorem qo0(h:PA X es t): PE X (.List es pos) (qr4 t):=by
 intro pins s σ H Q I hq;refine wpAny_List_spliced (thn (h pos pins s σ H _ I hq) fun us s1 ⟨xs,H1,I1,r,z,q⟩=>⟨by rw [<- r.length];exact z,?_⟩);have hf:H1 s1.heap.objs.size=none:=I1.hok.fresh (gw _);refine⟨.ref s1.heap.objs.size,upd H1 s1.heap.objs.size (.lst xs),I1.laid (t':=s1.toks) (fun b u e=>gb _ e) (gw _) ?_,rfl,q _ hf⟩;exact⟨z,us,0,r,md _ rfl⟩
end
abbrev Sp:=List V->Hp->VK->XK->Prop
abbrev CXT:=List Env->Hp->Shared->XK->Value->Shared->Prop
structure Env0(P:Program)(w:World)(K:PySem.W.Frag)(mg:Str->Option Value)(base:Heap)(A:Around)(outer:List Env)(s:Shared)(H:Hp): Prop where
 frames:A.frames=some outer
 mod:Mod K mg base
 bs:∀b o,base.get? b=some o->s.heap.get? b=some o/\H b=none
 bsz:base.objs.size<=s.heap.objs.size
 funs:s.heap.FunFrames base outer
 frf:∀b∈frs outer,H b=none
 hok:HOk P w H s.heap
 bare:AllBare s.gens
def CE(outer:List Env)(P:Program)(w:World)(H:Hp)(s:Shared)(Q:VK)(u:Value)(s':Shared): Prop:=
 ∃v H',s'.os=s.os/\AllBare s'.gens/\Un (frs outer) [] H H' s.heap s'.heap/\HOk P w H' s'.heap/\RelV v u/\Q v H'
def CR(CX:CXT)(outer:List Env)(P:Program)(w:World)(H:Hp)(s:Shared)(Q:VK)(E:XK)(r:Result)(s':Shared): Prop:=
 match r with
 | .ok (.ret u)=>CE outer P w H s Q u s'
 | .ok _=>False
 | .error e=>CX outer H s E e s'
structure FnOk(P:Program)(w:World)(K:PySem.W.Frag)(mg:Str->Option Value)(base:Heap)(CX:CXT)(k:Nat)(f:Addr)(fd:FuncData)(ps:List Str)(sp:Sp): Prop where
 len:∀vs H Q E,sp vs H Q E->vs.length=ps.length
 run:∀(A:Around) (outer:List Env) (s:Shared) (H:Hp) (args:Args) (us:List Value) (vs:List V) (Q:VK) (E:XK),Room k A->Env0 P w K mg base A outer s H->BindsTo s fd args (ps.zip us)->Vals vs us->sp vs H Q E ->
  codeAny (model P w) A (.call (.ref f) args) (CR CX outer P w H s Q E) s
theorem FnOk.imp{P:Program}{w:World}{K:PySem.W.Frag}{mg:Str->Option Value}{base:Heap}{CX:CXT}{k:Nat}{f:Addr}{fd:FuncData}{ps:List Str}{sp sp':Sp}(F:FnOk P w K mg base CX k f fd ps sp)
  (h:∀vs H Q E,sp' vs H Q E->sp vs H Q E):FnOk P w K mg base CX k f fd ps sp':=
 ⟨fun vs H Q E q=>F.len vs H Q E (h _ _ _ _ q),fun A outer s H args us vs Q E hr he hb hv hs=>F.run A outer s H args us vs Q E hr he hb hv (h _ _ _ _ hs)⟩
theorem Env0.make{P:Program}{w:World}{K:PySem.W.Frag}{mg:Str->Option Value}{base:Heap}{A:Around}{outer:List Env}{s:Shared}{H:Hp}(e:Env0 P w K mg base A outer s H)(C:Addr)(us:List Value)(kw:List (Str×Value)):
  Env0 P w K mg base (A.under (.builtin "type.__call__" ⟨.ref C :: us,kw⟩)) outer s H:=⟨by first|exact e.frames|(simpa [Around.under,Code.envs,Code.isFrame,pushEnvs] using e.frames),e.mod,e.bs,e.bsz,e.funs,e.frf,e.hok,e.bare⟩
section
variable{X:Cx}{pins:List (Addr×Obj)}{σ : St}{H:Hp}{s s':Shared}
theorem Inv.env0(I:Inv X pins σ H s): Env0 X.prog X.w X.K X.mg X.base X.A X.stack s H:=
 ⟨I.ok.frames,I.ok.mod,I.bs,mm I.ok.bsz I.sz,I.stack,I.stkFree,I.hok,I.bare⟩
theorem Inv.after{Q:VK}{u:Value}(I:Inv X pins σ H s)(h:CE X.stack X.prog X.w H s Q u s'): EP X pins σ Q u s':=by
 obtain⟨v,H',os,bare,un,hok,r,q⟩:=h;obtain⟨hh,g,d,t,os'⟩:=s';obtain rfl:os'=s.os:=os;exact⟨v,H',I.call (h':=hh) (g':=g) (d':=d) (t':=t) (ch:=[]) un hok bare (fun b z=>absurd z (by simp)),r,q⟩
end
def qq9(sp:Sp)(dvs:List V)(E:XK)(t:TA): TE:=fun σ H Q=>t σ H fun vs H1=>sp (vs++dvs) H1 Q E
def Binds(K:PySem.W.Frag)(fd:FuncData)(ps:List Str)(ds:List Value): Prop:=
 ∀(s:Shared) (us:List Value),K.In s.heap->(us++ds).length=ps.length->BindsTo s fd ⟨us,[]⟩ (ps.zip (us++ds))
def q80(CX:CXT)(X:Cx)(E:XK): Prop:=∀(pins:List (Addr×Obj)) (σ : St) (H:Hp) (s:Shared) (e:Value) (s':Shared),Inv X pins σ H s->CX X.stack H s E e s'->X.xe e s'
section
variable{X:Cx}{CX:CXT}{k:Nat}{f C:Addr}{fd:FuncData}{ps:List Str}{sp:Sp}{dvs:List V}{ds:List Value}{E:XK}{x m:Str}{p pos apos:Pos}{e o:Expr}{es:List Expr}{ta:TE}{t:TA}
theorem qo1{pins:List (Addr×Obj)}{σ : St}{H:Hp}{s:Shared}{Q:VK}{us:List Value}{vs:List V}(F:FnOk X.prog X.w X.K X.mg X.base CX k f fd ps sp)(hr:Room k X.A)(hb:Binds X.K fd ps ds)(hd:Vals dvs ds)(hx:q80 CX X E)
  (I:Inv X pins σ H s) (r:Vals vs us) (h:sp (vs++dvs) H Q E):wpAny (model X.prog X.w) X.A (call (.ref f) us) (EP X pins σ Q) X.xe s:=by
 have r2:Vals (vs++dvs) (us++ds):=r.append hd;have hl:(us++ds).length=ps.length:=by rw [<- r2.length];exact F.len _ _ _ _ h
 refine ud (tf (F.run X.A X.stack s H ⟨us,[]⟩ (us++ds) (vs++dvs) Q E hr I.env0 (hb s us I.kIn hl) r2 h) fun r s' hq=>?_);cases r with
 | error e=>exact hx pins σ H s e s' I hq
 | ok fl=>
  cases fl with
  | ret u=>exact I.after hq
  | next=>exact False.elim hq
  | brk=>exact False.elim hq
  | cont=>exact False.elim hq
theorem qe9(F:FnOk X.prog X.w X.K X.mg X.base CX k f fd ps sp)(hr:Room k X.A)(hg:Gl X x)(hm:X.mg x=some (.ref f))(hk:PySem.W.keepIn X.K (.ref f)=true)(hb:Binds X.K fd ps ds)(hd:Vals dvs ds)(hx:q80 CX X E)
  (ha:PA X (e :: es) t) (hdb:(x==("__debug__" : Str))=false:=by decide) (he:starEach (e :: es) X.env=(false,eval e X.env) :: starEach es X.env:=by rfl) (hpl:(backTo pos (starEach es X.env)).any (·.1)=false:=by rfl) :
  PE X (.Call (.Name x p) (e :: es) [] pos) (qq9 sp dvs E t):=by
 intro pins s σ H Q I h;refine t6 (wk I hg hm ?_ hdb);refine g09 (h₀:=X.base) I.ok.mod.kin hk (thn (ha pos pins s σ H _ I h) fun us s1 ⟨vs,H1,I1,r,q⟩=>⟨I1.kIn,?_⟩) he hpl;exact qo1 F hr hb hd hx I1 r q
end
section
variable{X:Cx}{CX:CXT}{k:Nat}{f C:Addr}{fd:FuncData}{ps ks:List Str}{sp:Sp}{E:XK}{x m:Str}{p pos apos kpos:Pos}{e o:Expr}{es:List Expr}{kws:List Keyword}{te ta:TE}{t tk:TA}{nm:Option Str}
variable{g:List Value->List Value->List Value}{gV:List V->List V->List V}
end
structure FnScope(N P:List Str)(sc:Scope): Prop where
 kind:sc.kind=.function
 co:sc.isCoroutine=false
 gen:sc.isGenerator=false
 nd:N.Nodup
 pre:N.take P.length=P
 par:∀x∈P,sc.names.lookup x=some .local\/sc.names.lookup x=some .cell
 nofree:∀y∈sc.names,y.2 ≠ .free
theorem qa0{kindOf:Str->Option NameKind}{x:Str}: ∀ {binds:List (Str×Value)} {m:Str->Option Value},(∀v,(x,v)∉binds)->bindL kindOf binds m x=m x
 | [],_,_=>rfl
 | (n,v) :: r,m,h=>by
  unfold bindL;rw [qa0 fun w hw=>h w (gi _ hw)]
  split
  ·have:x≠n:=by rintro rfl;exact h v gd
   simp [this]
  ·rfl
theorem qa1{kindOf:Str->Option NameKind}{x:Str}: ∀ {binds:List (Str×Value)} {m:Str->Option Value},(∀v,(x,v)∉binds)->bindC kindOf binds m x=m x
 | [],_,_=>rfl
 | (n,v) :: r,m,h=>by
  unfold bindC;rw [qa1 fun w hw=>h w (gi _ hw)]
  split
  ·rfl
  ·have:x≠n:=by rintro rfl;exact h v gd
   simp [this]
theorem qa2{kindOf:Str->Option NameKind}{x:Str}{v:Value}: ∀ {P:List Str} {vs:List Value} {i:Nat} {m:Str->Option Value},P.Nodup->P[i]? = some x->vs[i]? = some v->kindOf x=some .local ->
  bindL kindOf (P.zip vs) m x=some v
 | [],_,_,_,_,h,_,_=>by simp at h
 | _ :: _,[],_,_,_,_,h,_=>by simp at h
 | p :: P,w :: vs,0,m,nd,h1,h2,hk=>by
  simp at h1 h2;subst h1;subst h2;show bindL kindOf ((p,w) :: P.zip vs) m p=_;unfold bindL;rw [qa0 fun v hv=>(g1z.mp nd).1 (g0y hv).1,gy hk];simp
 | p :: P,w :: vs,i+1,m,nd,h1,h2,hk=>by
  show bindL kindOf ((p,w) :: P.zip vs) m x=_;unfold bindL;exact qa2 (i:=i) (g1z.mp nd).2 (by simpa using h1) (by simpa using h2) hk
theorem qa3{kindOf:Str->Option NameKind}{x:Str}{v:Value}: ∀ {P:List Str} {vs:List Value} {i:Nat} {m:Str->Option Value},P.Nodup->P[i]? = some x->vs[i]? = some v->kindOf x≠some .local ->
  bindC kindOf (P.zip vs) m x=some v
 | [],_,_,_,_,h,_,_=>by simp at h
 | _ :: _,[],_,_,_,_,h,_=>by simp at h
 | p :: P,w :: vs,0,m,nd,h1,h2,hk=>by
  simp at h1 h2;subst h1;subst h2;show bindC kindOf ((p,w) :: P.zip vs) m p=_;unfold bindC;rw [qa1 fun v hv=>(g1z.mp nd).1 (g0y hv).1,ma hk];simp
 | p :: P,w :: vs,i+1,m,nd,h1,h2,hk=>by
  show bindC kindOf ((p,w) :: P.zip vs) m x=_;unfold bindC;exact qa3 (i:=i) (g1z.mp nd).2 (by simpa using h1) (by simpa using h2) hk
def start(N:List Str)(vs:List V): St:=vs.map some++List.replicate (N.length-vs.length) none
def qv(CX:CXT)(P:Program)(w:World)(K:PySem.W.Frag)(mg:Str->Option Value)(base:Heap)(N:List Str)(qual:Str)(scope:Scope)(f:Addr)(cd:Value)(A:Around)(outer:List Env)(s:Shared)(H:Hp)(E:XK): Cx where
 prog:=P
 w:=w
 K:=K
 mg:=mg
 base:=base
 A:=A.deeper (envOfC qual scope s.heap.objs.size f cd)
 N:=N
 s₀:=s
 H₀:=H
 env:=envOfC qual scope s.heap.objs.size f cd
 outer:=outer
 stack:=envOfC qual scope s.heap.objs.size f cd :: outer
 ex:=[]
 calm:=true
 fn:=fun _=>true
 pn:=[]
 xe:=fun e s'=>wpAny (model P w) (A.deeper (envOfC qual scope s.heap.objs.size f cd)) (leaving (envOfC qual scope s.heap.objs.size f cd) e) (fun _ s''=>CX outer H s E e s'') (fun e' s''=>CX outer H s E e' s'') s'
theorem qbh{sc:Scope}{n:Nat}{x:Str}(h:sc.names.lookup x=some .cell): ∃c,(cellsFrom n sc.names []).lookup x=some c:=by
 have q:=g1j sc.names n [] (.inl h);exact uy.mp q
theorem qa4{CX:CXT}{P:Program}{w:World}{K:PySem.W.Frag}{mg:Str->Option Value}{base:Heap}{N ps:List Str}{qual:Str}{scope:Scope}{f:Addr}{cd:Value}{A:Around}{outer:List Env}{s s1:Shared}{H:Hp}{E:XK}{us:List Value}{vs:List V}
  (S:FnScope N ps scope) (hd:A.handled=none) (e0:Env0 P w K mg base A outer s H) (hl:vs.length=ps.length) (r:Vals vs us)
  (x:InCallC s s.heap.objs.size (bindL (envOfC qual scope s.heap.objs.size f cd).kindOf (ps.zip us) fun _=>none) (cellsFrom (s.heap.objs.size+1) scope.names []) (bindC (envOfC qual scope s.heap.objs.size f cd).kindOf (ps.zip us) fun _=>none) s1) :
  Inv (qv CX P w K mg base N qual scope f cd A outer s H E) [] (start N vs) H s1:=by
 have hpl:ps.length<=N.length:=by have:=n6 List.length S.pre;rw [mf] at this;omega
 obtain⟨h1,tk,rfl,hk⟩:=x.done;have noA:∀b:Addr,b∉(qv CX P w K mg base N qual scope f cd A outer s H E).ex:=fun b z=>absurd (show b∈([]:List Addr) from z) (by simp);refine⟨⟨e0.mod,S.kind,rfl,rfl,gw _,fun y z c h1 h2=>?_,fun y hy=>?_,fun y c _ h=>?_,fun _=>hd,Around.frames_deeper e0.frames,.inr ⟨rfl,rfl⟩,fun b z=>absurd z (noA b),e0.bs,e0.bsz,fun b _ _=>noA b,fun b z=>absurd z (noA b),e0.funs,e0.frf⟩,
  rfl,e0.bare,Un.kept hk,⟨_,x.toInCall.ns,fun i y v h1 h2 h3=>?_⟩,fun y c h=>⟨_,x.cell y c h⟩,e0.hok.fresh (gw _),fun y c h=>?_,fun p hp=>absurd (show p∈([]:List (Addr×Obj)) from hp) (by simp),e0.hok.kept hk,?_⟩
 ·exact name_of_addr x.apart (g04 h1) (g04 h2)
 ·have hy:scope.names.lookup y=some .cell\/scope.names.lookup y=some .free:=hy
  rcases hy with hy|hy
  ·exact qbh hy
  ·exact absurd rfl (S.nofree _ (g04 hy))
 ·exact g13 (x.above y c (g04 h))
 ·have hi:i<vs.length:=by
   unfold start at h2
   by_cases hi:i<vs.length
   ·exact hi
   ·rw [nq (by simpa using hi)] at h2
    rw [pb] at h2
    split at h2 <;> cases h2
  have ha:vs[i]? = some v:=by
   unfold start at h2;rw [nh (by simpa using hi),gz] at h2;cases e:vs[i]? with
   | none=>rw [e] at h2;cases h2
   | some a=>rw [e] at h2;cases h2;rfl
  obtain⟨u,hu,rv⟩:=r.get ha;have hp:ps[i]? = some y:=by
   rw [<- S.pre,g2n (by omega)];exact h1
  have ndP:ps.Nodup:=by rw [<- S.pre];exact S.nd.sublist (List.take_sublist _ _)
  refine⟨u,rv,?_⟩;rcases S.par y (List.mem_of_getElem? hp) with k|k
  ·exact .inl ⟨k,qa2 ndP hp hu k⟩
  ·obtain⟨c,e⟩:=qbh (n:=s.heap.objs.size+1) k
   refine .inr ⟨.inl k,c,e,?_⟩;have q:=x.cell y c e;rw [qa3 ndP hp hu (by show scope.names.lookup y≠_;rw [k];decide)] at q;exact q
 ·exact e0.hok.fresh (g13 (x.above y c (g04 h)))
 ·unfold start
  show _=N.length;rw [gc,g7,g1t];omega
theorem qfo{CX:CXT}{P:Program}{w:World}{K:PySem.W.Frag}{mg:Str->Option Value}{base:Heap}{k:Nat}{f:Addr}{name qual:Str}{params:Arguments}{body:List Stmt}{scope:Scope}{dV kV doc pm cdv ct oc:Value}{an od:Option Addr}
  {osl:Array (Option Value)} {N ps:List Str} {sp:Sp} (lk:K.lookup f=some ⟨oc,od,.func (PySem.W.fnOf name qual params body scope dV kV doc pm an cdv ct),osl⟩) (hcd:PySem.W.codeIn K cdv qual=true) (S:FnScope N ps scope)
  (len:∀vs H Q E,sp vs H Q E->vs.length=ps.length)
  (hbody:∀(A:Around) (outer:List Env) (s:Shared) (H:Hp) (vs:List V) (Q:VK) (E:XK),Room k (A.deeper (envOfC qual scope s.heap.objs.size f cdv))->sp vs H Q E ->
   ∃t,PSs (qv CX P w K mg base N qual scope f cdv A outer s H E) body t/\t {nx:=fun _ H'=>Q .non H',rt:=Q} (start N vs) H) :
  FnOk P w K mg base CX (k+1) f (PySem.W.fnOf name qual params body scope dV kV doc pm an cdv ct) ps sp:=by
 refine⟨len,fun A outer s H args us vs Q E hr e0 hb r hsp=>?_⟩;have hl:=len _ _ _ _ hsp;have KX:K.In s.heap:=e0.mod.kin.keeps fun b o e=>(e0.bs b o e).1;have lim:s.heap.NoLimit:=e0.mod.nolimit.keeps fun b o e=>(e0.bs b o e).1;have hkind:∀y∈ps.zip us,scope.names.lookup y.1=some .local\/(scope.names.lookup y.1=some .cell/\((cellsFrom (s.heap.objs.size+1) scope.names []).lookup y.1).isSome=true):=fun⟨n,v⟩ hy=>by
  rcases S.par n (g0y hy).1 with q|q
  ·exact .inl q
  ·exact .inr ⟨q,g1j _ _ _ (.inl q)⟩
 refine codeAny_call_function hr.depth (KX _ _ lk) rfl S.co S.gen rfl (PySem.W.codeRec_of KX hcd) (hb _ _ _ _ ?_);refine wpAny_newFunctionEnv_cells S.kind hkind fun env he s1 x=>?_;subst he;refine⟨lim.keeps x.toInCall.keep,codeAny_func ?_⟩;obtain⟨t,ht,hq⟩:=hbody A outer s H vs Q E (hr.deeper _) hsp;have I:Inv (qv CX P w K mg base N qual scope f cdv A outer s H E) [] (start N vs) H s1:=qa4 S hr.hd e0 hl r x;refine me (ht [] s1 (start N vs) H _ I hq) (fun fl s' hs=>?_) fun e s' hs=>hs;have fin:∀ {σ':St} {H':Hp} {v:V} {u:Value},Inv (qv CX P w K mg base N qual scope f cdv A outer s H E) [] σ' H' s'->RelV v u->Q v H'->CE outer P w H s Q u s':=
  fun {σ' H' v u} J rv q=>⟨v,H',J.os,J.bare,J.base,J.hok,rv,q⟩
 cases fl with
 | ret u=>
  obtain⟨v, σ',H',J,rv,q⟩:=hs;exact fin J rv q
 | next=>
  obtain⟨σ',H',J,q⟩:=hs;exact fin (v:=V.non) (u:=Value.none) J rfl q
 | brk=>
  obtain⟨_,_,_,q⟩:=hs;exact False.elim q
 | cont=>
  obtain⟨_,_,_,q⟩:=hs;exact False.elim q
section
variable{X:Cx}{x:Str}{p pos:Pos}{e:Expr}{es:List Expr}{t:TA}{id T:String}{r:List V->Hp->VK->Prop}
def tCB(r:List V->Hp->VK->Prop)(t:TA): TE:=fun σ H Q=>t σ H fun vs H1=>r vs H1 Q
theorem q0e(hc:ji X (.builtin id) r)(hg:Gl X x)(hm:X.mg x=none)(hv:bootBuiltins x=some (.builtin id))(ha:PA X (e :: es) t)(hn:x≠"__name__" :=by decide)(hdb:(x==("__debug__" : Str))=false:=by decide)
  (he:starEach (e :: es) X.env=(false,eval e X.env) :: starEach es X.env:=by rfl) (hpl:(backTo pos (starEach es X.env)).any (·.1)=false:=by rfl):PE X (.Call (.Name x p) (e :: es) [] pos) (tCB r t):=by
 intro pins s σ H Q I h;refine t6 (q5a I hg hm hv ?_ hn hdb);exact g20 (thn (ha pos pins s σ H _ I h) fun us s1 ⟨vs,H1,I1,r1,q1⟩=>hc pins s1 σ H1 vs us Q I1 r1 q1) he hpl
theorem qa5(hc:ji X (.type T) r)(hg:Gl X x)(hm:X.mg x=none)(hv:bootBuiltins x=some (.type T))(ha:PA X (e :: es) t)(hn:x≠"__name__" :=by decide)(hdb:(x==("__debug__" : Str))=false:=by decide)
  (he:starEach (e :: es) X.env=(false,eval e X.env) :: starEach es X.env:=by rfl) (hpl:(backTo pos (starEach es X.env)).any (·.1)=false:=by rfl):PE X (.Call (.Name x p) (e :: es) [] pos) (tCB r t):=by
 intro pins s σ H Q I h;refine t6 (q5a I hg hm hv ?_ hn hdb);exact g0m (thn (ha pos pins s σ H _ I h) fun us s1 ⟨vs,H1,I1,r1,q1⟩=>hc pins s1 σ H1 vs us Q I1 r1 q1) he hpl
end
end L2
namespace HT
open PySem PyProof.Rows
section
open PySem.SeqAt
open PySem.AutoSeq1 (wpAny_loadPart')
open PySem.MeetsSeq PySem.MeetsSeq2 PySem.MeetsSeq3
end
section
variable{prog:Program}{w:World}{A:Around}{E:Value->Shared->Prop}{s:Shared}
theorem cat_tup{t b:Addr}{vs ws:List Value}{Q:Value->Shared->Prop}(ht:IsTup s.heap t vs.toArray)(hb:IsTup s.heap b ws.toArray)(hv:vs≠[])
  (h1:ws=[]->Q (.ref t) s) (h2:ws≠[]->Q (.ref s.heap.objs.size) {s with heap:=s.heap.push {cls:=.type "tuple",data:=.seq (vs++ws).toArray} })
  (hsz:vs.length+ws.length<=sizeLine):wpAny (model prog w) A (binaryOp .Add (.ref t) (.ref b)) Q E s:=by
 obtain⟨⟨cls,dd,data,sl⟩,ho,hc,n,hd⟩:=id ht;obtain⟨⟨cls2,dd2,data2,sl2⟩,ho2,hc2,n2,hd2⟩:=id hb;simp only at hc hd hc2 hd2;subst hc hd hc2 hd2;have e:vs.toArray++ws.toArray=(vs++ws).toArray:=by simp
 by_cases hw:ws=[]
 ·exact g2o ⟨_,ho,rfl⟩ ⟨_,ho2,rfl⟩ g2p seq_tuple_add g1k g1b (g15 _ _)
   (tuple_addW1 t b vs.toArray ws.toArray n n2 dd dd2 sl sl2 (by simpa using hv) (by simp [hw])) ⟨ho,ho2,h1 hw⟩
 ·refine g2o ⟨_,ho,rfl⟩ ⟨_,ho2,rfl⟩ g2p seq_tuple_add g1k g1b (g15 _ _)
   (tuple_addW2 t b vs.toArray ws.toArray n n2 dd dd2 sl sl2 (by simpa using hv) (by simpa using hw) (by rw [gh,gh];exact hsz)) ⟨ho,ho2,?_⟩
  rw [e];exact h2 hw
def sIx(n d:Nat): Option Int->Nat
 | none=>d
 | some v=>if v<0 then(v+(n:Int)).toNat else min v.toNat n
theorem sIx_none(n d:Nat): sIx n d none=d:=rfl
theorem sIx_nat(n d k:Nat): sIx n d (some (k:Int))=min k n:=by
 show(if(k:Int)<0 then((k:Int)+(n:Int)).toNat else min (k:Int).toNat n)=min k n;rw [ma (by omega),g2f]
theorem qo2(n d:Nat)(hd:d<=n)(o:Option Int): sIx n d o<=n:=by
 cases o with
 | none=>exact hd
 | some v=>
  show(if v<0 then(v+(n:Int)).toNat else min v.toNat n)<=n
  by_cases hv:v<0
  ·rw [gy hv];omega
  ·rw [ma hv];exact Nat.min_le_right _ _
theorem qea(v:Int)(n d:Nat): (if v<0 then max (v+(n:Int)) 0 else min v (n:Int))=((sIx n d (some v):Nat):Int):=by
 show(if v<0 then max (v+(n:Int)) 0 else min v (n:Int))=(((if v<0 then(v+(n:Int)).toNat else min v.toNat n):Nat):Int)
 by_cases hv:v<0
 ·simp only [gy hv];omega
 ·simp only [ma hv];omega
theorem qfp(lo hi:Option Int)(n:Nat): Builtin.Slice.sliceAdjust lo hi 1 (n:Int)=(((sIx n 0 lo:Nat):Int),((sIx n n hi:Nat):Int)):=by
 have h1:¬((1:Int)<0):=by omega
 unfold Builtin.Slice.sliceAdjust;simp only [h1,ua];refine Prod.ext ?_ ?_
 ·cases lo with
  | none=>rfl
  | some v=>exact qea v n 0
 ·cases hi with
  | none=>rfl
  | some v=>exact qea v n n
theorem qfq(i j:Nat): Builtin.Slice.slicePlaces (i:Int) (j:Int) 1=j-i:=by
 unfold Builtin.Slice.slicePlaces;have h1:(1:Int)>0:=by omega
 simp only [h1,pd,Int.ediv_one]
 split <;> omega
theorem q81{v:Value}{o:Option Int}{Q:Option Int->Shared->Prop}(p:IsPart v o)(h:Q o s): wpAny (model prog w) A (Builtin.Slice.slicePartIndex v) Q E s:=by
 cases p with
 | none=>exact slicePart_none h
 | int i t=>exact slicePart_int h
theorem sliceApplied_gen{sl:Addr}{vl vu:Value}{lo hi:Option Int}{n:Nat}{Q:Int×Int×Nat->Shared->Prop}(hs:s.heap.IsSliceOf sl vl vu .none)(pl:IsPart vl lo)(pu:IsPart vu hi)
  (h:Q (((sIx n 0 lo:Nat):Int),1,sIx n n hi-sIx n 0 lo) s):wpAny (model prog w) A (Builtin.Slice.sliceApplied (.ref sl) (pure (n:Int))) Q E s:=by
 obtain⟨os,hos,hcs,hds⟩:=id hs;unfold Builtin.Slice.sliceApplied Builtin.Slice.sliceFields;refine g8 (g8 (td hos hds (x:=vl) rfl (g8 (td hos hds (x:=vu) rfl (g8 (td hos hds (x:=.none) rfl (gf ?_)))))));refine g8 (slicePart_none ?_);show wpAny _ _ (if((1:Int)==0)=true then _ else _) _ _ s;rw [ma (by decide)];refine g8 (q81 pl (g8 (q81 pu (g8 (gf ?_)))));show wpAny _ _ (match Builtin.Slice.sliceAdjust lo hi 1 (n:Int) with|(lo,hi)=>pure (lo,(1:Int),Builtin.Slice.slicePlaces lo hi 1)) _ _ s;rw [qfp lo hi n];show wpAny _ _ (pure (((sIx n 0 lo:Nat):Int),(1:Int),Builtin.Slice.slicePlaces ((sIx n 0 lo:Nat):Int) ((sIx n n hi:Nat):Int) 1)) _ _ s;rw [qfq];exact gf h
theorem qjb(xs:Array Value)(i k:Nat): ((List.range k).filterMap fun(m:Nat)=>xs[((i:Int)+(m:Int)*1).toNat]?).toArray=((xs.toList.drop i).take k).toArray:=by
 have e:(fun(m:Nat)=>xs[((i:Int)+(m:Int)*1).toNat]?)=fun m=>xs[i+m]? :=by
  funext m
  have:((i:Int)+(m:Int)*1).toNat=i+m:=by omega
  rw [this]
 rw [e];have:=pick_run xs i k;rw [List.filterMap_map] at this;have e2:((fun x=>xs[x]?) ∘ fun x=>i+x)=fun m=>xs[i+m]? :=rfl;rw [e2] at this;rw [this]
theorem getItem_tuple_cut{t sl:Addr}{items:Array Value}{vl vu:Value}{lo hi:Option Int}{Q:Value->Shared->Prop}(ht:IsTup s.heap t items)(hs:s.heap.IsSliceOf sl vl vu .none)(pl:IsPart vl lo)(pu:IsPart vu hi)
  (hw:¬(sIx items.size 0 lo=0/\sIx items.size items.size hi=items.size))
  (h:Q (.ref s.heap.objs.size) {s with heap:=s.heap.push {cls:=.type "tuple",data:=.seq ((items.toList.drop (sIx items.size 0 lo)).take (sIx items.size items.size hi-sIx items.size 0 lo)).toArray} })
  (hsz:items.size<=sizeLine):wpAny (model prog w) A (getItem (.ref t) (.ref sl)) Q E s:=by
 have htake:sizeOk (.seq ((items.toList.drop (sIx items.size 0 lo)).take (sIx items.size items.size hi-sIx items.size 0 lo)).toArray):=by
  show((items.toList.drop (sIx items.size 0 lo)).take (sIx items.size items.size hi-sIx items.size 0 lo)).toArray.size<=sizeLine;rw [gh,mf,ni,g0v];omega
 have hj:sIx items.size items.size hi<=items.size:=qo2 _ _ (gw _) hi;obtain⟨os,hos,hcs,hds⟩:=id hs;have hTs:s.TypeIs (.ref sl) "slice" :=⟨os,hos,hcs⟩
 unfold getItem
 try with_reducible refine t4 ?_
 first|refine g8 (gf ?_)|skip
 refine g8 (wpAny_sequenceKey ht.typeIs (by decide) ?_);refine g8 (wpAny_callSpecial?_slot (name:=Str.ofString "__getitem__") ht.typeIs nk
  (wpAny_call_entry nk ht.typeIs entry_tuple_getitem ?_ (args_tuple_getitem _ _)))
 show wpAny _ _ (Builtin.Tuple.tupleItemsOf (.ref t) >>= _) _ _ s;refine g8 (tupleItemsOf_ ht ?_);refine g8 (g21 hTs ?_);rw [gy (by decide)];refine g8 (sliceApplied_gen hs pl pu ?_);have hno:¬((((sIx items.size 0 lo:Nat):Int)==0&&(1:Int)==1&&(sIx items.size items.size hi-sIx items.size 0 lo)==items.size)=true):=by
  intro q;rw [gu,gu] at q;have q1:((sIx items.size 0 lo:Nat):Int)=0:=eq_of_beq q.1.1;have q2:sIx items.size items.size hi-sIx items.size 0 lo=items.size:=eq_of_beq q.2;exact hw ⟨by omega,by omega⟩
 show wpAny _ _ (if(((sIx items.size 0 lo:Nat):Int)==0&&(1:Int)==1&&(sIx items.size items.size hi-sIx items.size 0 lo)==items.size)=true then _ else _) _ _ s;rw [ma hno,qjb]
 first
  | exact g8 (m:=Builtin.Tuple.tupleExact _) (pj (gf ⟨_,rfl,gf h⟩) htake)
  | exact g8 (m:=Builtin.Tuple.tupleExact _) (pj (g8 (gf (gf ⟨_,rfl,gf h⟩))) htake)
  | exact g8 (g8 (m:=Builtin.Tuple.tupleExact _) (pj (gf (gf ⟨_,rfl,gf h⟩)) htake))
  | exact g8 (g8 (m:=Builtin.Tuple.tupleExact _) (pj (gf ⟨_,rfl,gf h⟩) htake))
end
end HT
namespace L2
open PySem PySem.Spec PyProof.Rows
abbrev TO:=St->Hp->(Option Int->Hp->Prop)->Prop
def PO(X:Cx)(e:Option Expr)(t:TO): Prop:=
 ∀(pins:List (Addr×Obj)) (s:Shared) (σ : St) (H:Hp) (Q:Option Int->Hp->Prop),Inv X pins σ H s->t σ H Q ->
  wpAny (model X.prog X.w) X.A (evalPart e X.env) (fun u s'=>∃o H',Inv X pins σ H' s'/\IsPart u o/\Q o H') X.xe s
def tNoPart:TO:=fun _ H Q=>Q none H
def qqa(t:TE): TO:=fun σ H Q=>t σ H fun x H1=>∃i,x=.int i/\Q (some i) H1
theorem intsAre_of{ns:List Int}: ∀ {us:List Value},Vals (ns.map V.int) us->IntsAre us ns:=by
 induction ns with
 | nil=>intro us r;rw [g0h] at r;cases r;exact .nil
 | cons n ns ih=>
  intro us r;rw [m7] at r;cases r with
  | cons r1 r2=>
   obtain⟨t,e⟩:=r1;subst e;exact .cons n t (ih r2)
section
variable{X:Cx}{e:Expr}{te:TE}{lo hi:Option Expr}{tl th:TO}{pos p2:Pos}
theorem qls:PO X none tNoPart:=by
 intro pins s σ H Q I h;rw [evalPart_none];exact gf ⟨none,H,I,.none,h⟩
theorem qlt(h:PE X e te): PO X (some e) (qqa te):=by
 intro pins s σ H Q I hw;rw [evalPart_some];refine thn (h pins s σ H _ I hw) fun u s1 ⟨x,H1,I1,r1,q1⟩=>?_;obtain⟨i,rfl,q⟩:=q1;obtain⟨t,rfl⟩:=r1;exact⟨some i,H1,I1,.int i t,q⟩
def SlR(X:Cx)(r:V->Option Int->Option Int->Hp->VK->Prop): Prop:=
 ∀(pins:List (Addr×Obj)) (s:Shared) (σ : St) (H:Hp) (x:V) (v vl vu:Value) (lo hi:Option Int) (sl:Addr) (Q:VK),Inv X pins σ H s->RelV x v->s.heap.IsSliceOf sl vl vu .none->IsPart vl lo->IsPart vu hi->r x lo hi H Q ->
  ∃T id,typeLookup (.type T) "__getitem__" = pure (some (.builtin id))/\s.TypeIs v T/\wpAny (model X.prog X.w) X.A (getItem v (.ref sl)) (EP X pins σ Q) X.xe s
theorem SlR.or{r r':V->Option Int->Option Int->Hp->VK->Prop}(h:SlR X r)(h':SlR X r'): SlR X (fun x lo hi H Q=>r x lo hi H Q\/r' x lo hi H Q):=by
 intro pins s σ H x v vl vu lo hi sl Q I rx hs pl pu q;rcases q with q|q
 ·exact h pins s σ H x v vl vu lo hi sl Q I rx hs pl pu q
 ·exact h' pins s σ H x v vl vu lo hi sl Q I rx hs pl pu q
def tSl(r:V->Option Int->Option Int->Hp->VK->Prop)(te:TE)(tl th:TO): TE:=fun σ H Q=>te σ H fun x H1=>tl σ H1 fun l H2=>th σ H2 fun u H3=>r x l u H3 Q
theorem qbi{r:V->Option Int->Option Int->Hp->VK->Prop}(hr:SlR X r)(he:PE X e te)(hl:PO X lo tl)(hu:PO X hi th): PE X (.Subscript e (.Slice lo hi none p2) pos) (tSl r te tl th):=by
 intro pins s σ H Q I h;refine Subscript_ (thn (he pins s σ H _ I h) fun v s1 ⟨x,H1,I1,r1,q1⟩=>?_);refine wpAny_Slice (thn (hl pins s1 σ H1 _ I1 q1) fun vl s2 ⟨l,H2,I2,pl,q2⟩=>thn (hu pins s2 σ H2 _ I2 q2) fun vu s3 ⟨u,H3,I3,pu,q3⟩=>?_);rw [evalPart_none];refine gf ?_;have I4:Inv X pins σ H3 {s3 with heap:=s3.heap.push {cls:=.type "slice",data:=.fields #[vl,vu,.none]} }:=I3.kept (t':=s3.toks) fun b ob q=>gb _ q;obtain⟨T,id,hT,ht,hg⟩:=hr pins {s3 with heap:=s3.heap.push {cls:=.type "slice",data:=.fields #[vl,vu,.none]} } σ H3 x v vl vu l u s3.heap.objs.size Q I4 r1 (Heap.IsSliceOf.new ..) pl pu q3;show wpAny (model X.prog X.w) X.A (subscriptTail e (.Slice lo hi none p2) v (.ref s3.heap.objs.size)) (EP X pins σ Q) X.xe {s3 with heap:=s3.heap.push {cls:=.type "slice",data:=.fields #[vl,vu,.none]} };exact tail_any (ops:=[.ref s3.heap.objs.size,v]) ht hT hg (by with_unfolding_all rfl)
def q25(xs:List V)(lo hi:Option Int): List V:=(xs.drop (HT.sIx xs.length 0 lo)).take (HT.sIx xs.length xs.length hi-HT.sIx xs.length 0 lo)
theorem q6y(xs:List V)(lo hi:Option Int): (q25 xs lo hi).length<=xs.length:=by
 unfold q25;rw [mf,ni];omega
def qr5(K:PySem.W.Frag): V->Option Int->Option Int->Hp->VK->Prop:=fun x lo hi H Q=>∃a xs,x=.ref a/\SqT K H a xs /\
 ¬(HT.sIx xs.length 0 lo=0/\HT.sIx xs.length xs.length hi=xs.length)/\∀p,H p=none->Q (.ref p) (upd H p (.tup (q25 xs lo hi)))
theorem sl_tup:SlR X (qr5 X.K):=by
 intro pins s σ H x v vl vu lo hi sl Q I rx hs pl pu h;obtain⟨a,xs,rfl,hx,hw,q⟩:=h;cases rx;obtain⟨its,r,ht,hz⟩:=I.tuple hx;have hlen:its.toArray.size=xs.length:=by rw [gh];exact r.length.symm
 refine⟨"tuple",_,nk.lookup,ht.typeIs,?_⟩;refine HT.getItem_tuple_cut ht hs pl pu (by rw [hlen];exact hw) ?_ (by rw [hlen];exact hz);rw [hlen];refine⟨.ref s.heap.objs.size,_,I.laid (t':=s.toks) (o:=.tup (q25 xs lo hi)) (fun b ob q=>gb _ q) (gw _) ?_,rfl,q _ (I.hok.fresh (gw _))⟩;exact⟨mm (q6y xs lo hi) hz,_,(r.drop (HT.sIx xs.length 0 lo)).take (HT.sIx xs.length xs.length hi-HT.sIx xs.length 0 lo),TupX.new _ _⟩
def qqb(K:PySem.W.Frag): R2:=fun x y H Q=>∃a b xs ys,x=.ref a/\y=.ref b/\SqT K H a xs/\SqT K H b ys/\xs≠[]/\xs.length+ys.length<=sizeLine /\
 (ys=[]->Q (.ref a) H)/\(ys≠[]->∀p,H p=none->Q (.ref p) (upd H p (.tup (xs++ys))))
theorem Vals.nil_iff{xs:List V}{us:List Value}(r:Vals xs us): us=[]↔xs=[]:=by
 cases r with
 | nil=>simp
 | cons _ _=>simp
theorem qlu:OpR X (binaryOp .Add) (qqb X.K):=by
 intro pins s σ H x y v u Q I rx ry h;obtain⟨a,b,xs,ys,rfl,rfl,ha,hb,hx,hz,q1,q2⟩:=h;cases rx;cases ry;obtain⟨its,r1,p1,_⟩:=I.tuple ha;obtain⟨its2,r2,p2,_⟩:=I.tuple hb;refine HT.cat_tup p1 p2 (fun z=>hx (r1.nil_iff.mp z)) (fun z=>⟨.ref a,H,I,rfl,q1 (r2.nil_iff.mp z)⟩) (fun z=>?_) (by rw [<- r1.length, <- r2.length];exact hz);refine⟨.ref s.heap.objs.size,_,I.laid (t':=s.toks) (o:=.tup (xs++ys)) (fun b ob q=>gb _ q) (gw _) ?_,rfl,q2 (fun w=>z (r2.nil_iff.mpr w)) _ (I.hok.fresh (gw _))⟩;exact⟨by rw [gc];exact hz,_,r1.append r2,TupX.new _ _⟩
end
def ixN(n:Nat)(i:Int): Option Nat:=if 0<=i then(if i<n then some i.toNat else none) else if -(n:Int)<=i then some (i+n).toNat else none
def atI{α : Type}(xs:List α)(i:Int): Option α :=(ixN xs.length i).bind fun j=>xs[j]?
theorem qlv{n:Nat}{i:Int}{j:Nat}(h:ixN n i=some j): seqIndex? i n=some j/\j<n /\ -(n:Int)<=i/\i<n:=by
 unfold ixN at h
 by_cases h0:0<=i
 ·rw [gy h0] at h
  by_cases h1:i<n
  ·rw [gy h1] at h
   have e:i.toNat=j:=n3 h;exact⟨by rw [seqIndex_of h0 h1,e],by omega,by omega,h1⟩
  ·rw [ma h1] at h;cases h
 ·rw [ma h0] at h
  by_cases h1 : -(n:Int)<=i
  ·rw [gy h1] at h
   have e:(i+n).toNat=j:=n3 h;exact⟨by rw [seqIndex_neg (by omega) h1,e],by omega,h1,by omega⟩
  ·rw [ma h1] at h;cases h
theorem q94{α : Type}{xs:List α}{i:Int}{v : α}(h:atI xs i=some v): ∃j,seqIndex? i xs.length=some j/\xs[j]? = some v/\j<xs.length /\ -(xs.length:Int)<=i/\i<xs.length:=by
 unfold atI at h;cases e:ixN xs.length i with
 | none=>rw [e] at h;cases h
 | some j=>
  rw [e] at h;obtain⟨h1,h2,h3,h4⟩:=qlv e;exact⟨j,h1,h,h2,h3,h4⟩
def q6d(b:Expr): Prop:=∀o i,subscripted b false o i=operate [o,i] (getItem o i)
def IxR(X:Cx)(r:R2): Prop:=
 ∀(value slice:Expr) (pins:List (Addr×Obj)) (s:Shared) (σ : St) (H:Hp) (x y:V) (v u:Value) (Q:VK),Inv X pins σ H s->RelV x v->RelV y u->r x y H Q ->
  subscripted slice false v u=operate [v,u] (getItem v u)->wpAny (model X.prog X.w) X.A (subscriptTail value slice v u) (EP X pins σ Q) X.xe s
def MtR(X:Cx)(id:String)(r:V->List V->Hp->VK->Prop): Prop:=
 ∀(pins:List (Addr×Obj)) (s:Shared) (σ : St) (H:Hp) (x:V) (xs:List V) (v:Value) (us:List Value) (Q:VK),Inv X pins σ H s->RelV x v->Vals xs us->r x xs H Q ->
  wpAny (model X.prog X.w) X.A (call (.builtin id) (v :: us)) (EP X pins σ Q) X.xe s
section
variable{X:Cx}{a b:Expr}{ta tb:TE}{pos:Pos}
theorem IxR.or{r r':R2}(h:IxR X r)(h':IxR X r'): IxR X (fun x y H Q=>r x y H Q\/r' x y H Q):=by
 intro value slice pins s σ H x y v u Q I rx ry q hs;rcases q with q|q
 ·exact h value slice pins s σ H x y v u Q I rx ry q hs
 ·exact h' value slice pins s σ H x y v u Q I rx ry q hs
theorem qfr{r:R2}(hr:IxR X r)(ha:PE X a ta)(hb:PE X b tb)(hs:q6d b): PE X (.Subscript a b pos) (tOp r ta tb):=by
 intro pins s σ H Q I h;exact Subscript_ (qj6 ha hb I h fun v u s2 x y H2 I2 rx ry q=>hr a b pins s2 σ H2 x y v u Q I2 rx ry q (hs _ _))
def qo3(K:PySem.W.Frag): R2:=fun x y H Q=>∃p xs i v,x=.ref p/\y=.int i/\SqL K H p xs/\atI xs i=some v/\Q v H
def qo4(K:PySem.W.Frag): R2:=fun x y H Q=>∃p xs i v,x=.ref p/\y=.int i/\SqT K H p xs/\atI xs i=some v/\Q v H
def rIxS:R2:=fun x y H Q=>∃z i c,x=.str z/\y=.int i/\z.length<=sizeLine/\atI z.cps.toList i=some c/\Q (.str ⟨#[c]⟩) H
theorem ix_list:IxR X (qo3 X.K):=by
 intro value slice pins s σ H x y v u Q I rx ry h hs;obtain⟨p,xs,i,z,rfl,rfl,hq,he,q⟩:=h;cases rx;obtain⟨t,rfl⟩:=ry;obtain⟨its,r,pl,hz⟩:=I.list hq;obtain⟨j,h1,h2,h3,h4,h5⟩:=q94 he;obtain⟨w,ew,rw'⟩:=r.get h2;have hl:=r.length;have hn:=q5b;have fin:EP X pins σ Q w s:=⟨z,H,I,rw',q⟩
 by_cases h0:0<=i
 ·have hj:i.toNat=j:=by
   rw [seqIndex_of h0 h5] at h1;exact n3 h1
  exact item_listR pl.isList h0 (by omega) (by rw [hj];simpa using ew) fin hs
 ·have hj:(i+(its.toArray.size:Int)).toNat=j:=by
   rw [seqIndex_neg (by omega) h4] at h1;rw [gh, <- hl];exact n3 h1
  exact subscriptTail_builtinR (x:=w) pl.isList.typeIs slot_list_getitem.lookup
   (wpAny_getItem_list_neg (Q:=fun r s'=>r=w/\EP X pins σ Q r s') pl.isList (by omega) (by rw [gh] <;> omega) (by omega) (by rw [hj];simpa using ew) ⟨rfl,fin⟩) hs
theorem ix_tup:IxR X (qo4 X.K):=by
 intro value slice pins s σ H x y v u Q I rx ry h hs;obtain⟨p,xs,i,z,rfl,rfl,hq,he,q⟩:=h;cases rx;obtain⟨t,rfl⟩:=ry;obtain⟨its,r,pl,hz⟩:=I.tuple hq;obtain⟨j,h1,h2,h3,h4,h5⟩:=q94 he;obtain⟨w,ew,rw'⟩:=r.get h2;have hl:=r.length;have hn:=q5b;have fin:EP X pins σ Q w s:=⟨z,H,I,rw',q⟩
 exact subscriptTail_builtinR (x:=w) pl.typeIs slot_tuple_getitem.lookup
  (getItem_tuple (j:=j) (Q:=fun r s'=>r=w/\EP X pins σ Q r s') pl (by omega) (by omega) (by rw [gh, <- hl];exact h1) (by simpa using ew) ⟨rfl,fin⟩) hs
theorem qhh:IxR X rIxS:=by
 intro value slice pins s σ H x y v u Q I rx ry h hs;obtain⟨z,i,c,rfl,rfl,hz,he,q⟩:=h;obtain⟨t,rfl⟩:=rx;obtain⟨t',rfl⟩:=ry;obtain⟨j,h1,h2,h3,h4,h5⟩:=q94 he;have hl:z.cps.toList.length=z.length:=by simp [Str.length]
 rw [hl] at h1 h4 h5;have hn:=q5b;exact tail_any (g22 s z t) slot_str_getitem.lookup (getItem_str (c:=c) (by
  have e1:decide (i < -(2 ^ 63:Int))=false:=gq (by omega);have e2:decide (i>=2 ^ 63)=false:=gq (by omega);rw [e1,e2,Bool.or_false]) (by rw [h1];simpa using h2) ⟨.str ⟨#[c]⟩,H,I.tok _,⟨_,rfl⟩,q⟩) hs
def rIx(K:PySem.W.Frag): R2:=fun x y H Q=>qo3 K x y H Q\/qo4 K x y H Q\/rIxS x y H Q
theorem qo5:IxR X (rIx X.K):=ix_list.or (ix_tup.or qhh)
def ql5:V->V->V->Hp->(Hp->Prop)->Prop:=fun o i v H Q=>∃p xs k j,o=.ref p/\i=.int k/\H p=some (.lst xs)/\ixN xs.length k=some j/\Q (upd H p (.lst (xs.set j v)))
theorem qbj(lo hi:Option Int)(n:Nat): (sliceBounds lo hi none n).1=((HT.sIx n 0 lo:Nat):Int)/\(sliceBounds lo hi none n).2.1=((HT.sIx n n hi:Nat):Int)/\(sliceBounds lo hi none n).2.2=1:=by
 refine⟨?_,?_,rfl⟩
 ·cases lo with
  | none=>simp [sliceBounds,HT.sIx]
  | some i=>
   simp only [sliceBounds,HT.sIx,Option.getD_none,show(1:Int)>0 by decide,pd]
   by_cases h:i<0
   ·simp only [h,pd] <;> omega
   ·simp only [h,ua] <;> omega
 ·cases hi with
  | none=>simp [sliceBounds,HT.sIx]
  | some i=>
   simp only [sliceBounds,HT.sIx,Option.getD_none,show(1:Int)>0 by decide,pd]
   by_cases h:i<0
   ·simp only [h,pd] <;> omega
   ·simp only [h,ua] <;> omega
theorem qav(its:List Value)(lo hi:Option Int): slicePick its.toArray lo hi none=((its.drop (HT.sIx its.length 0 lo)).take (HT.sIx its.length its.length hi-HT.sIx its.length 0 lo)).toArray:=by
 obtain⟨h1,h2,h3⟩:=qbj lo hi its.toArray.size;unfold slicePick;rw [h1,h2,h3];simp only [sliceRange_one,pick_run,gh] <;> rfl
def qr6(K:PySem.W.Frag): V->Option Int->Option Int->Hp->VK->Prop:=fun x lo hi H Q=>∃a xs,x=.ref a/\SqL K H a xs/\∀p,H p=none->Q (.ref p) (upd H p (.lst (q25 xs lo hi)))
theorem sl_list:SlR X (qr6 X.K):=by
 intro pins s σ H x v vl vu lo hi sl Q I rx hs pl pu h;obtain⟨a,xs,rfl,hx,q⟩:=h;cases rx;obtain⟨its,r,ht,hz⟩:=I.list hx;have hlen:=r.length;refine⟨"list",_,slot_list_getitem.lookup,ht.isList.typeIs,?_⟩;refine wpAny_getItem_list_slice ht.isList hs pl pu .none (by simp) ?_ (by rw [gh] <;> omega);rw [qav, <- hlen];refine⟨.ref s.heap.objs.size,_,I.laid (t':=s.toks) (o:=.lst (q25 xs lo hi)) (fun b ob q=>gb _ q) (gw _) ?_,rfl,q _ (I.hok.fresh (gw _))⟩;exact⟨mm (q6y xs lo hi) hz,_,0,(r.drop (HT.sIx xs.length 0 lo)).take (HT.sIx xs.length xs.length hi-HT.sIx xs.length 0 lo),md _ rfl⟩
def q0b:V->Bool
 | .non=>true
 | .bl _=>true
 | .int _=>true
 | .str _=>true
 | _=>false
def eqV:V->V->Bool
 | .non,.non=>true
 | .bl a,.bl b=>a==b
 | .bl a,.int b=>(if a then 1 else 0)==b
 | .int a,.bl b=>a==(if b then 1 else 0)
 | .int a,.int b=>a==b
 | .str a,.str b=>a==b
 | _,_=>false
theorem qhi{A:Around}{s:Shared}{y x:V}{u v:Value}(ry:RelV y u)(rx:RelV x v)(fy:q0b y=true)(fx:q0b x=true): SeqAt.EqAt A s u v (eqV y x):=by
 cases y with
 | non=>
  cases ry;cases x with
  | non=>cases rx;exact g33 _
  | bl b=>cases rx;exact SeqAt.EqAt.none_bool b
  | int b=>obtain⟨t,rfl⟩:=rx;exact SeqAt.EqAt.none_int b t
  | str b=>obtain⟨t,rfl⟩:=rx;exact SeqAt.EqAt.none_str b t
  | _=>exact absurd (show false=true from fx) m5
 | bl a=>
  cases ry;cases x with
  | non=>cases rx;exact SeqAt.EqAt.bool_none a
  | bl b=>cases rx;exact SeqAt.EqAt.bool_bool a b
  | int b=>obtain⟨t,rfl⟩:=rx;exact SeqAt.EqAt.bool_int a b t
  | str b=>obtain⟨t,rfl⟩:=rx;exact SeqAt.EqAt.bool_str a b t
  | _=>exact absurd (show false=true from fx) m5
 | int a=>
  obtain⟨t',rfl⟩:=ry;cases x with
  | non=>cases rx;exact SeqAt.EqAt.int_none a t'
  | bl b=>cases rx;exact SeqAt.EqAt.int_bool a t' b
  | int b=>obtain⟨t,rfl⟩:=rx;exact SeqAt.EqAt.int_int a t' b t
  | str b=>obtain⟨t,rfl⟩:=rx;exact SeqAt.EqAt.int_str a t' b t
  | _=>exact absurd (show false=true from fx) m5
 | str a=>
  obtain⟨t',rfl⟩:=ry;cases x with
  | non=>cases rx;exact SeqAt.EqAt.str_none a t'
  | bl b=>cases rx;exact SeqAt.EqAt.str_bool a t' b
  | int b=>obtain⟨t,rfl⟩:=rx;exact SeqAt.EqAt.str_int a t' b t
  | str b=>obtain⟨t,rfl⟩:=rx;exact SeqAt.EqAt.str_str a t' b t
  | _=>exact absurd (show false=true from fx) m5
 | _=>exact absurd (show false=true from fy) m5
def eqU(x:V)(u:Value): Bool:=match u with
 | .none=>eqV .non x
 | .bool b=>eqV (.bl b) x
 | .int i _=>eqV (.int i) x
 | .str z _=>eqV (.str z) x
 | _=>false
theorem qhj{x y:V}{u:Value}(r:RelV y u)(f:q0b y=true): eqU x u=eqV y x:=by
 cases y with
 | non=>cases r;rfl
 | bl b=>cases r;rfl
 | int i=>obtain⟨t,rfl⟩:=r;rfl
 | str z=>obtain⟨t,rfl⟩:=r;rfl
 | _=>exact absurd (show false=true from f) m5
theorem q95{x:V}: ∀ {xs:List V} {us:List Value},Vals xs us->xs.all q0b=true->us.any (eqU x)=xs.any fun y=>eqV y x
 | _,_,.nil,_=>rfl
 | y :: xs,u :: us,.cons r t,f=>by
  rw [g1n,gu] at f;rw [List.any_cons,List.any_cons,qhj r f.1,q95 t f.2]
theorem q7e{A:Around}{s:Shared}{x:V}{v:Value}(rx:RelV x v)(fx:q0b x=true): ∀ {xs:List V} {us:List Value},Vals xs us->xs.all q0b=true->∀u∈us,SeqAt.EqAt A s u v (eqU x u)
 | _,_,.nil,_=>fun u hu=>by cases hu
 | y :: xs,u :: us,.cons r t,f=>fun u' hu=>by
  rw [g1n,gu] at f;rcases gx.mp hu with rfl|hu
  ·rw [qhj r f.1];exact qhi r rx f.1 fx
  ·exact q7e rx fx t f.2 u' hu
def inV(x:V)(xs:List V): Bool:=xs.any fun y=>eqV y x
def rIn(K:PySem.W.Frag)(neg:Bool): R2:=fun x y H Q=>∃p xs,y=.ref p/\(SqL K H p xs\/SqT K H p xs)/\q0b x=true/\xs.all q0b=true/\Q (.bl (if neg then !inV x xs else inV x xs)) H
theorem qhk:OpR X (compareOp .In) (rIn X.K false):=by
 intro pins s σ H x y v u Q I rx ry h;obtain⟨p,xs,rfl,hq,fx,fs,q⟩:=h;cases ry;rcases hq with hq|hq
 ·obtain⟨its,r,pl,hz⟩:=I.list hq
  refine SeqAt.in_listAt (eqU x) pl.isList (fun w hw=>q7e rx fx r fs w (by simpa using hw)) ⟨.bl _,H,I,rfl,?_⟩;rw [show its.toArray.any (eqU x)=its.any (eqU x) by simp,q95 r fs];exact q
 ·obtain⟨its,r,pl,hz⟩:=I.tuple hq
  refine SeqAt.in_tupleAt (eqU x) pl (fun w hw=>q7e rx fx r fs w (by simpa using hw)) ⟨.bl _,H,I,rfl,?_⟩;rw [show its.toArray.any (eqU x)=its.any (eqU x) by simp,q95 r fs];exact q
theorem qaw:ji X (.type "tuple") (fun xs H Q=>∃p ys,xs=[.ref p]/\((SqL X.K H p ys/\∀l,H l=none->Q (.ref l) (upd H l (.tup ys)))\/(SqT X.K H p ys/\Q (.ref p) H))):=by
 intro pins s σ H xs us Q I r h;obtain⟨p,ys,rfl,h⟩:=h;obtain⟨u,rfl,rx⟩:=vals1 r;cases rx;rcases h with⟨hq,q⟩|⟨hq,q⟩
 ·obtain⟨its,r',pl,hz⟩:=I.list hq
  have hlen:=r'.length;refine call_tuple_list pl.isList (fun h' kp=>?_) (by simp only [gh] <;> omega);have I1:Inv X pins σ H {s with heap:=h'}:=I.kept (t':=s.toks) kp;have I2:Inv X pins σ (upd H h'.objs.size (.tup ys)) {s with heap:=h'.push {cls:=.type "tuple",data:=.seq its.toArray} }:=
   I1.laid (t':=s.toks) (fun b o e=>gb _ e) (gw _) (show ObjOk X.prog X.w _ _ _ (.tup ys) from⟨hz,its,r',TupX.new _ _⟩)
  exact⟨.ref h'.objs.size,_,I2,rfl,q _ (I1.hok.fresh (gw _))⟩
 ·obtain⟨its,r',pl,hz⟩:=I.tuple hq
  exact call_tuple_same pl ⟨.ref p,H,I,rfl,q⟩
def tyV(K:PySem.W.Frag)(T:String)(x:V)(H:Hp): Prop:=match x with
 | .str _=>T="str"
 | .int _=>T="int"
 | .ref p=>(T="list" /\ ∃xs,SqL K H p xs)\/(T="tuple" /\ ∃o,K.lookup p=some o/\o.cls=.type "tuple" /\ o.dict=none) \/
   (T="dict" /\ ((∃kvs,H p=some (.dK kvs))\/∃kvs,H p=some (.dT kvs)))\/(T="set" /\ ∃S n,H p=some (.set S n))
 | _=>False
theorem qo6{pins:List (Addr×Obj)}{σ : St}{H:Hp}{s:Shared}{T:String}{x:V}{v:Value}(I:Inv X pins σ H s)(r:RelV x v)(ty:tyV X.K T x H):
  s.TypeIs v T/\∀a,v=.ref a->∃ob,s.heap.get? a=some ob/\ob.dict=none:=by
 cases x with
 | str z=>
  obtain⟨t,rfl⟩:=r;cases(show T="str" from ty);exact⟨g22 s z t,fun _ e=>nomatch e⟩
 | int i=>
  obtain⟨t,rfl⟩:=r;cases(show T="int" from ty);exact⟨typeIs_int s i t,fun _ e=>nomatch e⟩
 | ref p=>
  cases r;rcases ty with⟨rfl,xs,hq⟩|⟨rfl,o,hk,hc,hd⟩|⟨rfl,hk⟩|⟨rfl,S,n,hk⟩
  ·obtain⟨its,_,pl,_⟩:=I.list hq
   refine⟨pl.isList.typeIs,fun a e=>?_⟩;cases e;obtain⟨o,n,e,c,hd,_⟩:=pl;exact⟨o,e,hd⟩
  ·refine⟨⟨o,I.kIn p o hk,hc⟩,fun a e=>?_⟩
   cases e;exact⟨o,I.kIn _ o hk,hd⟩
  ·have z:∃o,s.heap.get? p=some o/\o.ExactDict:=by
    rcases hk with⟨kvs,hk⟩|⟨kvs,hk⟩
    ·obtain⟨_,_,_,_,o,_,_,e,ex,_⟩:=I.hok p _ hk
     exact⟨o,e,ex⟩
    ·obtain⟨_,_,_,_,o,_,_,e,ex,_⟩:=I.hok p _ hk
     exact⟨o,e,ex⟩
   obtain⟨o,e,ex⟩:=z;refine⟨⟨o,e,ex.1⟩,fun a e2=>?_⟩;cases e2;exact⟨o,e,ex.2.1⟩
  ·obtain⟨o,_,_,_,e,ex,_⟩:=I.hok p _ hk
   refine⟨⟨o,e,ex.1⟩,fun a e2=>?_⟩;cases e2;exact⟨o,e,ex.2.1⟩
 | _=>exact False.elim ty
def tBM(K:PySem.W.Frag)(T:String)(r:V->List V->Hp->VK->Prop)(to:TE)(t:TA): TE:=fun σ H Q=>to σ H fun x H1=>tyV K T x H1/\t σ H1 fun xs H2=>r x xs H2 Q
variable{o e:Expr}{es:List Expr}{to:TE}{t:TA}{name:Str}{apos cpos:Pos}{T id:String}{r:V->List V->Hp->VK->Prop}
theorem q82(pa:PlainAttrs T)(slot:Slot T name id)(hty:typeOf (.builtin id)=pure (.type "method_descriptor"))(hm:MtR X id r)(ho:PE X o to)(ha:PA X (e :: es) t)
  (hbase:attributeBase o name X.env (eval o X.env)=eval o X.env:=by rfl)
  (hfew:((backTo cpos (starEach (e :: es) X.env)).all (fun x=> !x.1)&&(backToKw cpos (keywordEach [] X.env)).all (fun x=>x.1.isSome)
   && decide ((e :: es).length+([]:List Keyword).length+(if([]:List Keyword).isEmpty then 0 else 1)<30))=true:=by rfl)
  (hline:(apos.endLine==cpos.line)=true:=by rfl) (hs:starEach (e :: es) X.env=(false,eval e X.env) :: starEach es X.env:=by rfl) (hplain:(backTo cpos (starEach es X.env)).any (·.1)=false:=by rfl) :
  PE X (.Call (.Attribute o name apos) (e :: es) [] cpos) (tBM X.K T r to t):=by
 intro pins s σ H Q I h;refine wpAny_Call_method_late hbase hfew hline rfl (thn (ho pins s σ H _ I h) fun v s1 ⟨x,H1,I1,r1,ty,q1⟩=>?_);obtain⟨h1,h2⟩:=qo6 I1 r1 ty;refine⟨T,id,pa,slot,hty,h1,h2,?_⟩;have hA:=ha cpos pins s1 σ H1 _ I1 q1;rw [hs] at hA ⊢;refine Calls.callWith_builtin (by show(false || (backTo cpos (starEach es X.env)).any (·.1))=false;rw [hplain] <;> rfl) (Calls.evalArgs_plain ?_);exact thn hA fun us s2 ⟨vs,H2,I2,r2,q2⟩=>hm pins s2 σ H2 x vs v us Q I2 r1 r2 q2
end
def MtM(X:Cx)(id:String)(r:V->List V->Hp->VK->Prop): Prop:=
 ∀(pins:List (Addr×Obj)) (s:Shared) (σ : St) (H:Hp) (x:V) (xs:List V) (v:Value) (us:List Value) (Q:VK),Inv X pins σ H s->RelV x v->Vals xs us->r x xs H Q ->
  wpAny (model X.prog X.w) X.A (call (.builtin id) (v :: us)) (EP X pins σ Q) X.xe s
theorem Vals.one:∀ {x:V} {us:List Value},Vals [x] us->∃u,us=[u]/\RelV x u
 | _,_,.cons r .nil=>⟨_,rfl,r⟩
theorem Vals.two:∀ {x y:V} {us:List Value},Vals [x,y] us->∃u v,us=[u,v]/\RelV x u/\RelV y v
 | _,_,_,.cons r (.cons q .nil)=>⟨_,_,rfl,r,q⟩
section
variable{X:Cx}{pins:List (Addr×Obj)}{σ : St}{H:Hp}{s:Shared}{l b:Addr}{xs ys zs:List V}
theorem Inv.lset{its its':List Value}{n:Nat}{f:Array Value->Array Value}{t':Nat}(I:Inv X pins σ H s)(hH:H l=some (.lst xs))
  (e:s.heap.get? l=some {cls:=.type "list",data:=.seq its.toArray n}) (hf:f its.toArray=its'.toArray) (hv:Vals ys its') (hz:ys.length<=sizeLine) :
  Inv X pins σ (upd H l (.lst ys)) {s with heap:=s.heap.update l (Obj.mapSeq f),toks:=t'}:=by
 have q:=PySem.IsL.update e f;rw [hf] at q;refine I.write (x:=l) (e:=l) (by rw [hH];exact trivial) (.inl rfl) (fun b' u hb hu=>(mw s.heap (Obj.mapSeq f) (m4 hb)).trans hu) ⟨_,q⟩ ?_;exact⟨hz,its',_,hv,q⟩
theorem Inv.lnew{its:List Value}{t':Nat}(I:Inv X pins σ H s)(hv:Vals ys its)(hz:ys.length<=sizeLine):
  Inv X pins σ (upd H s.heap.objs.size (.lst ys)) {s with heap:=s.heap.push {cls:=.type "list",data:=.seq its.toArray},toks:=t'}:=
 I.laid (fun _ _ q=>gb _ q) (gw _) ⟨hz,its,0,hv,md _ rfl⟩
theorem Inv.fresh(I:Inv X pins σ H s): H s.heap.objs.size=none:=I.hok.fresh (gw _)
theorem Inv.lstM(I:Inv X pins σ H s)(hH:H l=some (.lst xs)): xs.length<=sizeLine/\∃(its:List Value) (n:Nat),Vals xs its/\xs.length=its.length/\s.heap.get? l=some {cls:=.type "list",data:=.seq its.toArray n}:=by
 obtain⟨z,its,n,r,e⟩:=I.hok l _ hH;exact⟨z,its,n,r,r.length,e⟩
end
section
variable{X:Cx}
def rAppend:V->List V->Hp->VK->Prop:=fun x vs H Q=>∃l xs y,x=.ref l/\vs=[y]/\H l=some (.lst xs)/\xs.length<sizeLine/\Q .non (upd H l (.lst (xs++[y])))
theorem q5c:MtM X "list.append" rAppend:=by
 intro pins s σ H x vs v us Q I rx rv h;obtain⟨l,xs,y,rfl,rfl,hH,hz,q⟩:=h;cases rx;obtain⟨u,rfl,ru⟩:=rv.one;obtain⟨z,its,n,r,hl,e⟩:=I.lstM hH;refine g0p F.slot_list_append ⟨_,e,rfl⟩ F.entry_list_append (F.args_list_append_2 _ _) (PySem.list_append l its.toArray n u (by rw [gh];omega)) ⟨e,?_⟩;refine⟨.non,_,I.lset (its':=its++[u]) hH e (by simp) (r.append (.cons ru .nil)) ?_,rfl,q⟩;rw [gc,gj];omega
end
section
variable{prog:Program}{w:World}{A:Around}{E:Value->Shared->Prop}{s:Shared}
end
section
variable{X:Cx}
end
end L2
namespace Att
open PySem PySem.W PySem.Calls PyProof.Rows
theorem q83{P:Params}{h:Heap}: ∀(ns:List Int) (vs:List Value),WellAll P h vs (ns.map WData.int)->IntsAre vs ns:=by
 intro ns
 induction ns with
 | nil=>
  intro vs w;rw [g0h] at w;cases w;exact .nil
 | cons n ns ih=>
  intro vs w;rw [m7] at w;cases w with
  | cons a b=>
   cases a;exact .cons _ _ (ih _ b)
theorem qhl{l:OpenLaw}{n:Nat}(hn:l.most=some n){P:Params}{h:Heap}{args:List WData}{vals:List Value}
  (hpre:l.row.toRowW.claim.pre args=true) (hwl:WellAll P h vals args) :
  ∃a vs ns,vals=[Value.ref a]/\args=[WData.list (ns.map WData.int)]/\h.get? a=some {cls:=.type "list",data:=.seq vs.toArray}/\IntsAre vs ns/\ns.length<=n:=by
 have hsh:WShape.hasAll [] args [.list .int]=true:=(pre_splitW hpre).1;have hc:l.pre.holds [] {args:=args}=true:=(pre_splitW hpre).2;obtain⟨d,r,rfl,h1,h2⟩:=hasAllW_cons hsh;obtain rfl:=hasAllW_nil h2;obtain⟨xs,rfl,h3⟩:=hasW_list h1;obtain⟨ns,rfl⟩:=items_int h3;have hlen:ns.length<=n:=by
  unfold OpenLaw.pre at hc;have h4:(WTm.not (.lt (.lit (.int (n:Int))) (.len (.arg 0)))).holds [] {args:=[.list (ns.map .int)]}=true:=by
   have h4:=(holds_andW hc).1;rw [hn] at h4;exact h4
  have h5:=condW_of h4 (w_not (w_lt w_lit (w_len_list (w_arg rfl))));rw [g7] at h5;refine g2q fun q=>?_;have q':(n:Int)<((ns.length:Nat):Int):=by omega
  first
   | (rw [gm q'] at h5;exact absurd h5 (by decide))
   | (simp at h5;omega)
 cases hwl with
 | cons w1 w2=>
  cases w2;cases w1 with
  | list ho hall=>exact⟨_,_,ns,rfl,rfl,ho,q83 ns _ hall,hlen⟩
theorem qhm(l:OpenLaw)(args:List WData): l.row.toRowW.claim.post args (.bool true) args=true:=
 postW_of (r:=l.row.toRowW) (X:=(true==true))
  (show WShape.has [] (.bool true) .bool=true by first|rfl|decide|simp [WShape.has,WShape.arms,WShape.armsAll])
  (show(WTm.eq .res (.lit (.bool true))).value [] {args:=args,res:=some (.bool true),after:=args}=some (.bool (true==true)) from w_eq_bool (w_res rfl) w_lit) rfl
theorem attach_call{l:OpenLaw}{n:Nat}{q:Program}{loose:List Str}{XP:(Str->Option Value)->Heap->Prop}{YP:World->Heap->Prop}{d:DefRec}
  (hn:l.most=some n) (hdf:d.params.defaults=[])
  (call:∀(w:World) (s₀ s₁:Shared) (mg mb:Str->Option Value) (fa:Addr) (o:Obj) (pm cd doc:Value) (a:Addr) (vs:List Value) (ns:List Int),
   Ground q loose [] XP w s₀ mg mb s₁.heap->YP w s₁.heap ->
   s₁.heap.get? fa=some o->o.data=.func (docDef d.name d.params d.body d.scope pm cd doc)->s₁.heap.CodeRec cd d.name->mg d.name=some (.ref fa) ->
   s₁.heap.get? a=some {cls:=.type "list",data:=.seq vs.toArray}->IntsAre vs ns->ns.length<=n->s₁.gens = #[] ->
   codeAny (model l.prog w) callerA (.call (.ref fa) ⟨[.ref a],[]⟩) (fun r s'=>r=.ok (.ret (.bool true))/\OldK s₁.heap s'.heap/\s'.os=s₁.os/\AllBare s'.gens) s₁) :
  WalkO q loose XP YP l.row.toRowW d [] (fun f vs=>PySem.call f vs):=by
 intro w s₀ s₁ mg mb G Y fa o pm cd doc dV kV ho hd hcd hD hmg hg args vals as hpre hlay hrd hwl hlo;obtain rfl:dV=.none:=Dflts.none hD hdf;obtain rfl:kV=.none:=Dflts.noKw hD;obtain⟨a,vs,ns,rfl,rfl,hobj,hints,hlen⟩:=qhl hn hpre hwl;refine enter_call (tf (call w s₀ s₁ mg mb fa o pm cd doc a vs ns G Y ho (fd_plain hd) hcd hmg hobj hints hlen hg) fun r s' hq=>?_);obtain⟨rfl,h2,h3,h4⟩:=hq;exact⟨.inl ⟨.bool true,.bool true,[],rfl,fun _=>rfl,.bool true,qhm l _,fun _=>⟨List.Pairwise.nil,fun _ hm=>(nomatch hm)⟩⟩,h2,h3,h4⟩
section
variable{prog:Program}{w:World}{A:Around}{E:Value->Shared->Prop}{s:Shared}{K:Frag}
end
end Att
namespace L2
open PySem PySem.Spec PyProof.Rows
theorem q1x:∀ {vs:List Value} {ns:List Int},IntsAre vs ns->Vals (ns.map V.int) vs
 | _,_,.nil=>.nil
 | _,_,.cons n t h=>.cons ⟨t,rfl⟩ (q1x h)
def qjc(H:Hp): Prop:=∀b,H b=none\/∃o xs,H b=some (.frz o (.lst xs))
theorem qjd{P:Program}{w:World}{K:PySem.W.Frag}{mg mb:Str->Option Value}{CX:CXT}{k:Nat}{fa a:Addr}{fd:FuncData}{x:Str}{sp:Sp}{s₁:Shared}{vs:List Value}{ns:List Int}
  (KX:K.In s₁.heap) (hns:s₁.heap.Ns mainGlobals mg) (hb:s₁.heap.Ns builtinsNs mb) (hbb:∀x:Str,x≠"__name__" -> mb x=bootBuiltins x) (hlim:s₁.heap.NoLimit) (hg:s₁.gens = #[])
  (ha:s₁.heap.get? a=some {cls:=.type "list",data:=.seq vs.toArray}) (hi:IntsAre vs ns) (hl:ns.length<=sizeLine) (hr:Room k callerA)
  (F:∀base:Heap,K.In base->base.Ns mainGlobals mg->FnOk P w K mg base CX k fa fd [x] sp) (hbind:∀(s:Shared) (u:Value),BindsTo s fd ⟨[u],[]⟩ [(x,u)])
  (hsp:∀H:Hp,qjc H->SqL K H a (ns.map V.int)->sp [.ref a] H (fun v _=>v=.bl true) fun _ _ _=>False)
  (hCX:∀H e s',CX [] H s₁ (fun _ _ _=>False) e s'->False) :
  codeAny (model P w) callerA (.call (.ref fa) ⟨[.ref a],[]⟩) (fun r s'=>r=.ok (.ret (.bool true))/\OldK s₁.heap s'.heap/\s'.os=s₁.os/\AllBare s'.gens) s₁:=by
 have rv:=q1x hi;have lenV:=hi.length
 -- from an abstract heap in which nothing but the script may be tracked
 have core:∀H:Hp,qjc H->SqL K H a (ns.map V.int)->HOk P w H s₁.heap->(∀b,H b≠none->b=a)->(H a≠none->K.lookup a=none) ->
   codeAny (model P w) callerA (.call (.ref fa) ⟨[.ref a],[]⟩) (fun r s'=>r=.ok (.ret (.bool true))/\OldK s₁.heap s'.heap/\s'.os=s₁.os/\AllBare s'.gens) s₁:=by
  intro H hO hS hok hA hK;have base_of:∀ {b:Addr} {o:Obj},s₁.heap.get? b=some o->H b=none->(q4a s₁.heap H).get? b=some o:=fun e n=>qj4 e n;have noA:∀ {b:Addr} {o:Obj} {es:Array DictEntry} {ep:Nat},s₁.heap.get? b=some o->o.data=.dict es ep->H b=none:=fun {b o es ep} e d=>by
   cases q:H b with
   | none=>rfl
   | some u=>
    have e':b=a:=hA b (by rw [q];simp);subst e';rw [ha] at e;cases e;have d':Data.seq vs.toArray _=Data.dict es ep:=d;cases d'
  have nsK:∀ {b:Addr} {m:Str->Option Value},s₁.heap.Ns b m->(q4a s₁.heap H).Ns b m:=fun {b m} ⟨o,es,ep,e,d,r⟩=>⟨o,es,ep,base_of e (noA e d),d,r⟩
  have hKb:K.In (q4a s₁.heap H):=fun b o e=>base_of (KX b o e) (by
   cases q:H b with
   | none=>rfl
   | some u=>
    have e':b=a:=hA b (by rw [q];simp);subst e';rw [hK (by rw [q];simp)] at e;cases e)
  have hM:Mod K mg (q4a s₁.heap H):=⟨hKb,nsK hns,⟨mb,nsK hb,hbb⟩,let⟨mc,h1,h2⟩:=hlim; ⟨mc,nsK h1,h2⟩⟩
  have e0:Env0 P w K mg (q4a s₁.heap H) callerA [] s₁ H:=⟨rfl,hM,fun b o e=>qlj e,Nat.le_of_eq (qh5 _ _),trivial,fun b hb=>absurd (show b∈([]:List Addr) from hb) (by simp),hok,.of_eq hg⟩
  refine tf ((F _ hKb (nsK hns)).run callerA [] s₁ H ⟨[.ref a],[]⟩ [.ref a] [.ref a] _ _ hr e0 (hbind s₁ (.ref a)) (.cons rfl .nil) (hsp H hO hS)) fun r s' h=>?_;cases r with
  | error e=>exact(hCX H e s' h).elim
  | ok fl=>
   cases fl with
   | next=>exact False.elim h
   | brk=>exact False.elim h
   | cont=>exact False.elim h
   | ret u=>
    obtain⟨v,H',os,bare,un,hok',r',q⟩:=h;have q':v=.bl true:=q;subst q';obtain rfl:u=Value.bool true:=r';refine⟨rfl,OldK.of_keep fun b o e=>?_,os,bare⟩;cases q:H b with
    | none=>exact un.keep b o e q (by intro z;exact absurd (show b∈([]:List Addr) from z) (by simp)) (by simp)
    | some u=>
     rcases hO b with z|⟨ob,xs,z⟩
     ·rw [q] at z;cases z
     ·have z2:=un.frzs b ob _ z
      obtain⟨e1,_⟩:=hok b _ z;obtain⟨e2,_⟩:=hok' b _ z2;rw [e] at e1;cases e1;exact e2
 cases hk:K.lookup a with
 | some o=>
  -- the script is one of the module's own objects
  have e:=KX a o hk;rw [ha] at e;cases e;refine core (fun _=>none) (fun _=>.inl rfl) (.inr ⟨_,vs.toArray,_,hk,rfl,rfl,rfl,by rw [gh,lenV];exact hl,by simpa using rv⟩) (fun b u z=>by have z':(none:Option HO)=some u:=z;cases z') (fun b z=>absurd rfl z) fun z=>absurd rfl z
 | none=>
  refine core (fun b=>if b=a then some (.frz {cls:=.type "list",data:=.seq vs.toArray} (.lst (ns.map V.int))) else none) (fun b=>?_) (.inl (.inr ⟨{cls:=.type "list",data:=.seq vs.toArray},gy rfl⟩)) (fun b u z=>?_) (fun b z=>?_) fun _=>hk
  ·by_cases hb:b=a
   ·exact .inr ⟨_,_,gy hb⟩
   ·exact .inl (ma hb)
  ·by_cases hb:b=a
   ·have z':=(gy hb).symm.trans z
    cases z';subst hb;exact⟨ha,by rw [g7];exact hl,vs,_,rv,ha⟩
   ·have z':=(ma hb).symm.trans z
    cases z'
  ·by_cases hb:b=a
   ·exact hb
   ·exact absurd (ma hb) z
theorem qlw{l:PySem.W.OpenLaw}{n k:Nat}{q:Program}{loose:List Str}{XP:(Str->Option Value)->Heap->Prop}{YP:World->Heap->Prop}{d:DefRec}{K:Params->PySem.W.Frag}{CX:World->CXT}{sp:World->Sp}{x:Str}
  (hn:l.most=some n) (hn2:n<=sizeLine) (hdf:d.params.defaults=[]) (hr:Room k callerA)
  (hY:∀(w:World) (h:Heap),YP w h->(K w.params).In h)
  (F:∀(w:World) (mg:Str->Option Value) (fa:Addr) (h:Heap),(K w.params).In h->h.Ns mainGlobals mg->mg d.name=some (.ref fa) ->
   ∃fd:FuncData,(∀(s:Shared) (u:Value),BindsTo s fd ⟨[u],[]⟩ [(x,u)]) /\
    ∀base:Heap,(K w.params).In base->base.Ns mainGlobals mg->FnOk l.prog w (K w.params) mg base (CX w) k fa fd [x] (sp w))
  (hsp:∀(w:World) (H:Hp) (a:Addr) (ns:List Int),ns.length<=n->qjc H->SqL (K w.params) H a (ns.map V.int)->sp w [.ref a] H (fun v _=>v=.bl true) fun _ _ _=>False)
  (hCX:∀(w:World) (H:Hp) (s:Shared) (e:Value) (s':Shared),CX w [] H s (fun _ _ _=>False) e s'->False) :
  PySem.W.WalkO q loose XP YP l.row.toRowW d [] (fun f vs=>PySem.call f vs):=by
 refine Att.attach_call hn hdf fun w s₀ s₁ mg mb fa o pm cd doc a vs ns G Y ho hd hcd hmg hobj hints hlen hg=>?_;have KX:=hY w _ Y;obtain⟨fd,hb,hF⟩:=F w mg fa _ KX G.T.g hmg;exact qjd KX G.T.g G.T.b G.T.builtins G.T.nolimit hg hobj hints (mm hlen hn2) hr hF hb (fun H hO hS=>hsp w H a ns hlen hO hS) fun H e s'=>hCX w H s₁ e s'
def q2m(s:Stmt): Arguments:=match s with
 | .FunctionDef _ a _ _ _ _ _ _ _ _=>a
 | _=>{posonlyargs:=[],args:=[],vararg:=none,kwonlyargs:=[],kw_defaults:=[],kwarg:=none,defaults:=[]}
def za(s:Stmt): List Stmt:=match s with
 | .FunctionDef _ _ b _ _ _ _ _ _ _=>b
 | _=>[]
def qj(s:Stmt): Scope:=match s with
 | .FunctionDef _ _ _ _ _ _ sc _ _ _=>sc
 | _=>{kind:=.function,names:=[],isGenerator:=false,isCoroutine:=false}
abbrev CX0:CXT:=fun _ _ _ _ _ _=>False
abbrev E0:XK:=fun _ _ _=>False
theorem qqc{X:Cx}: q80 CX0 X E0:=fun _ _ _ _ _ _ _ h=>h.elim
structure Fun(K:PySem.W.Frag)(x qual:Str)(st:Stmt)(f:Addr)(fd:FuncData): Prop where
 ex:∃(oc:Value) (od:Option Addr) (kV doc pm:Value) (an:Option Addr) (cdv ct:Value) (osl:Array (Option Value)),
  fd=PySem.W.fnOf x qual (q2m st) (za st) (qj st) .none kV doc pm an cdv ct/\K.lookup f=some ⟨oc,od,.func fd,osl⟩/\PySem.W.codeIn K cdv qual=true
 kp:PySem.W.keepIn K (.ref f)=true
section
variable{P:Program}{w:World}{K:PySem.W.Frag}{mg:Str->Option Value}{base:Heap}
end
section
variable{X:Cx}
theorem pv(i:Nat){x:Str}{pos:Pos}(hN:X.N[i]? = some x:=by rfl)(hv:Vis X.env.scope x:=by first|exact Or.inl rfl|exact Or.inr (Or.inl rfl)|exact Or.inr (Or.inr rfl))(hd:(x==("__debug__" : Str))=false:=by decide)
  (hcd:(x==("__classdict__" : Str))=false:=by decide):PE X (.Name x pos) (q2s i):=qni hN hv hd hcd
end
theorem qo7{A B:Prop}(h:B): if false=true then A else B:=by
 rw [ma m5];exact h
theorem qje{A B:Prop}(h:A): if true=true then A else B:=by
 rw [gy rfl];exact h
def Same(H H':Hp): Prop:=∀b o,H b=some o->H' b=some o
theorem Same.refl(H:Hp): Same H H:=fun _ _ h=>h
theorem Same.trans{H H1 H2:Hp}(a:Same H H1)(b:Same H1 H2): Same H H2:=fun c o h=>b c o (a c o h)
theorem Same.free{H H':Hp}(e:Same H H'){l:Addr}(h:H' l=Option.none): H l=Option.none:=by
 cases q:H l with
 | none=>rfl
 | some o=>
  rw [e l o q] at h;cases h
theorem Same.seq{K:PySem.W.Frag}{H H':Hp}{a:Addr}{xs:List V}(e:Same H H')(h:SqL K H a xs): SqL K H' a xs:=by
 rcases h with(h|⟨o,h⟩)|h
 ·exact .inl (.inl (e _ _ h))
 ·exact .inl (.inr ⟨o,e _ _ h⟩)
 ·exact .inr h
theorem q2t(env:Env): ∀(names:List (Str×NameKind)) (acc:List (Str×Addr)),
  (∀y∈names,y.2=.free->∃c,env.cells.lookup y.1=some c)->(∀x c,acc.lookup x=some c->env.cells.lookup x=some c) ->
  ∃ cl,(forIn names acc (fun(x:Str×NameKind) (r:List (Str×Addr))=>(do
    if x.2==NameKind.free then do
     let a <- cellOf env x.1
     pure (ForInStep.yield ((x.1,a) :: r))
    else pure (ForInStep.yield r):Sem (ForInStep (List (Str×Addr))))):Sem (List (Str×Addr)))=pure cl /\
   (∀x c,cl.lookup x=some c->env.cells.lookup x=some c)/\(∀x c,acc.lookup x=some c->∃d,cl.lookup x=some d)/\(∀y∈names,y.2=.free->∃c,cl.lookup y.1=some c)
 | [],acc,_,h2=>⟨acc,rfl,h2,fun x c h=>⟨c,h⟩,fun y hy=>by cases hy⟩
 | (n,k) :: r,acc,h1,h2=>by
  by_cases hk:k=NameKind.free
  ·subst hk
   obtain⟨c,hc⟩:=h1 (n,.free) gd rfl;have h2':∀x d,((n,c) :: acc).lookup x=some d->env.cells.lookup x=some d:=fun x d e=>by
    rw [mr] at e
    split at e
    ·rename_i q
     have q':x=n:=by simpa using q
     subst q';cases e;exact hc
    ·exact h2 x d e
   obtain⟨cl,e,a1,a2,a3⟩:=q2t env r ((n,c) :: acc) (fun y hy=>h1 y (gi _ hy)) h2';refine⟨cl,?_,a1,fun x d e2=>?_,fun y hy hf=>?_⟩
   ·rw [g34]
    simp only [g1p,pd];have hco:cellOf env n=pure c:=by unfold cellOf;rw [hc]
    rw [hco];exact e
   ·by_cases q:x=n
    ·subst q
     exact a2 x c (by rw [mr];simp)
    ·exact a2 x d (by rw [mr,show(x==n)=false by simpa using q];exact e2)
   ·rcases gx.mp hy with rfl|hy
    ·exact a2 n c (by rw [mr];simp)
    ·exact a3 y hy hf
  ·obtain⟨cl,e,a1,a2,a3⟩:=q2t env r acc (fun y hy=>h1 y (gi _ hy)) h2
   refine⟨cl,?_,a1,a2,fun y hy hf=>?_⟩
   ·rw [g34]
    have hb:(k==NameKind.free)=false:=by simpa using hk
    simp only [hb,nr,ua];exact e
   ·rcases gx.mp hy with rfl|hy
    ·exact absurd hf hk
    ·exact a3 y hy hf
theorem q4d{scope:Scope}{env:Env}(h:∀y∈scope.names,y.2=.free->∃c,env.cells.lookup y.1=some c):
  ∃cl,closureFor scope env=pure cl/\(∀x c,cl.lookup x=some c->env.cells.lookup x=some c)/\(∀y∈scope.names,y.2=.free->∃c,cl.lookup y.1=some c):=by
 obtain⟨cl,e,a1,_,a3⟩:=q2t env scope.names [] h (fun x c q=>by cases q);refine⟨cl,?_,a1,a3⟩;unfold closureFor;exact(n6 (fun m=>m >>= fun r=>(pure r:Sem (List (Str×Addr)))) e).trans rfl
abbrev qhn(ifs:List Expr)(env:Env): Sem Bool:=
 forIn ifs true fun c r=>if r=true then do let ok <- isTrue c env (eval c env);pure (ForInStep.yield ok) else pure (ForInStep.yield r)
def q26(X:Cx)(ifs:List Expr)(t:TT): Prop:=
 ∀(pins:List (Addr×Obj)) (s:Shared) (σ : St) (H:Hp) (Q:Bool->Hp->Prop),Inv X pins σ H s->t σ H Q->wpAny (model X.prog X.w) X.A (qhn ifs X.env) (TP X pins σ Q) X.xe s
def tTrue:TT:=fun _ H Q=>Q true H
theorem qjf{X:Cx}: q26 X [] tTrue:=fun pins s σ H Q I h=>wpAny_tests_nil ⟨H,I,h⟩
theorem qjg{X:Cx}{c:Expr}{t:TT}(h:PT X c t): q26 X [c] t:=fun pins s σ H Q I hq=>wpAny_tests_one (h pins s σ H Q I hq)
section
variable{prog:Program}{w:World}{A:Around}{R:Result->Shared->Prop}{s:Shared}
theorem qdr{elt target iter:Expr}{ifs:List Expr}{scope:Scope}{pos:Pos}{it acc:Value}{env:Env}(I:Nat->Shared->Prop)
  (turn:∀n s,I n s->wpAny (model prog w) A (pyNext it) (fun r s₁=>match r with
   | none=>R (.ok .next) s₁
   | some v=>wpAny (model prog w) A (letOwnedTupleGo target it v) (fun _ s'=>wpAny (model prog w) A (assign target env v) (fun _ s₂=>
     wpAny (model prog w) A (qhn ifs env) (fun ok s₃=>
      if ok=true then wpAny (model prog w) A (eval elt env) (fun x s₄=>
       wpAny (model prog w) A (call (.builtin "list.append") [acc,x]) (fun _ s₅=>∃m,m<n/\I m s₅) (fun _ _=>False) s₄) (fun _ _=>False) s₃
      else ∃m,m<n/\I m s₃) (fun _ _=>False) s₂) (fun _ _=>False) s') (fun _ _=>False) s₁) (fun _ _=>False) s)
  (n:Nat) (h:I n s) :
  codeAny (model prog w) A (.compLoop (.ListComp elt [⟨target,iter,ifs,0⟩] scope pos) 0 it acc env) R s:=by
 refine codeAny_loop rfl I (fun n s hI=>?_) n h;show wpAny _ A ((compTurn (.ListComp elt [⟨target,iter,ifs,0⟩] scope pos) 0 it acc env).onRaise (fun x=>do noteFrame x env;theTreesLotGoes x)) _ _ s;refine wpAny_noted ?_;rw [compTurn_list];refine g8 (g1o (g8 (me (turn n s hI) (fun r s₁ h₁=>?_) fun _ _ h'=>h'.elim)));cases r with
 | none=>exact gf h₁
 | some v=>
  refine g8 (me h₁ (fun _ s' h'=>?_) fun _ _ h'=>h'.elim);refine g8 (me h' (fun _ s₂ h₂=>g8 (me h₂ (fun ok s₃ h₃=>?_) fun _ _ h'=>h'.elim)) fun _ _ h'=>h'.elim);cases ok with
  | false=>exact gf ⟨rfl,h₃⟩
  | true=>
   exact g8 (g8 (me h₃ (fun x s₄ h₄=>g8 (me h₄ (fun _ s₅ h₅=>gf (gf ⟨rfl,h₅⟩)) fun _ _ h'=>h'.elim)) fun _ _ h'=>h'.elim))
end
abbrev zl(X:Cx)(N':List Str)(scope:Scope)(cl:List (Str×Addr))(C:Addr)(s₀:Shared)(H₀:Hp)(fp:List Addr): Cx:=
 {X with N:=N',env:=compEnvC scope cl C X.env,s₀:=s₀,H₀:=H₀,outer:=X.stack,ex:=fp,fn:=fun _=>false,pn:=[],xe:=fun _ _=>False}
structure CapOk(X:Cx)(N':List Str)(scope:Scope)(cap:List (Option Nat)): Prop where
 kind:scope.kind=.function
 cell:∀y∈scope.names,y.2 ≠ .cell
 names:∀y∈scope.names,y.2=.local->scope.names.lookup y.1=some .local
 frees:∀y∈scope.names,y.2=.free->X.env.kindOf y.1=some .cell\/X.env.kindOf y.1=some .free
 len:cap.length=N'.length
 cap:∀(i j:Nat),cap[i]? = some (some j)->∃x,N'[i]? = some x/\X.N[j]? = some x/\scope.names.lookup x=some .free
def q7f(cap:List (Option Nat))(σ : St): St:=cap.map fun o=>o.bind fun j=>(σ[j]?).join
theorem lookup_mem{α β : Type}[BEq α][LawfulBEq α]{l:List (α × β)}{a : α}{b : β}(h:l.lookup a=some b): (a,b)∈l:=by
 induction l with
 | nil=>cases h
 | cons p r ih=>
  obtain⟨x,y⟩:=p;rw [mr] at h
  split at h
  ·rename_i q
   have q':a=x:=by simpa using q
   subst q';cases h;exact gd
  ·exact gi _ (ih h)
theorem q2u{env:Env}: ∀ {names:List (Str×NameKind)} {x:Str} {k:NameKind},(names.map fun(n,k)=>if(k==NameKind.free&&env.scope.kind == .function&&env.kindOf n==some .cell) then(n,NameKind.cell) else(n,k)).lookup x=some k ->
  (names.lookup x=some k)\/(k=.cell/\names.lookup x=some .free)
 | [],_,_,h=>by cases h
 | (n,k0) :: r,x,k,h=>by
  have ih:=@q2u env r x k;have h':List.lookup x ((if(k0==NameKind.free&&env.scope.kind == .function&&env.kindOf n==some .cell)=true then(n,NameKind.cell) else(n,k0)) :: _)=some k:=h
  by_cases hc:(k0==NameKind.free&&env.scope.kind == .function&&env.kindOf n==some .cell)=true
  ·rw [gy hc,mr] at h'
   have hf:k0=.free:=by
    simp only [gu,t5] at hc;exact hc.1.1
   cases q:x==n with
   | true=>rw [q] at h';cases h';exact .inr ⟨rfl,by rw [mr,q,hf]⟩
   | false=>rw [q] at h';rw [mr,q];exact ih h'
  ·rw [ma hc,mr] at h'
   cases q:x==n with
   | true=>rw [q] at h';rw [mr,q];exact .inl h'
   | false=>rw [q] at h';rw [mr,q];exact ih h'
theorem q5d{env:Env}: ∀ {names:List (Str×NameKind)} {x:Str},names.lookup x=some .free ->
  (names.map fun(n,k)=>if(k==NameKind.free&&env.scope.kind == .function&&env.kindOf n==some .cell) then(n,NameKind.cell) else(n,k)).lookup x=some .cell \/
  (names.map fun(n,k)=>if(k==NameKind.free&&env.scope.kind == .function&&env.kindOf n==some .cell) then(n,NameKind.cell) else(n,k)).lookup x=some .free
 | [],_,h=>by cases h
 | (n,k0) :: r,x,h=>by
  have ih:=@q5d env r x;show List.lookup x ((if(k0==NameKind.free&&env.scope.kind == .function&&env.kindOf n==some .cell)=true then(n,NameKind.cell) else(n,k0)) :: _)=_\/List.lookup x ((if(k0==NameKind.free&&env.scope.kind == .function&&env.kindOf n==some .cell)=true then(n,NameKind.cell) else(n,k0)) :: _)=_;rw [mr] at h
  by_cases hc:(k0==NameKind.free&&env.scope.kind == .function&&env.kindOf n==some .cell)=true
  ·rw [gy hc,mr]
   cases q:x==n with
   | true=>exact .inl rfl
   | false=>rw [q] at h;exact ih h
  ·rw [ma hc,mr]
   cases q:x==n with
   | true=>rw [q] at h;exact .inr h
   | false=>rw [q] at h;exact ih h
section
variable{X:Cx}{pins:List (Addr×Obj)}{σ : St}{H:Hp}{s:Shared}{N':List Str}{scope:Scope}{cap:List (Option Nat)}{cl:List (Str×Addr)}{fp:List Addr}
theorem qbk(I:Inv X pins σ H s)(co:CapOk X N' scope cap)(h1:∀x c,cl.lookup x=some c->X.env.cells.lookup x=some c)(h2:∀y∈scope.names,y.2=.free->∃c,cl.lookup y.1=some c)
  (hf:∀b∈fp,q01 X pins H b) (ho:∀b∈fp,∃o,s.heap.get? b=some o) {h':Heap} {t':Nat} {m:Str->Option Value} (hn:h'.Ns s.heap.objs.size m) (hk:∀b o,s.heap.get? b=some o->h'.get? b=some o) :
  Inv (zl X N' scope cl s.heap.objs.size s H fp) [] (q7f cap σ) H {s with heap:=h',toks:=t'}:=by
 have flt:∀b∈fp,b<s.heap.objs.size:=fun b hb=>let⟨o,e⟩:=ho b hb;gv e
 refine⟨⟨I.ok.mod,co.kind,I.ok.glob,I.ok.blt,gw _,fun x y c e1 e2=>I.ok.inj x y c (h1 x c e1) (h1 y c e2),fun x hx=>?_,fun x c z _=>(nomatch z),I.ok.hd,I.ok.frames,.inl rfl,fun b hb=>?_,I.bs,mm I.ok.bsz I.sz,fun b o e hb=>?_,fun b hb z=>?_,I.stack,I.stkFree⟩,
  rfl,I.bare,Un.kept hk,⟨m,hn,fun i x v e1 e2 e3=>?_⟩,fun x c e=>?_,I.hok.fresh (gw _),fun x c e=>I.freeC x c (h1 x c e),fun p hp=>(nomatch hp),I.hok.kept hk,?_⟩
 ·have hx':(relabel scope X.env).names.lookup x=some .cell\/(relabel scope X.env).names.lookup x=some .free:=hx
  have hfree:scope.names.lookup x=some .free:=by
   rcases hx' with q|q
   ·rcases q2u q with z|⟨_,z⟩
    ·exact absurd rfl (co.cell _ (lookup_mem z))
    ·exact z
   ·rcases q2u q with z|⟨z,_⟩
    ·exact z
    ·cases z
  exact h2 (x,.free) (lookup_mem hfree) rfl
 ·obtain⟨f0,f1,f2,f3,f4,f5⟩:=hf b hb
  exact⟨mj (flt b hb),fun x c e=>f4 x c (h1 x c e)⟩
 ·obtain⟨f0,f1,f2,f3,f4,f5⟩:=hf b hb
  rcases f3 with z|z
  ·exact I.ok.noex b o e z
  ·exact absurd (m8 (gv e) (mm I.ok.bsz z)) (p8 _)
 ·obtain⟨f0,f1,f2,f3,f4,f5⟩:=hf b hb
  rcases gx.mp (I.stkSub b z) with q|q
  ·exact f1 q
  ·exact f2 q
 ·-- a captured name
  have e2':(cap.map fun o=>o.bind fun j=>(σ[j]?).join)[i]? = some (some v):=e2;rw [gz] at e2';cases q:cap[i]? with
  | none=>rw [q] at e2';cases e2'
  | some o=>
   rw [q] at e2';cases o with
   | none=>cases e2'
   | some j=>
    obtain⟨y,a1,a2,a3⟩:=co.cap i j q;have e1':N'[i]? = some x:=e1;rw [a1] at e1';obtain rfl:y=x:=n3 e1';have ej:(σ[j]?).join=some v:=by
     have:=e2';simp only [mq,g6,g1g] at this;exact this
    have ej' : σ[j]? = some (some v):=by
     cases z : σ[j]? with
     | none=>rw [z] at ej;cases ej
     | some u=>rw [z] at ej;simp only [g1q] at ej;rw [ej]
    have kd:=co.frees (y,.free) (lookup_mem a3) rfl;obtain⟨m0,hn0,hl0⟩:=I.loc;have vis:Vis X.env.scope y:=by
     rcases kd with k|k
     ·exact .inr (.inl k)
     ·exact .inr (.inr k)
    obtain⟨u,ru,lk⟩:=hl0 j y v a2 ej' vis;refine⟨u,ru,.inr ⟨q5d a3,?_⟩⟩;obtain⟨c,hc⟩:=h2 (y,.free) (lookup_mem a3) rfl;rcases lk with⟨k,_⟩|⟨_,c',hc',z⟩
    ·rcases kd with k'|k'
     ·rw [k] at k';cases k'
     ·rw [k] at k';cases k'
    ·have:=h1 _ _ hc
     rw [hc'] at this;obtain rfl:c'=c:=n3 this;obtain⟨o,eo,ed⟩:=z;exact⟨c',hc,o,hk _ _ eo,ed⟩
 ·obtain⟨v,o,eo,ed⟩:=I.cell x c (h1 x c e)
  exact⟨v,o,hk _ _ eo,ed⟩
 ·show(cap.map _).length=N'.length
  rw [g7];exact co.len
theorem q4e{N':List Str}{C:Addr}{H':Hp}{s':Shared}{σ':St}{h':Heap}(I:Inv X pins σ H s)(hf:∀b∈fp,q01 X pins H b)(J:Inv (zl X N' scope cl C s H fp) [] σ' H' s')(hs:Heap.SameBut C s'.heap h'):
  Inv X pins σ H' {s' with heap:=h'}:=by
 have hC:s.heap.objs.size<=C:=J.ok.above;have kp:∀b o,b≠C->s'.heap.get? b=some o->h'.get? b=some o:=fun b o hb e=>(hs.2 b hb).trans e;have hC0:H' C=none:=J.free;have un:Un (frs X.stack) fp H H' s.heap h':=by
  have u:Un (frs X.stack) fp H H' s.heap s'.heap:=J.base;have neC:∀b o,s.heap.get? b=some o->b≠C:=fun b o e=>mj (m8 (gv e) hC);exact⟨fun b o e n h1 h2=>kp b o (neC b o e) (u.keep b o e n h1 h2),fun b o e n h1 h2=>let⟨sl,q⟩:=u.slot b o e n h1 h2; ⟨sl,kp b _ (neC b o e) q⟩,u.free,fun b o e h=>let⟨o',q⟩:=u.there b o e h; ⟨o',kp b o' (neC b o e) q⟩,u.tups,u.frzs,u.tbls⟩
 have hok:HOk X.prog X.w H' h':=fun b u e=>by
  refine(J.hok b u e).stay (fun c v hc q=>kp c v ?_ q) (fun _ q=>q) fun _ _ q=>q;rcases hc with z|z
  ·rw [z];intro z2;rw [z2,hC0] at e;cases e
  ·intro z2;rw [z2,hC0] at z;cases z
 exact I.call' (s':={s' with heap:=h'}) (ch:=fp) J.os un hok J.bare fun b hb=>by
  obtain⟨f0,f1,f2,f3,f4,f5⟩:=hf b hb;exact⟨f3,f1,f4,f5⟩
end
def qjh(J:It)(cap:List (Option Nat))(g:TG)(tc:TT)(te:TE)(σ : St)(H1:Hp)(p:Addr)(K:Hp->Prop): Prop:=
 ∃ W:Nat->Nat->St->Hp->Prop,(∃m,W 0 m (q7f cap σ) (upd H1 p (.lst [])))/\∀i m σ' H',W i m σ' H' ->
  (J.stop i H'/\K H')\/(J.go i H'/\∀x H'',J.yld i H' x H''->g x σ' H'' fun σ2 H2=>tc σ2 H2 fun b H3=>
   if b=true then te σ2 H3 fun y H4=>∃xs,H4 p=some (.lst xs)/\xs.length<sizeLine/\∃m',m'<m/\W (i+1) m' σ2 (upd H4 p (.lst (xs++[y])))
   else ∃m',m'<m/\W (i+1) m' σ2 H3)
def q84(wi:TI)(cap:List (Option Nat))(g:TG)(tc:TT)(te:TE): TE:=fun σ H Q=>wi σ H fun J H1=>∀p,H1 p=none->qjh J cap g tc te σ H1 p (Q (.ref p))
section
variable{X:Cx}{N':List Str}{scope:Scope}{cap:List (Option Nat)}{tg iter elt:Expr}{ifs:List Expr}{wi:TI}{g:TG}{tc:TT}{te:TE}{pos:Pos}
theorem qa6{cl:List (Str×Addr)}{pins:List (Addr×Obj)}{s:Shared}{σ : St}{H:Hp}{it:Addr}{fp:List Addr}{tn:Nat->Heap->Prop}{J:It}{E:Value->Shared->Prop}{K:Addr->Hp->Prop}
  {RR:Value->Addr->Result->Shared->Prop} (hc:X.calm=true) (co:CapOk X N' scope cap)
  (h1:∀x c,cl.lookup x=some c->X.env.cells.lookup x=some c) (h2:∀y∈scope.names,y.2=.free->∃c,cl.lookup y.1=some c)
  (hg:∀cl C s₀ H₀ fp,PG (zl X N' scope cl C s₀ H₀ fp) tg g) (hcs:∀cl C s₀ H₀ fp,q26 (zl X N' scope cl C s₀ H₀ fp) ifs tc) (he:∀cl C s₀ H₀ fp,PE (zl X N' scope cl C s₀ H₀ fp) elt te)
  (I:Inv X pins σ H s) (T:Turn X.prog X.w X.K tg J fp it tn) (st:tn 0 s.heap) (hf:∀b∈fp,q01 X pins H b) (h:∀p,H p=none->qjh J cap g tc te σ H p (K p))
  (hRR:∀(D C:Addr) (s':Shared) (H':Hp),s.heap.objs.size<=C->(∃m,s'.heap.Ns C m)->(∀h',Heap.SameBut C s'.heap h'->Inv X pins σ H' {s' with heap:=h'})->H' C=none->K D H'->RR (.ref D) C (.ok .next) s') :
  wpAny (model X.prog X.w) X.A (newList []) (fun acc s₃=>wpAny (model X.prog X.w) X.A (newFunctionEnv scope X.env.globals cl [] X.env.qual none .none (some X.env)) (fun cenv s₄=>
   codeAny (model X.prog X.w) X.A (.compStart (.ListComp elt [⟨tg,iter,ifs,0⟩] scope pos) 0 (.ref it) acc {cenv with scope:=relabel scope X.env}) (RR acc cenv.locals) s₄) E s₃) E s:=by
 refine pj (wpAny_newFunctionEnv co.cell (by intro y hy;simp at hy) (fun hh hns hsb=>?_) co.kind);have hD:H s.heap.objs.size=none:=I.fresh;have I3:Inv X pins σ (upd H s.heap.objs.size (.lst [])) {s with heap:=s.heap.push {cls:=.type "list",dict:=none,data:=.seq ([]:List Value).toArray} }:=I.lnew (ys:=[]) (its:=[]) (t':=s.toks) .nil (pz _);obtain⟨W,⟨m0,w0⟩,turn⟩:=h s.heap.objs.size hD;have fobj:∀b∈fp,∃o,s.heap.get? b=some o:=fun b hb=>let⟨o,e,_⟩:=T.obj 0 _ st b hb; ⟨o,e⟩
 generalize e3:({s with heap:=s.heap.push {cls:=.type "list",dict:=none,data:=.seq ([]:List Value).toArray} }:Shared)=s3 at I3;have es3:s3.heap=s.heap.push {cls:=.type "list",dict:=none,data:=.seq ([]:List Value).toArray}:=by rw [<- e3]
 have eC:(s.heap.push {cls:=.type "list",dict:=none,data:=.seq ([]:List Value).toArray}).objs.size=s3.heap.objs.size:=by rw [es3]
 have hf3:∀b∈fp,q01 X pins (upd H s.heap.objs.size (.lst [])) b:=fun b hb=>by
  obtain⟨f0,f1⟩:=hf b hb;obtain⟨o,e⟩:=fobj b hb;exact⟨by rw [qu (mj (gv e))];exact f0,f1⟩
 have kp:∀b o,s3.heap.get? b=some o->hh.get? b=some o:=fun b o e=>by
  refine hsb.extBut b o ?_ (gb _ (by rw [<- es3];exact e));show b≠(s.heap.push {cls:=.type "list",dict:=none,data:=.seq ([]:List Value).toArray}).objs.size;rw [eC];exact mj (gv e)
 have hle:s.heap.objs.size<=s3.heap.objs.size:=by rw [es3,g19];exact g0u _
 have s3e:∀t:Nat,({s with heap:=hh,toks:=t}:Shared) = {s3 with heap:=hh,toks:=t}:=fun t=>by rw [<- e3]
 have I4:Inv (zl X N' scope cl s3.heap.objs.size s3 (upd H s.heap.objs.size (.lst [])) fp) [] (q7f cap σ) (upd H s.heap.objs.size (.lst [])) {s3 with heap:=hh,toks:=s.toks+([]:List (Str×Value)).length}:=
  qbk I3 co h1 h2 hf3 (fun b hb=>let⟨o,e⟩:=fobj b hb; ⟨o,by rw [es3];exact gb _ e⟩) (by rw [<- eC];exact hns) kp
 have st4:tn 0 hh:=T.keep 0 _ _ st fun b hb o e=>kp b o (by rw [es3];exact gb _ e);have etk:s3.toks+([]:List (Str×Value)).length=s.toks+([]:List (Str×Value)).length:=by rw [<- e3]
 show codeAny (model X.prog X.w) X.A (.compStart (.ListComp elt [⟨tg,iter,ifs,0⟩] scope pos) 0 (.ref it) (.ref s.heap.objs.size) (compEnvC scope cl s3.heap.objs.size X.env)) (RR (.ref s.heap.objs.size) s3.heap.objs.size)
  {s3 with heap:=hh,toks:=s3.toks+([]:List (Str×Value)).length}
 rw [etk];generalize eX:zl X N' scope cl s3.heap.objs.size s3 (upd H s.heap.objs.size (.lst [])) fp=X' at I4;have hg':PG X' tg g:=by rw [<- eX];exact hg _ _ _ _ _
 have hcs':q26 X' ifs tc:=by rw [<- eX];exact hcs _ _ _ _ _
 have he':PE X' elt te:=by rw [<- eX];exact he _ _ _ _ _
 have eenv:X'.env=compEnvC scope cl s3.heap.objs.size X.env:=by rw [<- eX]
 have exe:X'.xe=fun _ _=>False:=by rw [<- eX]
 have eex:X'.ex=fp:=by rw [<- eX]
 have eprog:X'.prog=X.prog:=by rw [<- eX]
 have ew:X'.w=X.w:=by rw [<- eX]
 have eK:X'.K=X.K:=by rw [<- eX]
 have eA:X'.A=X.A:=by rw [<- eX]
 have ecalm:X'.calm=true:=by rw [<- eX];exact hc
 have epn:X'.pn=[]:=by rw [<- eX]
 have eloc:X'.env.locals=s3.heap.objs.size:=by rw [eenv];rfl
 have ok':=I4.ok;have stat:∀ {H':Hp},(∀b∈fp,H' b=none)->∀b∈fp,q01 X' [] H' b:=fun hn b hb=>by
  have hbx:b∈X'.ex:=by rw [eex];exact hb
  exact⟨hn b hb,(ok'.exf b hbx).1,ok'.exfs b hbx,.inl hbx,(ok'.exf b hbx).2,fun p hp=>by rw [epn] at hp;cases hp⟩
 have back:∀ {σ':St} {H':Hp} {s':Shared},Inv X' [] σ' H' s'->K s.heap.objs.size H'->RR (.ref s.heap.objs.size) s3.heap.objs.size (.ok .next) s':=fun {σ' H' s'} J' k=>by
  refine hRR _ _ _ H' hle ?_ (fun h' hs'=>?_) ?_ k
  ·obtain⟨m,hm,_⟩:=J'.loc
   exact⟨m,by rw [<- eloc];exact hm⟩
  ·rw [<- eX] at J'
   exact q4e I3 hf3 J' hs'
  ·rw [<- eloc];exact J'.free
 have loop:codeAny (model X.prog X.w) X.A (.compLoop (.ListComp elt [⟨tg,iter,ifs,0⟩] scope pos) 0 (.ref it) (.ref s.heap.objs.size) (compEnvC scope cl s3.heap.objs.size X.env)) (RR (.ref s.heap.objs.size) s3.heap.objs.size)
   {s3 with heap:=hh,toks:=s.toks+([]:List (Str×Value)).length}:=by
  refine qdr (fun n s'=>∃i σ' H',Inv X' [] σ' H' s'/\tn i s'.heap/\(∀b∈fp,H' b=none)/\W i n σ' H') ?_ m0 ⟨0,_,_,I4,st4,fun b hb=>(hf3 b hb).1,w0⟩
  rintro n s5 ⟨i, σ5,H5,I5,st5,fr5,w5⟩
  rw [<- eenv];rcases turn i n σ5 H5 w5 with⟨stop,qn⟩|⟨go,step⟩
  ·have:=T.done X' eprog ew eK ecalm i [] s5 σ5 H5 (fun _ _=>False) I5 (stat fr5) st5 stop
   rw [eA] at this;refine thn this fun r s6 ⟨hr,I6⟩=>?_;subst hr;exact back I6 qn
  ·have:=T.item X' eprog ew eK ecalm i [] s5 σ5 H5 (fun _ _=>False) I5 (stat fr5) st5 go
   rw [eA] at this;refine thn this fun r s6 ⟨u,hr,h6⟩=>?_;subst hr;refine thn h6 fun _ s7 ⟨x,H7,I7,r7,y7,st7,fr7⟩=>?_;have I7':=I7.pinned (stat fr7) (T.obj _ _ st7);have hg2:=hg' _ s7 σ5 H7 x u _ I7' r7 (step x H7 y7);rw [exe,eprog,ew,eA] at hg2;refine thn hg2 fun _ s8 ⟨σ8,H8,I8,q8⟩=>?_;have hc2:=hcs' _ s8 σ8 H8 _ I8 q8;rw [exe,eprog,ew,eA] at hc2;refine thn hc2 fun ok s9 ⟨H9,I9,q9⟩=>?_;have again:∀ {H':Hp} {s':Shared} {m':Nat},Inv X' ([]++q1w fp s7.heap) σ8 H' s'->m'<n->W (i+1) m' σ8 H'->∃m,m<n/\∃i σ' H',Inv X' [] σ' H' s'/\tn i s'.heap/\(∀b∈fp,H' b=none)/\W i m σ' H':=fun {H' s' m'} J' hm w'=>by
    refine⟨m',hm,i+1, σ8,H',J'.unpinned,T.keep _ _ _ st7 fun b hb o e=>(J'.pin (b,o) (m9 _ (m9 _ (wm hb e)))).1,fun b hb=>?_,w'⟩;obtain⟨o,e,d⟩:=T.obj _ _ st7 b hb;exact(J'.pin (b,o) (m9 _ (m9 _ (wm hb e)))).2.1
   cases ok with
   | false=>
    rw [ma m5] at q9 ⊢;obtain⟨m',hm,w'⟩:=q9;exact again I9 hm w'
   | true=>
    rw [gy rfl] at q9 ⊢;have he2:=he' _ s9 σ8 H9 _ I9 q9;rw [exe,eprog,ew,eA] at he2;refine thn he2 fun y s10 ⟨yv,H10,I10,r10,xs,hp,hz,m',hm,w'⟩=>?_;have ha2:=q5c (X:=X') ([]++q1w fp s7.heap) s10 σ8 H10 (.ref s.heap.objs.size) [yv] (.ref s.heap.objs.size) [y] (fun _ H'=>H'=upd H10 s.heap.objs.size (.lst (xs++[yv]))) I10 rfl (.cons r10 .nil) ⟨_,xs,yv,rfl,rfl,hp,hz,rfl⟩;rw [exe,eprog,ew,eA] at ha2;refine thn ha2 fun _ s11 ⟨_,H11,I11,_,e11⟩=>?_;subst e11;exact again I11 hm w'
 exact codeAny_compStart_list loop (T.self _ 0 _ _ _ st4 loop)
theorem qlx(hc:X.calm=true)(co:CapOk X N' scope cap)(hi:PI X tg iter wi)
  (hg:∀cl C s₀ H₀ fp,PG (zl X N' scope cl C s₀ H₀ fp) tg g) (hcs:∀cl C s₀ H₀ fp,q26 (zl X N' scope cl C s₀ H₀ fp) ifs tc) (he:∀cl C s₀ H₀ fp,PE (zl X N' scope cl C s₀ H₀ fp) elt te)
  (hs:∀x,foldedSetIterable iter X.env x=pure x:=by intro _;rfl):PE X (.ListComp elt [⟨tg,iter,ifs,0⟩] scope pos) (q84 wi cap g tc te):=by
 intro pins s σ H Q I h;obtain⟨cl,ecl,c1,c2⟩:=q4d (scope:=scope) (env:=X.env) fun y hy hf=>I.ok.has y.1 (co.frees y hy hf);rw [eval_ListComp];refine g16 (use:=none) rfl hs ecl co.kind co.names (me (hi pins s σ H _ I h) (fun v s1 h1=>me h1 (fun itv s2 h2=>?_) fun _ _ e=>e) fun _ _ e=>e);obtain⟨it,fp,tn,J,H2,rfl,I2,T,st2,f2,h2⟩:=h2;refine qa6 (K:=fun p=>Q (.ref p)) (RR:=fun acc C=>compPost (model X.prog X.w) X.A X.xe none (EP X pins σ Q) acc C) hc co c1 c2 hg hcs he I2 T st2 f2 h2 ?_;intro D C s' H' hle ⟨m,hm⟩ hI hC q;exact⟨m,hm,fun h' hs'=>⟨.ref D,H',hI h' hs',rfl,q⟩⟩
end
section
variable{X:Cx}{N':List Str}{scope:Scope}{cap:List (Option Nat)}{tg iter elt:Expr}{ifs:List Expr}{wi:TI}{g:TG}{tc:TT}{te:TE}{pos:Pos}
theorem qfs{i:Nat}{x:Str}{px pe:Pos}(hc:X.calm=true)(hN:X.N.Nodup)(hx0:X.N[i]? = some x)(hx:X.env.scope.names.lookup x=some .local)(co:CapOk X N' scope cap)(hi:PI X tg iter wi)
  (hg:∀cl C s₀ H₀ fp,PG (zl X N' scope cl C s₀ H₀ fp) tg g) (hcs:∀cl C s₀ H₀ fp,q26 (zl X N' scope cl C s₀ H₀ fp) ifs tc) (he:∀cl C s₀ H₀ fp,PE (zl X N' scope cl C s₀ H₀ fp) elt te)
  (hsw:swapsWith (.ListComp elt [⟨tg,iter,ifs,0⟩] scope pe) (some (.Name x px)) pos.line X.env=pure true:=by rfl)
  (hs:∀x,foldedSetIterable iter X.env x=pure x:=by intro _;rfl):PS X (.Assign [.Name x px] (.ListComp elt [⟨tg,iter,ifs,0⟩] scope pe) pos) (qj5 (q84 wi cap g tc te) (q1n i)):=by
 intro pins s σ H D I h;obtain⟨cl,ecl,c1,c2⟩:=q4d (scope:=scope) (env:=X.env) fun y hy hf=>I.ok.has y.1 (co.frees y hy hf);rw [exec_Assign_Name_used _ _ _ _ hsw];refine g8 (g1o (g8 ?_));show wpAny _ X.A (do let _ <- comprehension (.ListComp elt [⟨tg,iter,ifs,0⟩] scope pe) scope X.env _ (newList []) false (eval iter X.env) (some (assign (.Name x px) X.env))) _ _ s;refine g8 (me (g16 (use:=some (assign (.Name x px) X.env)) (Q:=fun _ s'=>SP X pins D .next s') rfl hs ecl co.kind co.names
  (me (hi pins s σ H _ I h) (fun v s1 h1=>me h1 (fun itv s2 h2=>?_) fun _ _ e=>e) fun _ _ e=>e)) (fun _ s' hq=>gf (gf hq)) fun _ _ e=>e)
 obtain⟨it,fp,tn,J,H2,rfl,I2,T,st2,f2,h2⟩:=h2;refine qa6 (K:=fun p H'=>q1n i (.ref p) σ H' D.nx) (RR:=fun acc C=>compPost (model X.prog X.w) X.A X.xe (some (assign (.Name x px) X.env)) (fun _ s'=>SP X pins D .next s') acc C) hc co c1 c2 hg hcs he I2 T st2 f2 h2 ?_;intro Da C s' H' hle ⟨m,hm⟩ hI hC q;have I':Inv X pins σ H' s':=hI s'.heap (Heap.SameBut.refl ..);obtain⟨o,es,ep,ho,hd,hk⟩:=id hm;have hCL:C≠X.env.locals:=g0g (m8 I2.lt hle);have hCf:C∉X.fs:=I2.nofs hle;have I'':Inv X (pins++[(C,o)]) σ H' s':=I'.pins_of fun p hp=>(mz.mp hp).elim (fun z=>I'.pin p (m9 _ z)) fun z=>by
  obtain rfl:p=(C,o):=by simpa using z
  exact⟨ho,hC,hCL,hCf,fun v z=>by rw [hd] at z;cases z⟩
 show wpAny (model X.prog X.w) X.A (assign (.Name x px) X.env (.ref Da)) _ _ _;refine wpAny_assign_Name (q4b I'' hN hx0 (.inl hx) (v:=.ref Da) rfl (fun s'' J=>?_) (.inr hx));have hC2:s''.heap.get? C=some o:=(J.pin (C,o) (m9 _ (m9 _ gd))).1;refine⟨m,⟨o,es,ep,hC2,hd,hk⟩,fun h' hs'=>?_⟩;have J2:Inv X pins (σ.set i (some (.ref Da))) H' {s'' with heap:=h'}:=J.unpinned.turned (t':=s''.toks) (it:=C) (fun b ob hb e=>(hs'.2 b hb).trans e) hC hCL
  (.inr (mm I2.sz hle)) (fun y c e z=>by
   obtain⟨v,q2⟩:=I2.cell y c e;exact absurd (m8 q2.lt (by rw [z];exact hle)) (p8 _)) fun p hp z=>by
   exact absurd (m8 (gv (I2.pin p hp).1) (by rw [z];exact hle)) (p8 _)
 exact⟨_,H',J2,q⟩
end
end L2
namespace DL
open PySem PySem.Spec PyProof.Rows L2
structure ExcC(K:PySem.W.Frag)(D:Addr): Prop where
 ga:PySem.W.findIn K (.ref D) "__getattribute__" = some (some (.builtin "BaseException.__getattribute__"))
 gk:PySem.W.findIn K (.ref D) "__getattr__" = some none
 cc:PySem.W.findIn K (.ref D) "__class__" = some (some (.builtin "object.__class__"))
 cs:PySem.W.specialIn K (.builtin "object.__class__") "__get__" = some (some (.builtin "getset_descriptor.__get__"))
 ct:PySem.W.takesIn K (.builtin "object.__class__")=some true
 cm:PySem.W.mroIn K D (.type "object")=some true
 cb:PySem.W.mroIn K D (.type "BaseException")=some true
section
variable{prog:Program}{w:World}{A:Around}{E:Value->Shared->Prop}{K:PySem.W.Frag}{s:Shared}{x D:Addr}{od:Option Addr}{ox:Obj}
open PySem.W in
theorem q96(c:ExcC K D): (clsIn K D).isSome=true:=by
 have:=c.cm;unfold mroIn at this;cases q:clsIn K D with
 | none=>rw [q] at this;cases this
 | some cd=>rfl
def XE(a C:Addr)(od:Option Addr)(h:Heap): Prop:=∃o vs,h.get? a=some o/\o.cls=.ref C/\o.dict=od/\o.data=.fields vs
open PySem.W in
theorem q2n{M:Model}{a C:Addr}{od:Option Addr}{h:Heap}(e:XE a C od h): Looks M h (typeOf (.ref a)) (.ref C):=by
 obtain⟨o,vs,e1,e2,_,e3⟩:=e;exact e2 ▸ (Looks.ld e1).andThen .now
open PySem.W Builtin.ObjectAttr in
theorem qly{M:Model}{h:Heap}(c:ExcC K D)(X:K.In h): Looks M h (find (.ref x) (.ref D) "__class__") (.bind (.builtin "getset_descriptor.__get__") (.builtin "object.__class__")):=by
 refine(looks_findIn (M:=M) X c.cc).andThen ((looks_specialIn (M:=M) X c.cs).andThen ?_);exact(show Looks M h (dataDescriptor? (some (.builtin "object.__class__")) (some (.builtin "getset_descriptor.__get__"))) (some (.builtin "getset_descriptor.__get__",.builtin "object.__class__")) from(looks_takesIn (M:=M) X c.ct).andThen .now).andThen (Looks.tag .now)
open PySem.W Builtin Builtin.ObjectAttr Builtin.Getset_descriptor in
theorem qo8{tp:Value}{R:Result->Shared->Prop}(c:ExcC K D)(X:K.In s.heap)(I:XE x D od s.heap)(h:R (.ok (.ret (.ref D))) s):
  codeAny (model prog w) A (.call (.builtin "getset_descriptor.__get__") ⟨[.builtin "object.__class__",.ref x,tp],[]⟩) R s:=by
 obtain⟨hh,g,dr,t,os⟩:=s;have L0:=q2n (M:=model prog w) I;have L1:=looks_mroIn (M:=model prog w) X c.cm;refine tm KF.slot_gs.plain KF.entry_gs (KF.slot_gs.check _ _ _ _ _ _ _ _ KF.type_class (KF.args_gs _ _ _) ?_);unfold Builtin.«getset_descriptor.__get__» descrGet;rw [dga_obj];refine g8 (gf ?_);unfold descrGetter descrCheckInstance descrNameAndClass isInstance;simp only [KF.owner_class]
 repeat lk
 refine⟨g17 _ (by decide +kernel),ug KF.entry_class ?_⟩;unfold Builtin.«object.__class__» shownTypeOf
 repeat lk
 exact h
open PySem.W in
theorem qji{tk:Tok}{Q:Fin->Shared->Prop}(c:ExcC K D)(X:K.In s.heap)(I:XE x D od s.heap)(hq:Q (.done (.ret (.ref D))) s):
  wpAny (model prog w) A (Builtin.«object.__getattribute__» ⟨[.ref x,.str "__class__" tk],[]⟩) Q E s:=by
 obtain⟨hh,g,dr,t,os⟩:=s;have L0:=q2n (M:=model prog w) I;have L1:=qly (x:=x) (M:=model prog w) c X;unfold Builtin.«object.__getattribute__»;refine g8 (gf (g8 (gf (g8 (L0.at (g8 (L1.at ?_)))))));show wpAny _ _ (Builtin.ObjectAttr.bindTo _ _ _ _) _ _ _;unfold Builtin.ObjectAttr.bindTo;refine g8 (t4 (ud (qo8 c X I ?_)));exact gf hq
open PySem.W in
theorem qbl{M:Model}{nameV:Value}{Q:Unit->Shared->Prop}(c:ExcC K D)(X:K.In s.heap)(I:XE x D od s.heap)(hq:Q () s): wpAny M A (checkBuiltinCall "BaseException.__getattribute__" ⟨[.ref x,nameV],[]⟩) Q E s:=by
 obtain⟨hh,g,dr,t,os⟩:=s;have L0:=q2n (M:=M) I;have L1:=looks_mroIn (M:=M) X c.cb;have hk:builtinKind "BaseException.__getattribute__" = some .slot:=by decide +kernel
 have hsplit:splitId "BaseException.__getattribute__" = some ("BaseException","__getattribute__"):=by decide +kernel
 have ha:=F.args_bexc_ga (.ref x) nameV;simp only [checkBuiltinCall,hk,hsplit];refine g8 ?_;unfold isInstance;refine g8 (L0.at (L1.at ?_))
 repeat (first|wp_step)
 exact hq
open PySem.W in
theorem qjj{Q:Option Value->Shared->Prop}(c:ExcC K D)(X:K.In s.heap)(I:XE x D od s.heap)(h:Q (some (.ref D)) {s with toks:=s.toks+1}): wpAny (model prog w) A (getAttr? (.ref x) "__class__") Q E s:=by
 obtain⟨hh,g,dr,t,os⟩:=s;have L0:=q2n (M:=model prog w) I;have L1:=looks_findIn (M:=model prog w) X c.ga;have L2:=looks_findIn (M:=model prog w) X c.gk;have f3:=ue.ga.bind (.ref x);unfold getAttr? getAttrBy? getAttrBy;refine g8 (wpAny_mkText (g8 (wpAny_attempt (t4 (g8 (L0.at (g8 (L1.at ?_))))))));show wpAny _ _ (getAttrByItsOwn _ _ _ _ _ _) _ _ _;unfold getAttrByItsOwn hookBefore;rw [gy (show onTheHeap (Value.ref D)=true from rfl)];refine g8 (L2.at ?_);refine g8 (wpAny_attempt (t4 ?_));unfold callGetattribute boundAndCalled;rw [ma (by decide)];rw [f3];refine g8 (gf ?_);refine ud (tm ue.ga.plain F.entry_bexc_ga (qbl c X I (qji c X I ?_)));dsimp only;exact handed_on rfl (gf h)
theorem qbm(c:ExcC K D): PySem.W.KitX K (.ref x) (.ref D) (XE x D od) where
 ty:=fun M h _ e=>q2n e
 it:=fun _ _ X _=>by
  obtain⟨cdD,hcD⟩:=uy.mp (q96 c);unfold PySem.W.clsIn at hcD
  split at hcD
  ·rename_i c' d' cd' sl' ho
   intro A' Q' E' s' k q;unfold isType loadHead;exact g8 (wpAny_loadPart (k _ _ (X _ _ ho)) (gf q))
  ·cases hcD
 ne:=fun h tp dd its n sl X htp=>by
  obtain⟨cdD,hcD⟩:=uy.mp (q96 c);refine Bool.eq_false_iff.mpr fun q=>?_;have e:D=tp:=Value.ref.inj (t5.mp q);subst e;unfold PySem.W.clsIn at hcD
  split at hcD
  ·rename_i c' d' cd' sl' ho
   have z:=(X _ _ ho).symm.trans htp;cases z
  ·cases hcD
 ca:=fun X e k=>qjj c X e k
end
def yk(K:PySem.W.Frag)(C:Addr): Prop:=ExcC K C/\∀T:String,T∈["int","bool","tuple","list","str","dict"]->PySem.W.kitOne K (.ref C) (.type T)=some false
inductive D where
 | non
 | bl (b:Bool)
 | int (i:Int)
 | str (x:Str)
 | tup (ds:List D)
 | lst (ds:List D)
 | dct (ks:List Key) (vs:List D)
 | dtt (ks:List (List Int)) (vs:List D)
 | obj (x:Str)
 | exc (x:Str) (f:Option (Str×Int))
abbrev Frag:=PySem.W.Frag
abbrev St:=L2.St
def qo9(K:Frag)(C:Addr): Prop:=PySem.W.plainGet K C "__class__" = true/\PySem.W.hasDictIn K C=true/\PySem.W.findIn K (.ref C) "__class__" = some (some (.builtin "object.__class__")) /\
 PySem.W.specialIn K (.builtin "object.__class__") "__get__" = some (some (.builtin "getset_descriptor.__get__"))/\PySem.W.takesIn K (.builtin "object.__class__")=some true/\PySem.W.mroIn K C (.type "object")=some true /\
 ∀T:String,T∈["int","bool","tuple","list","str","dict"]->PySem.W.kitOne K (.ref C) (.type T)=some false
def qr7(x:List Int×Addr×Value): DictEntry:=⟨reduceHash (Builtin.Tuple.tupleHashOf (x.1.map hashInt)),.ref x.2.1,x.2.2⟩
def DE(a:Addr)(xs:List (List Int×Addr×Value))(ep:Nat)(h:Heap): Prop:=∃o es,h.get? a=some o/\o.ExactDict/\o.data=.dict es ep/\es.toList=xs.map qr7
def XF(H:Hp): Option Addr->Option (Str×Int)->Prop
 | none,none=>True
 | some dx,some p=>H dx=some (.xd [(p.1,.int p.2)])
 | _,_=>False
theorem XF.mono{H H':Hp}(e:Same H H'): ∀ {od:Option Addr} {f:Option (Str×Int)},XF H od f->XF H' od f
 | none,none,_=>trivial
 | some _,some _,h=>e _ _ h
 | none,some _,h=>h
 | some _,none,h=>h
mutual
/-- v stands for the datum in the heap H -/
def Rep(K:Frag)(H:Hp): D->V->Prop
 | .non,v=>v=.non
 | .bl b,v=>v=.bl b
 | .int i,v=>v=.int i
 | .str x,v=>v=.str x
 | .tup ds,v=>∃a xs,v=.ref a/\SqT K H a xs/\RepL K H ds xs
 | .lst ds,v=>∃a xs,v=.ref a/\SqL K H a xs/\RepL K H ds xs
 | .dct ks vs,v=>∃a xs,v=.ref a/\H a=some (.dK (ks.zip xs))/\ks.length=xs.length/\RepL K H vs xs
 | .dtt ks vs,v=>∃a xs ys ep,v=.ref a/\H a=some (.ext (DE a xs ep))/\xs.map (·.1)=ks/\ks.Nodup/\xs.length<=sizeLine/\(a==sysModules)=false/\(∀x∈xs,SqT K H x.2.1 (x.1.map V.int))/\Vals ys (xs.map fun x=>x.2.2)/\RepL K H vs ys
 | .obj x,v=>∃a dx C,v=.ref a/\H a=some (.ins C dx [])/\PySem.W.nsIn K mainGlobals x=some (some (.ref C))/\qo9 K C
 | .exc x f,v=>∃a C,v=.ref a/\(∃od,H a=some (.ext (XE a C od))/\XF H od f)/\PySem.W.nsIn K mainGlobals x=some (some (.ref C))/\yk K C
def RepL(K:Frag)(H:Hp): List D->List V->Prop
 | [],xs=>xs=[]
 | d :: ds,xs=>∃x r,xs=x :: r/\Rep K H d x/\RepL K H ds r
end
theorem z9{K:Frag}{H H':Hp}{a:Addr}{xs:List V}(e:Same H H')(h:SqT K H a xs): SqT K H' a xs:=by
 rcases h with(h|⟨o,h⟩)|h
 ·exact .inl (.inl (e _ _ h))
 ·exact .inl (.inr ⟨o,e _ _ h⟩)
 ·exact .inr h
mutual
theorem Rep.mono{K:Frag}{H H':Hp}(e:Same H H'): ∀ {d:D} {v:V},Rep K H d v->Rep K H' d v
 | .non,v,h=>by simpa only [Rep] using h
 | .bl b,v,h=>by simpa only [Rep] using h
 | .int i,v,h=>by simpa only [Rep] using h
 | .str x,v,h=>by simpa only [Rep] using h
 | .tup ds,v,h=>by
  simp only [Rep] at h ⊢;obtain⟨a,xs,e1,e2,e3⟩:=h;exact⟨a,xs,e1,z9 e e2,RepL.mono e e3⟩
 | .lst ds,v,h=>by
  simp only [Rep] at h ⊢;obtain⟨a,xs,e1,e2,e3⟩:=h;exact⟨a,xs,e1,e.seq e2,RepL.mono e e3⟩
 | .dct ks vs,v,h=>by
  simp only [Rep] at h ⊢;obtain⟨a,xs,e1,e2,e3,e4⟩:=h;exact⟨a,xs,e1,e _ _ e2,e3,RepL.mono e e4⟩
 | .dtt ks vs,v,h=>by
  simp only [Rep] at h ⊢;obtain⟨a,xs,ys,ep,e1,e2,e3,e4,e5,e6,e7,e8,e9⟩:=h;exact⟨a,xs,ys,ep,e1,e _ _ e2,e3,e4,e5,e6,fun x hx=>z9 e (e7 x hx),e8,RepL.mono e e9⟩
 | .obj x,v,h=>by
  simp only [Rep] at h ⊢;obtain⟨a,dx,C,e1,e2,e3⟩:=h;exact⟨a,dx,C,e1,e _ _ e2,e3⟩
 | .exc x f,v,h=>by
  simp only [Rep] at h ⊢;obtain⟨a,C,e1,⟨od,e2,e4⟩,e3⟩:=h;exact⟨a,C,e1,⟨od,e _ _ e2,e4.mono e⟩,e3⟩
theorem RepL.mono{K:Frag}{H H':Hp}(e:Same H H'): ∀ {ds:List D} {xs:List V},RepL K H ds xs->RepL K H' ds xs
 | [],xs,h=>by simpa only [RepL] using h
 | d :: ds,xs,h=>by
  simp only [RepL] at h ⊢;obtain⟨x,r,e1,e2,e3⟩:=h;exact⟨x,r,e1,Rep.mono e e2,RepL.mono e e3⟩
end
section
variable{K:Frag}{H:Hp}
theorem RepL.nil:RepL K H [] []:=by simp only [RepL]
theorem RepL.cons{d:D}{ds:List D}{x:V}{xs:List V}(h:Rep K H d x)(t:RepL K H ds xs): RepL K H (d :: ds) (x :: xs):=by
 simp only [RepL];exact⟨x,xs,rfl,h,t⟩
theorem RepL.nil_inv{xs:List V}(h:RepL K H [] xs): xs=[]:=by simpa only [RepL] using h
theorem RepL.cons_inv{d:D}{ds:List D}{xs:List V}(h:RepL K H (d :: ds) xs): ∃x r,xs=x :: r/\Rep K H d x/\RepL K H ds r:=by simpa only [RepL] using h
theorem RepL.length:∀ {ds:List D} {xs:List V},RepL K H ds xs->ds.length=xs.length
 | [],xs,h=>by rw [h.nil_inv];rfl
 | d :: ds,xs,h=>by
  obtain⟨x,r,rfl,_,t⟩:=h.cons_inv;simp [RepL.length t]
theorem RepL.append:∀ {ds es:List D} {xs ys:List V},RepL K H ds xs->RepL K H es ys->RepL K H (ds++es) (xs++ys)
 | [],es,xs,ys,h,t=>by rw [h.nil_inv];exact t
 | d :: ds,es,xs,ys,h,t=>by
  obtain⟨x,r,rfl,h1,h2⟩:=h.cons_inv;exact .cons h1 (RepL.append h2 t)
theorem RepL.get:∀ {ds:List D} {xs:List V} {i:Nat} {d:D},RepL K H ds xs->ds[i]? = some d->∃x,xs[i]? = some x/\Rep K H d x
 | [],xs,i,d,h,e=>by simp at e
 | d :: ds,xs,0,d',h,e=>by
  obtain⟨x,r,rfl,h1,h2⟩:=h.cons_inv;simp at e;subst e;exact⟨x,rfl,h1⟩
 | d :: ds,xs,i+1,d',h,e=>by
  obtain⟨x,r,rfl,h1,h2⟩:=h.cons_inv;obtain⟨y,e1,e2⟩:=RepL.get (i:=i) h2 (by simpa using e);exact⟨y,by simpa using e1,e2⟩
theorem RepL.take:∀ {ds:List D} {xs:List V} (n:Nat),RepL K H ds xs->RepL K H (ds.take n) (xs.take n)
 | _,_,0,_=>by simp only [g2a];exact .nil
 | [],xs,n+1,h=>by rw [h.nil_inv];exact .nil
 | d :: ds,xs,n+1,h=>by
  obtain⟨x,r,rfl,h1,h2⟩:=h.cons_inv;exact .cons h1 (RepL.take n h2)
theorem RepL.drop:∀ {ds:List D} {xs:List V} (n:Nat),RepL K H ds xs->RepL K H (ds.drop n) (xs.drop n)
 | ds,xs,0,h=>by simpa only [ux] using h
 | [],xs,n+1,h=>by rw [h.nil_inv];exact .nil
 | d :: ds,xs,n+1,h=>by
  obtain⟨x,r,rfl,h1,h2⟩:=h.cons_inv;exact RepL.drop n h2
theorem RepL.ints:∀ {ns:List Int} {xs:List V},RepL K H (ns.map D.int) xs↔xs=ns.map V.int
 | [],xs=>by simp only [g0h,RepL]
 | n :: ns,xs=>by
  simp only [m7,RepL]
  constructor
  ·rintro⟨x,r,rfl,h1,h2⟩
   simp only [Rep] at h1;rw [h1,RepL.ints.mp h2]
  ·rintro rfl
   exact⟨_,_,rfl,by simp only [Rep],RepL.ints.mpr rfl⟩
theorem rep_int{i:Int}{v:V}: Rep K H (.int i) v↔v=.int i:=by simp only [Rep]
theorem rep_bl{i:Bool}{v:V}: Rep K H (.bl i) v↔v=.bl i:=by simp only [Rep]
theorem rep_str{i:Str}{v:V}: Rep K H (.str i) v↔v=.str i:=by simp only [Rep]
theorem rep_non{v:V}: Rep K H .non v↔v=.non:=by simp only [Rep]
theorem rep_tup{ds:List D}{v:V}: Rep K H (.tup ds) v↔∃a xs,v=.ref a/\SqT K H a xs/\RepL K H ds xs:=by simp only [Rep]
theorem rep_lst{ds:List D}{v:V}: Rep K H (.lst ds) v↔∃a xs,v=.ref a/\SqL K H a xs/\RepL K H ds xs:=by simp only [Rep]
theorem rep_dct{ks:List Key}{vs:List D}{v:V}: Rep K H (.dct ks vs) v↔∃a xs,v=.ref a/\H a=some (.dK (ks.zip xs))/\ks.length=xs.length/\RepL K H vs xs:=by simp only [Rep]
theorem rep_dtt{ks:List (List Int)}{vs:List D}{v:V}: Rep K H (.dtt ks vs) v↔∃a xs ys ep,v=.ref a/\H a=some (.ext (DE a xs ep))/\xs.map (·.1)=ks/\ks.Nodup/\xs.length<=sizeLine/\(a==sysModules)=false/\(∀x∈xs,SqT K H x.2.1 (x.1.map V.int))/\Vals ys (xs.map fun x=>x.2.2)/\RepL K H vs ys:=by simp only [Rep]
theorem rep_exc{x:Str}{f:Option (Str×Int)}{v:V}: Rep K H (.exc x f) v↔∃a C,v=.ref a/\(∃od,H a=some (.ext (XE a C od))/\XF H od f)/\PySem.W.nsIn K mainGlobals x=some (some (.ref C))/\yk K C:=by simp only [Rep]
theorem rep_obj{x:Str}{v:V}: Rep K H (.obj x) v↔∃a dx C,v=.ref a/\H a=some (.ins C dx [])/\PySem.W.nsIn K mainGlobals x=some (some (.ref C))/\qo9 K C:=by simp only [Rep]
end
class Lam where
 tab:List (Addr×Str)
class Pin where
 pin:Option Addr
instance (priority:=low) pin0:Pin:=⟨none⟩
variable[Lam][Pin]
def Tab(H:Hp): Prop:=∀p∈Lam.tab,∃ps,H p.1=some (.tbl ps)/\TriplesOk ps.toList/\∀pos cv,codeAmong pos ps.toList=some cv->∃c φ,cv=.ref c/\H c=some (.ext φ)/\∀h, φ h->h.CodeRec (.ref c) p.2
def qjk(F:Hp): Prop:=∀p∈Lam.tab,F p.1=none
theorem Tab.updG{H:Hp}(t:Tab H){p:Addr}{o:HO}(h:∀u,H p=some u->(∀ps,u ≠ .tbl ps)/\∀ φ,u ≠ .ext φ): Tab (upd H p o):=fun q hq=>by
 obtain⟨ps,e,ht,k⟩:=t q hq;refine⟨ps,by rw [qu (fun z=>by subst z;exact(h _ e).1 ps rfl)];exact e,ht,fun pos cv z=>?_⟩;obtain⟨c, φ,e1,e2,e3⟩:=k pos cv z;exact⟨c, φ,e1,by rw [qu (fun z=>by subst z;exact(h _ e2).2 φ rfl)];exact e2,e3⟩
theorem Tab.upd{H:Hp}(t:Tab H){p:Addr}{o:HO}(h:H p=none\/∃xs,H p=some (.lst xs)): Tab (upd H p o):=t.updG fun u e=>by
 rcases h with h|⟨xs,h⟩
 ·rw [h] at e;cases e
 ·rw [h] at e;cases e;exact⟨nofun,nofun⟩
abbrev KO:=(Addr×Addr×List (Str×V)) ⊕ List (Key×V)
def KO.ho:KO->HO
 | .inl u=>.ins u.1 u.2.1 u.2.2
 | .inr k=>.dK k
structure Kept(H H':Hp): Prop where
 lst:∀b xs,H b=some (.lst xs)->H' b=some (.lst xs)
 ext:∀b φ,H b=some (.ext φ)->H' b=some (.ext φ)
 free:∀ {b},H' b=none->H b=none
 tb:Tab H->Tab H'
 dk:∀b (u:KO),H b=some u.ho->H' b=some u.ho
theorem Kept.refl(H:Hp): Kept H H:=⟨fun _ _ e=>e,fun _ _ e=>e,fun e=>e,fun t=>t,fun _ _ e=>e⟩
theorem Kept.trans{H H1 H2:Hp}(a:Kept H H1)(b:Kept H1 H2): Kept H H2:=⟨fun c xs e=>b.lst c xs (a.lst c xs e),fun c φ e=>b.ext c φ (a.ext c φ e),fun e=>a.free (b.free e),fun t=>b.tb (a.tb t),fun c kvs e=>b.dk c kvs (a.dk c kvs e)⟩
theorem Kept.new{H:Hp}{p:Addr}{o:HO}(hp:H p=none): Kept H (upd H p o):=⟨fun b xs e=>by rw [qu (xx e hp)];exact e,fun b φ e=>by rw [qu (xx e hp)];exact e,fun {b} e=>by
 by_cases z:b=p
 ·subst z;exact hp
 ·rw [qu z] at e;exact e,fun t=>t.upd (.inl hp),fun b kvs e=>by rw [qu (xx e hp)];exact e⟩
structure SameT(F H:Hp): Prop where
 s:Same F H
 t:Tab H
 f:qjk F
structure Grow(F H F' H':Hp): Prop where
 ff:Same F F'
 hh:Kept H H'
 fh:Same F' H'
 nw:∀b,F' b≠none->F b≠none\/H b=none
theorem Grow.refl{F H:Hp}(h:Same F H): Grow F H F H:=⟨.refl _,.refl _,h,fun _ h=>.inl h⟩
theorem Grow.trans{F H F1 H1 F2 H2:Hp}(a:Grow F H F1 H1)(b:Grow F1 H1 F2 H2): Grow F H F2 H2:=
 ⟨a.ff.trans b.ff,a.hh.trans b.hh,b.fh,fun c h=>(b.nw c h).elim (fun z=>a.nw c z) fun z=>.inr (a.hh.free z)⟩
theorem yr{H:Hp}{p:Addr}{o:HO}(h:H p=none): Same H (upd H p o):=fun b u q=>by rw [qu (xx q h)];exact q
theorem qho{F H:Hp}{p:Addr}{o:HO}(h:Same F H): Same (upd F p o) (upd H p o):=fun b u q=>by
 unfold upd at q ⊢
 split
 ·rename_i z;rw [gy z] at q;exact q
 ·rename_i z;rw [ma z] at q;exact h _ _ q
theorem Grow.new{F H:Hp}{p:Addr}{o:HO}(h:Same F H)(hp:H p=none): Grow F H (upd F p o) (upd H p o):=
 ⟨yr (h.free hp),.new hp,qho h,fun b hb=>by
  by_cases e:b=p
  ·subst e;exact .inr hp
  ·rw [qu e] at hb;exact .inl hb⟩
theorem Grow.own{F H:Hp}{p:Addr}{o:HO}(h:Same F H)(hp:H p=none): Grow F H F (upd H p o):=
 ⟨.refl _,.new hp,h.trans (yr hp),fun _ h=>.inl h⟩
inductive B where
 | fz (d:D)
 | ow (ds:List D)
 | od (kvs:Str×List (Str×D))
abbrev Rho:=List (Option B)
def FsR(K:Frag)(F:Hp): List (Str×D)->List (Str×V)->Prop
 | [],vs=>vs=[]
 | p :: fs,vs=>∃v r,vs=(p.1,v) :: r/\Rep K F p.2 v/\FsR K F fs r
omit [Lam] [Pin] in
theorem FsR.mono{K:Frag}{F F':Hp}(s:Same F F'): ∀ {fs:List (Str×D)} {vs:List (Str×V)},FsR K F fs vs->FsR K F' fs vs
 | [],_,h=>h
 | p :: fs,_,⟨v,r,e,h1,h2⟩=>⟨v,r,e,h1.mono s,FsR.mono s h2⟩
structure ODt(K:Frag)(F H H0:Hp)(a:Addr)(bs:List Addr)(kvs:Str×List (Str×D)): Prop where
 nb:bs=[]
 ex:∃C dx vs,H a=some (.ins C dx vs)/\PySem.W.nsIn K mainGlobals kvs.1=some (some (.ref C))/\FsR K F kvs.2 vs
 f:F a=none
 z:H0 a=none
 pn:∀p,Pin.pin=some p->a=p
structure RS(K:Frag)(F0 H0 F H:Hp)(σ : St)(ρ : Rho): Prop where
 t0:Tab H0/\qjk F0
 g:Grow F0 H0 F H
 len : σ.length = ρ.length
 fz:∀(i:Nat) (d:D), ρ[i]? = some (some (.fz d))->∃v, σ[i]? = some (some v)/\Rep K F d v
 ow:∀(i:Nat) (ds:List D), ρ[i]? = some (some (.ow ds))->∃a xs, σ[i]? = some (some (.ref a))/\H a=some (.lst xs)/\F a=none/\H0 a=none/\RepL K F ds xs
 dj:∀(i j:Nat) (ds es:List D) (a:Addr),i≠j -> ρ[i]? = some (some (.ow ds)) -> ρ[j]? = some (some (.ow es)) -> σ[i]? = some (some (.ref a)) -> σ[j]? ≠ some (some (.ref a))
 od:∀(i:Nat) (kvs:Str×List (Str×D)), ρ[i]? = some (some (.od kvs))->∃a bs, σ[i]? = some (some (.ref a))/\ODt K F H H0 a bs kvs/\∀(j:Nat) (es:List D) (b:Addr), ρ[j]? = some (some (.ow es))->b∈bs -> σ[j]? ≠ some (some (.ref b))
 o1:∀(i j:Nat) (k1 k2:Str×List (Str×D)), ρ[i]? = some (some (.od k1)) -> ρ[j]? = some (some (.od k2))->i=j
theorem qeb{F H F' H':Hp}{a:Addr}{o:HO}(g:Grow F H F' H')(h1:F a=none)(h2:H a=some o): F' a=none:=by
 cases q:F' a with
 | none=>rfl
 | some o=>
  rcases g.nw a (by rw [q];simp) with z|z
  ·exact absurd h1 z
  ·rw [h2] at z;cases z
theorem ODt.mem{K:Frag}{F H H0:Hp}{a:Addr}{bs:List Addr}{kvs:Str×List (Str×D)}(o:ODt K F H H0 a bs kvs){b:Addr}(h:b∈bs): ∃xs,H b=some (.lst xs)/\F b=none/\H0 b=none:=by
 rw [o.nb] at h;cases h
theorem ODt.nl{K:Frag}{F H H0:Hp}{a:Addr}{bs:List Addr}{kvs:Str×List (Str×D)}(o:ODt K F H H0 a bs kvs){xs:List V}(h:H a=some (.lst xs)): False:=by
 obtain⟨C,dx,vs,e,_⟩:=o.ex;rw [h] at e;cases e
theorem ODt.grow{K:Frag}{F H F' H' H0:Hp}{a:Addr}{bs:List Addr}{kvs:Str×List (Str×D)}(o:ODt K F H H0 a bs kvs)(g:Grow F H F' H'): ODt K F' H' H0 a bs kvs:=by
 obtain⟨C,dx,vs,e1,e2,e3⟩:=o.ex;exact⟨o.nb,⟨C,dx,vs,g.hh.dk a (.inl (C,dx,_)) e1,e2,e3.mono g.ff⟩,qeb g o.f e1,o.z,o.pn⟩
theorem ODt.other{K:Frag}{F H H0:Hp}{a p:Addr}{bs:List Addr}{kvs:Str×List (Str×D)}{u:HO}(o:ODt K F H H0 a bs kvs)(h1:p≠a)(h2:p∉bs): ODt K F (upd H p u) H0 a bs kvs:=by
 obtain⟨C,dx,vs,e1,e2,e3⟩:=o.ex;exact⟨o.nb,⟨C,dx,vs,by rw [qu (m4 h1)];exact e1,e2,e3⟩,o.f,o.z,o.pn⟩
theorem ODt.otherF{K:Frag}{F H H0:Hp}{a p:Addr}{bs:List Addr}{kvs:Str×List (Str×D)}{u:HO}(o:ODt K F H H0 a bs kvs)(hs:Same F (upd F p u))(h1:p≠a)(h2:p∉bs): ODt K (upd F p u) H H0 a bs kvs:=by
 obtain⟨C,dx,vs,e1,e2,e3⟩:=o.ex;exact⟨o.nb,⟨C,dx,vs,e1,e2,e3.mono hs⟩,by rw [qu (m4 h1)];exact o.f,o.z,o.pn⟩
section
variable{K:Frag}{F0 H0 F H F' H':Hp}{σ : St}{ρ : Rho}
theorem RS.fh(r:RS K F0 H0 F H σ ρ): Same F H:=r.g.fh
theorem RS.tab(r:RS K F0 H0 F H σ ρ): Tab H:=r.g.hh.tb r.t0.1
theorem RS.tabF(r:RS K F0 H0 F H σ ρ): qjk F:=fun p hp=>by
 cases q:F p.1 with
 | none=>rfl
 | some o=>
  rcases r.g.nw p.1 (by rw [q];simp) with z|z
  ·exact absurd (r.t0.2 p hp) z
  ·obtain⟨ps,e,_⟩:=r.t0.1 p hp
   rw [e] at z;cases z
theorem RS.grow(r:RS K F0 H0 F H σ ρ)(g:Grow F H F' H'): RS K F0 H0 F' H' σ ρ where
 t0:=r.t0
 g:=r.g.trans g
 len:=r.len
 fz:=fun i d e=>let⟨v,e1,e2⟩:=r.fz i d e; ⟨v,e1,e2.mono g.ff⟩
 ow:=fun i ds e=>by
  obtain⟨a,xs,e1,e2,e3,e4,e5⟩:=r.ow i ds e;refine⟨a,xs,e1,g.hh.lst _ _ e2,?_,e4,e5.mono g.ff⟩;cases q:F' a with
  | none=>rfl
  | some o=>
   rcases g.nw a (by rw [q];simp) with z|z
   ·exact absurd e3 z
   ·rw [e2] at z;cases z
 dj:=r.dj
 od:=fun i kvs e=>let⟨a,bs,e1,e2,e3⟩:=r.od i kvs e; ⟨a,bs,e1,e2.grow g,e3⟩
 o1:=r.o1
theorem RS.sameT(r:RS K F0 H0 F H σ ρ)(g:Grow F H F' H'): SameT F' H':=⟨g.fh,(r.grow g).tab,(r.grow g).tabF⟩
theorem z0{α : Type}{l:List α}{i:Nat}{x y : α}(h:(l.set i x)[i]? = some y): y=x/\i<l.length:=by
 rw [g0d] at h;simp only [pd] at h
 split at h
 ·exact⟨(n3 h).symm,by assumption⟩
 ·cases h
theorem RS.set(r:RS K F0 H0 F H σ ρ){d:D}{v:V}(i:Nat)(h:Rep K F d v): RS K F0 H0 F H (σ.set i (some v)) (ρ.set i (some (.fz d))) where
 t0:=r.t0
 g:=r.g
 len:=by rw [n9,n9];exact r.len
 fz:=fun j e h1=>by
  by_cases q:j=i
  ·subst q
   obtain⟨z,l⟩:=z0 h1;cases z;exact⟨v,by rw [g0d];simp [r.len,l],h⟩
  ·rw [g9 (m4 q)] at h1 ⊢
   exact r.fz j e h1
 ow:=fun j ds h1=>by
  by_cases q:j=i
  ·subst q
   obtain⟨z,l⟩:=z0 h1;cases z
  ·rw [g9 (m4 q)] at h1 ⊢
   exact r.ow j ds h1
 dj :=fun j k ds es a hjk h1 h2 h3=>by
  by_cases q:j=i
  ·subst q
   obtain⟨z,l⟩:=z0 h1;cases z
  ·by_cases q2:k=i
   ·subst q2
    obtain⟨z,l⟩:=z0 h2;cases z
   ·rw [g9 (m4 q)] at h1 h3
    rw [g9 (m4 q2)] at h2 ⊢;exact r.dj j k ds es a hjk h1 h2 h3
 od :=fun j kvs h1=>by
  by_cases q:j=i
  ·subst q
   obtain⟨z,l⟩:=z0 h1;cases z
  ·rw [g9 (m4 q)] at h1 ⊢
   obtain⟨a,bs,e1,e2,e3⟩:=r.od j kvs h1;refine⟨a,bs,e1,e2,fun k es b h2 h3=>?_⟩
   by_cases q2:k=i
   ·subst q2
    obtain⟨z,l⟩:=z0 h2;cases z
   ·rw [g9 (m4 q2)] at h2 ⊢
    exact e3 k es b h2 h3
 o1 :=fun j k k1 k2 h1 h2=>by
  by_cases q:j=i
  ·subst q
   obtain⟨z,l⟩:=z0 h1;cases z
  ·by_cases q2:k=i
   ·subst q2
    obtain⟨z,l⟩:=z0 h2;cases z
   ·rw [g9 (m4 q)] at h1
    rw [g9 (m4 q2)] at h2;exact r.o1 j k k1 k2 h1 h2
theorem RS.setO(r:RS K F0 H0 F H σ ρ){ds:List D}{xs:List V}{a:Addr}(i:Nat)(h1:H a=some (.lst xs))(h2:F a=none)(h3:H0 a=none)(h4:RepL K F ds xs)
  (h5:∀(j:Nat) (es:List D), ρ[j]? = some (some (.ow es)) -> σ[j]? ≠ some (some (.ref a)))
  (h6:∀(j:Nat) (kvs:Str×List (Str×D)), ρ[j]? = some (some (.od kvs))->∃a' bs, σ[j]? = some (some (.ref a'))/\ODt K F H H0 a' bs kvs/\a∉bs/\∀(j':Nat) (es:List D) (b:Addr), ρ[j']? = some (some (.ow es))->b∈bs -> σ[j']? ≠ some (some (.ref b))):RS K F0 H0 F H (σ.set i (some (.ref a))) (ρ.set i (some (.ow ds))) where
 t0:=r.t0
 g:=r.g
 len:=by rw [n9,n9];exact r.len
 fz:=fun j e q1=>by
  by_cases q:j=i
  ·subst q
   obtain⟨z,l⟩:=z0 q1;cases z
  ·rw [g9 (m4 q)] at q1 ⊢
   exact r.fz j e q1
 ow:=fun j es q1=>by
  by_cases q:j=i
  ·subst q
   obtain⟨z,l⟩:=z0 q1;cases z;exact⟨a,xs,by rw [g0d];simp [r.len,l],h1,h2,h3,h4⟩
  ·rw [g9 (m4 q)] at q1 ⊢
   exact r.ow j es q1
 dj :=fun j k ds' es b hjk q1 q2 q3=>by
  by_cases q:j=i
  ·subst q
   have e3:=z0 q3;have eb:b=a:=by have:=e3.1;simpa using this
   subst eb;rw [g9 hjk] at q2 ⊢;exact h5 k es q2
  ·rw [g9 (m4 q)] at q1 q3
   by_cases q4:k=i
   ·subst q4
    intro z;have eb:b=a:=by have:=(z0 z).1;simpa using this
    subst eb;exact h5 j ds' q1 q3
   ·rw [g9 (m4 q4)] at q2 ⊢
    exact r.dj j k ds' es b hjk q1 q2 q3
 od :=fun j kvs q1=>by
  by_cases q:j=i
  ·subst q
   obtain⟨z,l⟩:=z0 q1;cases z
  ·rw [g9 (m4 q)] at q1 ⊢
   obtain⟨a',bs,e1,e2,e3,e4⟩:=h6 j kvs q1;refine⟨a',bs,e1,e2,fun k es b p1 p2 p3=>?_⟩
   by_cases q2:k=i
   ·subst q2
    have eb:b=a:=by have:=(z0 p3).1;simpa using this
    exact e3 (eb ▸ p2)
   ·rw [g9 (m4 q2)] at p1 p3
    exact e4 k es b p1 p2 p3
 o1 :=fun j k k1 k2 p1 p2=>by
  by_cases q:j=i
  ·subst q
   obtain⟨z,l⟩:=z0 p1;cases z
  ·by_cases q2:k=i
   ·subst q2
    obtain⟨z,l⟩:=z0 p2;cases z
   ·rw [g9 (m4 q)] at p1
    rw [g9 (m4 q2)] at p2;exact r.o1 j k k1 k2 p1 p2
theorem RS.wrt(r:RS K F0 H0 F H σ ρ){ds es:List D}{ys:List V}{a:Addr}{i:Nat}(h1 : ρ[i]? = some (some (.ow ds)))(h2 : σ[i]? = some (some (.ref a)))(h4:RepL K F es ys):
  RS K F0 H0 F (upd H a (.lst ys)) σ (ρ.set i (some (.ow es))):=by
 obtain⟨a',xs,e1,e2,e3,e4,e5⟩:=r.ow i ds h1;rw [h2] at e1;obtain rfl:a=a':=by simpa using e1
 have nF:∀b o,F b=some o->b≠a:=fun b o e z=>by subst z;rw [e3] at e;cases e
 exact {
  t0:=r.t0
  g :=⟨r.g.ff,⟨fun b o e=>by rw [qu (fun z=>by subst z;rw [e4] at e;cases e)];exact r.g.hh.lst b o e,fun b o e=>by rw [qu (fun z=>by subst z;rw [e4] at e;cases e)];exact r.g.hh.ext b o e,fun {b} e=>by
    by_cases z:b=a
    ·subst z;exact e4
    ·rw [qu z] at e;exact r.g.hh.free e,fun t=>(r.g.hh.tb t).upd (.inr ⟨_,e2⟩),fun b o e=>by rw [qu (fun z=>by subst z;rw [e4] at e;cases e)];exact r.g.hh.dk b o e⟩,fun b o e=>by rw [qu (nF b o e)];exact r.g.fh b o e,r.g.nw⟩
  len:=by rw [n9];exact r.len
  fz:=fun j e q1=>by
   by_cases q:j=i
   ·subst q
    obtain⟨z,l⟩:=z0 q1;cases z
   ·rw [g9 (m4 q)] at q1
    exact r.fz j e q1
  ow :=fun j es' q1=>by
   by_cases q:j=i
   ·subst q
    obtain⟨z,l⟩:=z0 q1;cases z;exact⟨a,ys,h2,z7,e3,e4,h4⟩
   ·rw [g9 (m4 q)] at q1
    obtain⟨b,zs,f1,f2,f3,f4,f5⟩:=r.ow j es' q1;have hb:b≠a:=fun z=>by
     subst z;exact r.dj i j ds es' b (m4 q) h1 q1 h2 f1
    exact⟨b,zs,f1,by rw [qu hb];exact f2,f3,f4,f5⟩
  dj:=fun j k ds' es' b hjk q1 q2 q3=>by
   have back:∀(l:Nat) (us:List D),(ρ.set i (some (.ow es)))[l]? = some (some (.ow us))->∃ws, ρ[l]? = some (some (.ow ws)):=fun l us z=>by
    by_cases q:l=i
    ·subst q;exact⟨ds,h1⟩
    ·rw [g9 (m4 q)] at z;exact⟨us,z⟩
   obtain⟨w1,z1⟩:=back j ds' q1;obtain⟨w2,z2⟩:=back k es' q2;exact r.dj j k w1 w2 b hjk z1 z2 q3
  od:=fun j kvs q1=>by
   by_cases q:j=i
   ·subst q
    obtain⟨z,l⟩:=z0 q1;cases z
   ·rw [g9 (m4 q)] at q1
    obtain⟨a',bs,f1,f2,f3⟩:=r.od j kvs q1;refine⟨a',bs,f1,f2.other (fun z=>by subst z;exact f2.nl e2) fun z=>f3 i ds a h1 z h2,fun k es' b p1 p2=>?_⟩
    by_cases q2:k=i
    ·subst q2;exact f3 k ds b h1 p2
    ·rw [g9 (m4 q2)] at p1;exact f3 k es' b p1 p2
  o1 :=fun j k k1 k2 p1 p2=>by
   have back:∀(l:Nat) (us),(ρ.set i (some (.ow es)))[l]? = some (some (.od us)) -> ρ[l]? = some (some (.od us)):=fun l us z=>by
    by_cases q:l=i
    ·subst q
     obtain⟨z',_⟩:=z0 z;cases z'
    ·rw [g9 (m4 q)] at z;exact z
   exact r.o1 j k k1 k2 (back _ _ p1) (back _ _ p2)}
theorem RS.freeze(r:RS K F0 H0 F H σ ρ){ds:List D}{i:Nat}(h1 : ρ[i]? = some (some (.ow ds))): ∃F',Same F F'/\RS K F0 H0 F' H σ (ρ.set i (some (.fz (.lst ds)))):=by
 obtain⟨a,xs,e1,e2,e3,e4,e5⟩:=r.ow i ds h1;have sF:Same F (upd F a (.lst xs)):=yr e3;refine⟨upd F a (.lst xs),sF,?_⟩;exact {
  t0:=r.t0
  g :=⟨r.g.ff.trans sF,r.g.hh,fun b o e=>by
    by_cases q:b=a
    ·subst q;rw [z7] at e;cases e;exact e2
    ·rw [qu q] at e;exact r.g.fh b o e,fun b hb=>by
    by_cases q:b=a
    ·subst q;exact .inr e4
    ·rw [qu q] at hb;exact r.g.nw b hb⟩
  len:=by rw [n9];exact r.len
  fz:=fun j e q1=>by
   by_cases q:j=i
   ·subst q
    obtain⟨z,l⟩:=z0 q1;cases z;exact⟨_,e1,rep_lst.mpr ⟨a,xs,rfl,SqL.of z7,e5.mono sF⟩⟩
   ·rw [g9 (m4 q)] at q1
    obtain⟨v,z1,z2⟩:=r.fz j e q1;exact⟨v,z1,z2.mono sF⟩
  ow :=fun j es' q1=>by
   by_cases q:j=i
   ·subst q
    obtain⟨z,l⟩:=z0 q1;cases z
   ·rw [g9 (m4 q)] at q1
    obtain⟨b,zs,f1,f2,f3,f4,f5⟩:=r.ow j es' q1;have hb:b≠a:=fun z=>by
     subst z;exact r.dj i j ds es' b (m4 q) h1 q1 e1 f1
    exact⟨b,zs,f1,f2,by rw [qu hb];exact f3,f4,f5.mono sF⟩
  dj :=fun j k ds' es' b hjk q1 q2 q3=>by
   have back:∀(l:Nat) (us:List D),(ρ.set i (some (.fz (.lst ds))))[l]? = some (some (.ow us)) -> ρ[l]? = some (some (.ow us)):=fun l us z=>by
    by_cases q:l=i
    ·subst q
     obtain⟨z',_⟩:=z0 z;cases z'
    ·rw [g9 (m4 q)] at z;exact z
   exact r.dj j k ds' es' b hjk (back _ _ q1) (back _ _ q2) q3
  od:=fun j kvs q1=>by
   by_cases q:j=i
   ·subst q
    obtain⟨z,l⟩:=z0 q1;cases z
   ·rw [g9 (m4 q)] at q1
    obtain⟨a',bs,f1,f2,f3⟩:=r.od j kvs q1;refine⟨a',bs,f1,f2.otherF sF (fun z=>by subst z;exact f2.nl e2) fun z=>f3 i ds a h1 z e1,fun k es' b p1 p2=>?_⟩
    by_cases q2:k=i
    ·subst q2;exact f3 k ds b h1 p2
    ·rw [g9 (m4 q2)] at p1;exact f3 k es' b p1 p2
  o1 :=fun j k k1 k2 p1 p2=>by
   have back:∀(l:Nat) (us),(ρ.set i (some (.fz (.lst ds))))[l]? = some (some (.od us)) -> ρ[l]? = some (some (.od us)):=fun l us z=>by
    by_cases q:l=i
    ·subst q
     obtain⟨z',_⟩:=z0 z;cases z'
    ·rw [g9 (m4 q)] at z;exact z
   exact r.o1 j k k1 k2 (back _ _ p1) (back _ _ p2)}
end
end DL
namespace DL
open PySem PySem.Spec PyProof.Rows L2
variable[Lam][Pin]
abbrev lim:Nat:=1000000
theorem yt{n:Nat}(h:n<=lim): n<=sizeLine:=mm h (by decide)
theorem q3b{n:Nat}(h:n<lim): n<sizeLine:=m8 h (by decide)
abbrev FE:=Rho->Option D
abbrev FT:=Rho->Option Bool
abbrev FA:=Rho->Option (List D)
inductive Fl where
 | nx|bk|ct
 | rt (d:D)
abbrev FS:=Rho->Option (Fl×Rho)
def tD(K:Frag)(f:FE): TE:=fun σ H Q=>∃F0 H0 F ρ d,RS K F0 H0 F H σ ρ /\ f ρ = some d/\∀v F' H',Grow F H F' H'->Rep K F' d v->Q v H'
def tL(K:Frag)(f:FA): TE:=fun σ H Q=>∃F0 H0 F ρ ds,RS K F0 H0 F H σ ρ /\ f ρ = some ds/\∀a xs F' H',Grow F H F' H'->F' a=none->H a=none->H' a=some (.lst xs)->RepL K F' ds xs->Q (.ref a) H'
def tDT(K:Frag)(f:FT): TT:=fun σ H Q=>∃F0 H0 F ρ b,RS K F0 H0 F H σ ρ /\ f ρ = some b/\∀F' H',Grow F H F' H'->Q b H'
def tDA(K:Frag)(f:FA): TA:=fun σ H Q=>∃F0 H0 F ρ ds,RS K F0 H0 F H σ ρ /\ f ρ = some ds/\∀vs F' H',Grow F H F' H'->RepL K F' ds vs->Q vs H'
def q6e(K:Frag)(F0 H0 F:Hp)(D:Ends)(fl:Fl)(ρ':Rho): Prop:=match fl with
 | .nx=>∀ σ' F' H',Same F F'->RS K F0 H0 F' H' σ' ρ'->D.nx σ' H'
 | .bk=>∀ σ' F' H',Same F F'->RS K F0 H0 F' H' σ' ρ'->D.bk σ' H'
 | .ct=>∀ σ' F' H',Same F F'->RS K F0 H0 F' H' σ' ρ'->D.ct σ' H'
 | .rt d=>∀v σ' F' H',RS K F0 H0 F' H' σ' ρ'->Rep K F' d v->D.rt v H'
def tDS(K:Frag)(f:FS): TS:=fun D σ H=>∃F0 H0 F ρ fl ρ',RS K F0 H0 F H σ ρ /\ f ρ = some (fl, ρ')/\q6e K F0 H0 F D fl ρ'
section
variable{X:Cx}{e:Expr}{pos:Pos}
theorem j3{t t':TE}(h:PE X e t)(i:∀ σ H Q,t' σ H Q->t σ H Q): PE X e t':=fun pins s σ H Q I q=>h pins s σ H Q I (i σ H Q q)
theorem q85{t t':TT}(h:PT X e t)(i:∀ σ H Q,t' σ H Q->t σ H Q): PT X e t':=fun pins s σ H Q I q=>h pins s σ H Q I (i σ H Q q)
theorem qhp{es:List Expr}{t t':TA}(h:PA X es t)(i:∀ σ H Q,t' σ H Q->t σ H Q): PA X es t':=fun pos pins s σ H Q I q=>h pos pins s σ H Q I (i σ H Q q)
theorem y8{st:Stmt}{t t':TS}(h:PS X st t)(i:∀D σ H,t' D σ H->t D σ H): PS X st t':=fun pins s σ H D I q=>h pins s σ H D I (i D σ H q)
theorem q3u{st:List Stmt}{t t':TS}(h:PSs X st t)(i:∀D σ H,t' D σ H->t D σ H): PSs X st t':=fun pins s σ H D I q=>h pins s σ H D I (i D σ H q)
def eV(i:Nat): FE:=fun ρ =>match ρ[i]? with
 | some (some (.fz d))=>some d
 | _=>none
def eC(d:D): FE:=fun _=>some d
theorem qlz{i:Nat}{ρ : Rho}{d:D}(h:eV i ρ = some d): ρ[i]? = some (some (.fz d)):=by
 unfold eV at h
 split at h
 ·rename_i e;rw [e,n3 h]
 ·cases h
theorem qa{K:Frag}{i:Nat}(h:PE X e (q2s i)): PE X e (tD K (eV i)):=j3 h fun σ H Q ⟨F0,H0,F, ρ,d,r,hf,q⟩=>by
 obtain⟨v,e1,e2⟩:=r.fz i d (qlz hf);exact⟨v,e1,q v F H (.refl r.fh) e2⟩
theorem q1c{K:Frag}{v:V}{d:D}(h:PE X e (tC v))(hd:∀H,Rep K H d v): PE X e (tD K (eC d)):=j3 h fun σ H Q ⟨F0,H0,F, ρ,d',r,hf,q⟩=>by
 cases hf;exact q v F H (.refl r.fh) (hd F)
theorem qh{K:Frag}{i j}: PE X (.Constant (.int i) j pos) (tD K (eC (.int i))):=q1c qnj fun _=>rep_int.mpr rfl
theorem wo{K:Frag}{b j}: PE X (.Constant (.bool b) j pos) (tD K (eC (.bl b))):=q1c qpw fun _=>rep_bl.mpr rfl
theorem qoa{K:Frag}{j}: PE X (.Constant .none j pos) (tD K (eC .non)):=q1c qnk fun _=>rep_non.mpr rfl
theorem qp{K:Frag}{x j}: PE X (.Constant (.str x) j pos) (tD K (eC (.str x))):=q1c qnl fun _=>rep_str.mpr rfl
def rD(K:Frag)(op:D->D->Option D): R2:=fun x y H Q=>∃F d1 d2 d,Same F H/\Rep K F d1 x/\Rep K F d2 y/\op d1 d2=some d/\∀v F' H',Grow F H F' H'->Rep K F' d v->Q v H'
def eOp(op:D->D->Option D)(f g:FE): FE:=fun ρ =>(f ρ).bind fun x=>(g ρ).bind fun y=>op x y
theorem two{K:Frag}{f g:FE}{op:D->D->Option D}{σ : St}{H:Hp}{Q:VK}(h:tD K (eOp op f g) σ H Q): tD K f σ H fun x H1=>tD K g σ H1 fun y H2=>rD K op x y H2 Q:=by
 obtain⟨F0,H0,F, ρ,d,r,hf,q⟩:=h;obtain⟨d1,h1,hf⟩:=g0.mp hf;obtain⟨d2,h2,h3⟩:=g0.mp hf;refine⟨F0,H0,F, ρ,d1,r,h1,fun v F1 H1 g1 r1=>⟨F0,H0,F1, ρ,d2,r.grow g1,h2,fun u F2 H2 g2 r2=>?_⟩⟩;exact⟨F2,d1,d2,d,g2.fh,r1.mono g2.ff,r2,h3,fun w F3 H3 g3 r3=>q w F3 H3 (g1.trans (g2.trans g3)) r3⟩
variable{a b:Expr}{f g:FE}
theorem qo{op:Operator}{o:D->D->Option D}(ho:OpR X (binaryOp op) (rD X.K o))(ha:PE X a (tD X.K f))(hb:PE X b (tD X.K g)): PE X (.BinOp a op b pos) (tD X.K (eOp o f g)):=
 j3 (qq3 ho ha hb) fun σ H Q h=>two h
theorem q0i{f:Value->Value->Sem Value}{r r':R2}(h:OpR X f r)(i:∀x y H Q,r' x y H Q->r x y H Q): OpR X f r':=fun pins s σ H x y v u Q I rx ry q=>h pins s σ H x y v u Q I rx ry (i x y H Q q)
theorem q5e{f:Value->Value->Sem Value}{K:Frag}{o o':D->D->Option D}(h:OpR X f (rD K o))(h':OpR X f (rD K o')): OpR X f (rD K fun x y=>(o x y).or (o' x y)):=fun pins s σ H x y v u Q I rx ry q=>by
 obtain⟨F,d1,d2,d,q1,q2,q3,q4,q5⟩:=q;have q4:(o d1 d2).or (o' d1 d2)=some d:=q4;cases e:o d1 d2 with
 | some d'=>rw [e] at q4;cases q4;exact h pins s σ H x y v u Q I rx ry ⟨F,d1,d2,_,q1,q2,q3,e,q5⟩
 | none=>rw [e] at q4;exact h' pins s σ H x y v u Q I rx ry ⟨F,d1,d2,d,q1,q2,q3,q4,q5⟩
def oI(C:Int->Int->Bool)(z:Int->Int->Int): D->D->Option D
 | .int i,.int j=>if C i j then some (.int (z i j)) else none
 | _,_=>none
def oB(z:Int->Int->Bool): D->D->Option D
 | .int i,.int j=>some (.bl (z i j))
 | _,_=>none
theorem qec{C:Int->Int->Bool}{z:Int->Int->Int}{d1 d2 d:D}(h:oI C z d1 d2=some d): ∃i j,d1=.int i/\d2=.int j/\C i j=true/\d=.int (z i j):=by
 cases d1 <;> cases d2 <;> simp only [oI] at h <;> first|(cases h;done)|skip
 split at h
 ·exact⟨_,_,rfl,rfl,by assumption,(n3 h).symm⟩
 ·cases h
theorem qm0{z:Int->Int->Bool}{d1 d2 d:D}(h:oB z d1 d2=some d): ∃i j,d1=.int i/\d2=.int j/\d=.bl (z i j):=by
 cases d1 <;> cases d2 <;> simp only [oB] at h <;> first|(cases h;done)|skip
 exact⟨_,_,rfl,rfl,(n3 h).symm⟩
theorem qb5{fv:Value->Value->Sem Value}{P:Int->Int->Prop}{C:Int->Int->Bool}{z:Int->Int->Int}(h:OpR X fv (rI P fun i j=>.int (z i j)))(hC:∀i j,C i j=true->P i j): OpR X fv (rD X.K (oI C z)):=
 q0i h fun x y H Q ⟨F,d1,d2,d,q1,q2,q3,q4,q5⟩=>by
  obtain⟨i,j,rfl,rfl,c,rfl⟩:=qec q4;exact⟨i,j,rep_int.mp q2,rep_int.mp q3,hC i j c,q5 _ F H (.refl q1) (rep_int.mpr rfl)⟩
theorem qhq{fv:Value->Value->Sem Value}{z:Int->Int->Int}(h:OpR X fv (rI0 fun i j=>.int (z i j))): OpR X fv (rD X.K (oI (fun _ _=>true) z)):=
 q0i h fun x y H Q ⟨F,d1,d2,d,q1,q2,q3,q4,q5⟩=>by
  obtain⟨i,j,rfl,rfl,c,rfl⟩:=qec q4;exact⟨i,j,rep_int.mp q2,rep_int.mp q3,q5 _ F H (.refl q1) (rep_int.mpr rfl)⟩
theorem qhr{fv:Value->Value->Sem Value}{z:Int->Int->Bool}(h:OpR X fv (rI0 fun i j=>.bl (z i j))): OpR X fv (rD X.K (oB z)):=
 q0i h fun x y H Q ⟨F,d1,d2,d,q1,q2,q3,q4,q5⟩=>by
  obtain⟨i,j,rfl,rfl,rfl⟩:=qm0 q4;exact⟨i,j,rep_int.mp q2,rep_int.mp q3,q5 _ F H (.refl q1) (rep_bl.mpr rfl)⟩
abbrev oAdd:=oI (fun _ _=>true) fun i j=>i+j
abbrev oSub:=oI (fun _ _=>true) fun i j=>i-j
abbrev oMul:=oI (fun i j=>(decide (-(2 ^ 64)<i)&&decide (i<2 ^ 64)) || (decide (-(2 ^ 64)<j)&&decide (j<2 ^ 64))) fun i j=>i*j
abbrev oDiv:=oI (fun _ j=>decide (0<j)&&decide (j<1073741824)) fun i j=>i / j
abbrev oMod:=oI (fun _ j=>decide (0<j)) fun i j=>i%j
theorem q2o{p q:Prop}[Decidable p][Decidable q](h:(decide p&&decide q)=true): p/\q:=by simpa using h
theorem qob:OpR X (binaryOp .Add) (rD X.K oAdd):=qhq qnt
theorem qhs:OpR X (binaryOp .Sub) (rD X.K oSub):=qhq qnu
theorem qoc:OpR X (binaryOp .Mult) (rD X.K oMul):=qb5 qnv fun i j h=>by
 rcases g0z _ _ ▸ h with z|z
 ·exact .inl (q2o z)
 ·exact .inr (q2o z)
theorem q0s:OpR X (binaryOp .FloorDiv) (rD X.K oDiv):=qb5 qln fun i j h=>q2o h
theorem zr:OpR X (binaryOp .Mod) (rD X.K oMod):=qb5 qnw fun i j h=>u7 h
abbrev oPow:=oI (fun i j=>decide (0<=j)&&(decide (j<=1000000)&&decide (i.natAbs<2 ^ 64))) fun i j=>i ^ j.toNat
theorem qjl{p q r:Prop}[Decidable p][Decidable q][Decidable r](h:(decide p&&(decide q&&decide r))=true): p/\q/\r:=by simpa using h
theorem qod:OpR X (binaryOp .Pow) (rD X.K oPow):=qb5 qnx fun i j h=>qjl h
abbrev oLt:=oB fun i j=>decide (i<j)
abbrev oLe:=oB fun i j=>decide (i<=j)
abbrev oGt:=oB fun i j=>decide (j<i)
abbrev oGe:=oB fun i j=>decide (j<=i)
theorem q86:OpR X (compareOp .LtE) (rD X.K oLe):=qhr qq6
theorem q0t:OpR X (compareOp .Gt) (rD X.K oGt):=qhr qq7
def flD:D->Option V
 | .non=>some .non
 | .bl b=>some (.bl b)
 | .int i=>some (.int i)
 | .str x=>some (.str x)
 | _=>none
theorem q6f{K:Frag}{H:Hp}{d:D}{v u:V}(h:flD d=some u)(r:Rep K H d v): v=u:=by
 cases d <;> simp only [flD] at h <;> first|(cases h;done)|skip
 ·cases h;exact rep_non.mp r
 ·cases h;exact rep_bl.mp r
 ·cases h;exact rep_int.mp r
 ·cases h;exact rep_str.mp r
def qft:D->D->Option D:=fun d e=>(flD d).bind fun x=>(flD e).bind fun y=>if q7d x y then some (.bl (decide (x=y))) else none
def qbn:D->D->Option D:=fun d e=>(flD d).bind fun x=>(flD e).bind fun y=>if q7d x y then some (.bl (!decide (x=y))) else none
theorem qoe:OpR X (compareOp .Eq) (rD X.K qft):=q0i qq4 fun x y H Q ⟨F,d1,d2,d,q1,q2,q3,q4,q5⟩=>by
 obtain⟨u,h1,q4⟩:=g0.mp q4;obtain⟨w,h2,q4⟩:=g0.mp q4;cases q6f h1 q2;cases q6f h2 q3
 split at q4
 ·rename_i z
  cases q4;exact⟨z,q5 _ F H (.refl q1) (rep_bl.mpr rfl)⟩
 ·cases q4
theorem qht:OpR X (compareOp .NotEq) (rD X.K qbn):=q0i qq5 fun x y H Q ⟨F,d1,d2,d,q1,q2,q3,q4,q5⟩=>by
 obtain⟨u,h1,q4⟩:=g0.mp q4;obtain⟨w,h2,q4⟩:=g0.mp q4;cases q6f h1 q2;cases q6f h2 q3
 split at q4
 ·rename_i z
  cases q4;exact⟨z,q5 _ F H (.refl q1) (rep_bl.mpr rfl)⟩
 ·cases q4
theorem q5f{op:CmpOp}{o:D->D->Option D}(ho:OpR X (compareOp op) (rD X.K o))(ha:PE X a (tD X.K f))(hb:PE X b (tD X.K g))(hm:behindInMarks op b=false:=by first|exact qbc _ (by decide) (by decide)|rfl):
  PE X (.Compare a [op] [b] pos) (tD X.K (eOp o f g)):=j3 (qlo ho ha hb hm) fun σ H Q h=>two h
def qbo:D->Option Bool
 | .non=>some false
 | .bl b=>some b
 | .int i=>some (i != 0)
 | .tup ds=>some (!ds.isEmpty)
 | .lst ds=>some (!ds.isEmpty)
 | .str x=>if x.length<=lim then some ((x.length:Int) != 0) else none
 | _=>none
def bT(f:FE): FT:=fun ρ =>(f ρ).bind qbo
theorem qof{K:Frag}{F H:Hp}{d:D}{b:Bool}{v:V}(h:qbo d=some b)(fh:Same F H)(r:Rep K F d v): qj9 K v H b:=by
 cases d with
 | non=>cases h;rw [rep_non.mp r];rfl
 | bl c=>cases h;rw [rep_bl.mp r];rfl
 | int i=>cases h;rw [rep_int.mp r];rfl
 | str x=>
  simp only [qbo] at h
  split at h
  ·rename_i z
   cases h;rw [rep_str.mp r];exact⟨yt z,rfl⟩
  ·cases h
 | tup ds=>
  cases h;obtain⟨p,xs,rfl,q1,q2⟩:=rep_tup.mp r;refine .inr (.inl ⟨xs,z9 fh q1,?_⟩);cases ds with
  | nil=>rw [q2.nil_inv];rfl
  | cons d ds=>obtain⟨y,r',rfl,_⟩:=q2.cons_inv;rfl
 | lst ds=>
  cases h;obtain⟨p,xs,rfl,q1,q2⟩:=rep_lst.mp r;refine .inl ⟨xs,fh.seq q1,?_⟩;cases ds with
  | nil=>rw [q2.nil_inv];rfl
  | cons d ds=>obtain⟨y,r',rfl,_⟩:=q2.cons_inv;rfl
 | dct _ _=>cases h
 | dtt _ _=>cases h
 | obj _=>cases h
 | exc _ _=>cases h
theorem j5(ha:PE X a (tD X.K f))(he:∀whole,isTrue a X.env whole=(do let v <- whole;standAt a.pos;holding [v] (truthy v)):=by intro _;rfl): PT X a (tDT X.K (bT f)):=
 q85 (qja ha he) fun σ H Q ⟨F0,H0,F, ρ,b,r,hf,q⟩=>by
  obtain⟨d,h1,h2⟩:=g0.mp hf;exact⟨F0,H0,F, ρ,d,r,h1,fun v F' H' g' r'=>⟨b,qof h2 g'.fh r',q F' H' g'⟩⟩
def isB:D->Option Bool
 | .bl b=>some b
 | _=>none
def bCmp(o:D->D->Option D)(f g:FE): FT:=fun ρ =>(eOp o f g ρ).bind isB
theorem zy{op:CmpOp}{o:D->D->Option D}(ho:OpR X (compareOp op) (rD X.K o))(ha:PE X a (tD X.K f))(hb:PE X b (tD X.K g))(hm:behindInMarks op b=false:=by first|exact qbc _ (by decide) (by decide)|rfl):
  PT X (.Compare a [op] [b] pos) (tDT X.K (bCmp o f g)):=q85 (qlp ho ha hb hm) fun σ H Q ⟨F0,H0,F, ρ,c,r,hf,q⟩=>by
 obtain⟨d,h1,h2⟩:=g0.mp hf;refine two ⟨F0,H0,F, ρ,d,r,h1,fun v F' H' g' r'=>?_⟩;cases d <;> simp only [isB] at h2 <;> first|(cases h2;done)|skip
 cases h2;exact⟨_,rep_bl.mp r',q F' H' g'⟩
def v7(t:FT): FT:=fun ρ =>(t ρ).map not
def q2v(t u:FT): FT:=fun ρ =>(t ρ).bind fun c=>if c then u ρ else some false
def bOr(t u:FT): FT:=fun ρ =>(t ρ).bind fun c=>if c then some true else u ρ
variable{t u:FT}{rest:List Expr}
theorem jz(ha:PT X a (tDT X.K t)): PT X (.UnaryOp .Not a pos) (tDT X.K (v7 t)):=q85 (qno ha) fun σ H Q ⟨F0,H0,F, ρ,c,r,hf,q⟩=>by
 obtain⟨d,h1,h2⟩:=gr.mp hf;subst h2;exact⟨F0,H0,F, ρ,d,r,h1,fun F' H' g'=>q F' H' g'⟩
theorem qhu{t t':TT}(h:PW X a t)(i:∀ σ H Q,t' σ H Q->t σ H Q): PW X a t':=fun wh pins s σ H Q I q=>h wh pins s σ H Q I (i σ H Q q)
theorem q0j(ha:PT X a (tDT X.K t)): PW X (.BoolOp .And [a] pos) (tDT X.K t):=qll ha
theorem q3v(ha:PT X a (tDT X.K t)): PW X (.BoolOp .Or [a] pos) (tDT X.K t):=qnm ha
theorem q1y(ha:PT X a (tDT X.K t))(hb:PW X (.BoolOp .And (b :: rest) pos) (tDT X.K u)): PW X (.BoolOp .And (a :: b :: rest) pos) (tDT X.K (q2v t u)):=qhu (qnn ha hb) fun σ H Q ⟨F0,H0,F, ρ,c,r,hf,q⟩=>by
 obtain⟨d,h1,h2⟩:=g0.mp hf;refine⟨F0,H0,F, ρ,d,r,h1,fun F' H' g'=>?_⟩;cases d with
 | true=>rw [gy rfl] at h2 ⊢;exact⟨F0,H0,F', ρ,c,r.grow g',h2,fun F2 H2 g2=>q F2 H2 (g'.trans g2)⟩
 | false=>rw [ma m5] at h2 ⊢;cases h2;exact q F' H' g'
theorem q3c(ha:PT X a (tDT X.K t))(hb:PW X (.BoolOp .Or (b :: rest) pos) (tDT X.K u)): PW X (.BoolOp .Or (a :: b :: rest) pos) (tDT X.K (bOr t u)):=qhu (qpx ha hb) fun σ H Q ⟨F0,H0,F, ρ,c,r,hf,q⟩=>by
 obtain⟨d,h1,h2⟩:=g0.mp hf;refine⟨F0,H0,F, ρ,d,r,h1,fun F' H' g'=>?_⟩;cases d with
 | false=>rw [ma m5] at h2 ⊢;exact⟨F0,H0,F', ρ,c,r.grow g',h2,fun F2 H2 g2=>q F2 H2 (g'.trans g2)⟩
 | true=>rw [gy rfl] at h2 ⊢;cases h2;exact q F' H' g'
def q4f(f g:FE): FE:=fun ρ =>(f ρ).bind fun x=>(isB x).bind fun c=>if c then g ρ else some (.bl false)
def eOr(f g:FE): FE:=fun ρ =>(f ρ).bind fun x=>(isB x).bind fun c=>if c then some (.bl true) else g ρ
def qjm(f:FE): FE:=fun ρ =>(f ρ).bind fun x=>(isB x).map fun c=>.bl (!c)
def eIf(t:FT)(f g:FE): FE:=fun ρ =>(t ρ).bind fun c=>if c then f ρ else g ρ
theorem q7g{d:D}{c:Bool}(h:isB d=some c): d=.bl c:=by
 cases d <;> simp only [isB] at h <;> first|(cases h;done)|skip
 rw [n3 h]
theorem qbp{op}(h:PE X a (tD X.K f)): PE X (.BoolOp op [a] pos) (tD X.K f):=qnp h
theorem qbq(ha:PE X a (tD X.K f))(hb:PE X (.BoolOp .And (b :: rest) pos) (tD X.K g)): PE X (.BoolOp .And (a :: b :: rest) pos) (tD X.K (q4f f g)):=j3 (qnq ha hb) fun σ H Q ⟨F0,H0,F, ρ,d,r,hf,q⟩=>by
 obtain⟨x,h1,hf⟩:=g0.mp hf;obtain⟨c,h2,h3⟩:=g0.mp hf;refine⟨F0,H0,F, ρ,x,r,h1,fun v F' H' g' r'=>?_⟩;rw [q7g h2] at r';refine⟨c,rep_bl.mp r',?_⟩;cases c with
 | true=>rw [gy rfl] at h3 ⊢;exact⟨F0,H0,F', ρ,d,r.grow g',h3,fun w F2 H2 g2 r2=>q w F2 H2 (g'.trans g2) r2⟩
 | false=>rw [ma m5] at h3 ⊢;cases h3;exact q _ F' H' g' (rep_bl.mpr rfl)
end
section
variable{X:Cx}{e:Expr}{es:List Expr}{pos:Pos}{f g:FE}{fa:FA}
def notStar:Expr->Bool
 | .Starred _ _=>false
 | _=>true
theorem q6g{e:Expr}{es:List Expr}{env:Env}(h:notStar e=true): starEach (e :: es) env=(false,eval e env) :: starEach es env:=by
 cases e <;> first|rfl|cases h
def qi:FA:=fun _=>some []
def qc(f:FE)(fa:FA): FA:=fun ρ =>(f ρ).bind fun d=>(fa ρ).map fun ds=>d :: ds
theorem qf:PA X [] (tDA X.K qi):=qhp y6 fun σ H Q ⟨F0,H0,F, ρ,ds,r,hf,q⟩=>by
 cases hf;exact q [] F H (.refl r.fh) .nil
theorem qm1(ha:PE X e (tD X.K f))(hr:PA X es (tDA X.K fa))(hs:starEach (e :: es) X.env=(false,eval e X.env) :: starEach es X.env:=by first|exact q6g rfl|rfl): PA X (e :: es) (tDA X.K (qc f fa)):=
 qhp (jj ha hr hs) fun σ H Q ⟨F0,H0,F, ρ,ds,r,hf,q⟩=>by
  obtain⟨d,h1,hf⟩:=g0.mp hf;obtain⟨ds',h2,h3⟩:=gr.mp hf;subst h3;refine⟨F0,H0,F, ρ,d,r,h1,fun v F1 H1 g1 r1=>⟨F0,H0,F1, ρ,ds',r.grow g1,h2,fun vs F2 H2 g2 r2=>?_⟩⟩;exact q _ F2 H2 (g1.trans g2) (.cons (r1.mono g2.ff) r2)
def vt(fa:FA): FE:=fun ρ =>(fa ρ).bind fun ds=>if ds.length<=lim then some (.tup ds) else none
def jf(fa:FA): FA:=fun ρ =>(fa ρ).bind fun ds=>if ds.length<=lim then some ds else none
theorem vc{x1}(h:PA X es (tDA X.K fa)): PE X (.Tuple es x1 pos) (tD X.K (vt fa)):=j3 (qnz h) fun σ H Q ⟨F0,H0,F, ρ,d,r,hf,q⟩=>by
 obtain⟨ds,h1,h2⟩:=g0.mp hf
 split at h2
 ·rename_i hl
  cases h2;refine⟨F0,H0,F, ρ,ds,r,h1,fun vs F1 H1 g1 r1=>⟨yt (by rw [<- r1.length];exact hl),fun p hp=>?_⟩⟩;have gn:Grow F1 H1 (upd F1 p (.tup vs)) (upd H1 p (.tup vs)):=Grow.new g1.fh hp;exact q _ _ _ (g1.trans gn) (rep_tup.mpr ⟨p,vs,rfl,SqT.of z7,r1.mono gn.ff⟩)
 ·cases h2
theorem zi(h:PA X es (tDA X.K fa)): PE X (.List es pos) (tL X.K (jf fa)):=j3 (qo0 h) fun σ H Q ⟨F0,H0,F, ρ,ds,r,hf,q⟩=>by
 obtain⟨ds',h1,h2⟩:=g0.mp hf
 split at h2
 ·rename_i hl
  cases h2;refine⟨F0,H0,F, ρ,ds,r,h1,fun vs F1 H1 g1 r1=>⟨yt (by rw [<- r1.length];exact hl),fun p hp=>?_⟩⟩;exact q p vs F1 (upd H1 p (.lst vs)) (g1.trans (Grow.own g1.fh hp)) (g1.fh.free hp) (g1.hh.free hp) z7 r1
 ·cases h2
def eL(fa:FA): FE:=fun ρ =>(fa ρ).map .lst
theorem zp(h:PE X e (tL X.K fa)): PE X e (tD X.K (eL fa)):=j3 h fun σ H Q ⟨F0,H0,F, ρ,d,r,hf,q⟩=>by
 obtain⟨ds,h1,h2⟩:=gr.mp hf;subst h2;refine⟨F0,H0,F, ρ,ds,r,h1,fun a xs F1 H1 g1 fa' ha' hl r1=>?_⟩;have sF:Same F1 (upd F1 a (.lst xs)):=yr fa';refine q _ (upd F1 a (.lst xs)) H1 ⟨g1.ff.trans sF,g1.hh,fun b o z=>?_,fun b hb=>?_⟩ (rep_lst.mpr ⟨a,xs,rfl,SqL.of z7,r1.mono sF⟩)
 ·by_cases q':b=a
  ·subst q';rw [z7] at z;cases z;exact hl
  ·rw [qu q'] at z;exact g1.fh b o z
 ·by_cases q':b=a
  ·subst q';exact .inr ha'
  ·rw [qu q'] at hb;exact g1.nw b hb
def rC(K:Frag)(op:List D->Option D): List V->Hp->VK->Prop:=fun xs H Q=>∃F ds d,Same F H/\RepL K F ds xs/\op ds=some d/\∀v F' H',Grow F H F' H'->Rep K F' d v->Q v H'
def qk(op:List D->Option D)(fa:FA): FE:=fun ρ =>(fa ρ).bind op
theorem q1z{f:Value}{r r':List V->Hp->VK->Prop}(h:ji X f r)(i:∀xs H Q,r' xs H Q->r xs H Q): ji X f r':=fun pins s σ H xs us Q I rv q=>h pins s σ H xs us Q I rv (i xs H Q q)
theorem qhv{K:Frag}{op:List D->Option D}{σ : St}{H:Hp}{Q:VK}(h:tD K (qk op fa) σ H Q): tDA K fa σ H fun vs H1=>rC K op vs H1 Q:=by
 obtain⟨F0,H0,F, ρ,d,r,hf,q⟩:=h;obtain⟨ds,h1,h2⟩:=g0.mp hf;exact⟨F0,H0,F, ρ,ds,r,h1,fun vs F1 H1 g1 r1=>⟨F1,ds,d,g1.fh,r1,h2,fun v F2 H2 g2 r2=>q v F2 H2 (g1.trans g2) r2⟩⟩
theorem ze{x:Str}{p:Pos}{id:String}{op:List D->Option D}(hc:ji X (.builtin id) (rC X.K op))(hg:Gl X x)(hm:X.mg x=none)(hv:bootBuiltins x=some (.builtin id))(ha:PA X (e :: es) (tDA X.K fa))
  (hn:x≠"__name__" :=by decide) (hdb:(x==("__debug__" : Str))=false:=by decide)
  (he:starEach (e :: es) X.env=(false,eval e X.env) :: starEach es X.env:=by rfl) (hpl:(backTo pos (starEach es X.env)).any (·.1)=false:=by rfl):PE X (.Call (.Name x p) (e :: es) [] pos) (tD X.K (qk op fa)):=
 j3 (q0e hc hg hm hv ha hn hdb he hpl) fun σ H Q h=>qhv h
theorem vg{x:Str}{p:Pos}{T:String}{op:List D->Option D}(hc:ji X (.type T) (rC X.K op))(hg:Gl X x)(hm:X.mg x=none)(hv:bootBuiltins x=some (.type T))(ha:PA X (e :: es) (tDA X.K fa))
  (hn:x≠"__name__" :=by decide) (hdb:(x==("__debug__" : Str))=false:=by decide)
  (he:starEach (e :: es) X.env=(false,eval e X.env) :: starEach es X.env:=by rfl) (hpl:(backTo pos (starEach es X.env)).any (·.1)=false:=by rfl):PE X (.Call (.Name x p) (e :: es) [] pos) (tD X.K (qk op fa)):=
 j3 (qa5 hc hg hm hv ha hn hdb he hpl) fun σ H Q h=>qhv h
def spD(K:Frag)(ar:Nat)(op:List D->Option D): Sp:=fun vs H Q _=>∃F ds d,SameT F H/\RepL K F ds vs/\ds.length=ar/\op ds=some d/\∀v F' H',Grow F H F' H'->Rep K F' d v->Q v H'
def qq(ar:Nat)(dds:List D)(op:List D->Option D): List D->Option D:=fun ds=>if(ds++dds).length=ar then op (ds++dds) else none
theorem qm2{k ar:Nat}{fn:Addr}{fd:FuncData}{ps:List Str}{op:List D->Option D}{x:Str}{p:Pos}{dvs:List V}{dds:List D}{dv:List Value}(F:FnOk X.prog X.w X.K X.mg X.base CX0 k fn fd ps (spD X.K ar op))(hr:Room k X.A)(hg:Gl X x)(hm:X.mg x=some (.ref fn))(hk:PySem.W.keepIn X.K (.ref fn)=true)
  (hb:Binds X.K fd ps dv) (hd:Vals dvs dv) (hdd:∀H,RepL X.K H dds dvs) (ha:PA X (e :: es) (tDA X.K fa)) (hdb:(x==("__debug__" : Str))=false:=by decide)
  (he:starEach (e :: es) X.env=(false,eval e X.env) :: starEach es X.env:=by rfl) (hpl:(backTo pos (starEach es X.env)).any (·.1)=false:=by rfl) :
  PE X (.Call (.Name x p) (e :: es) [] pos) (tD X.K (qk (qq ar dds op) fa)):=
 j3 (qe9 F hr hg hm hk hb hd qqc ha hdb he hpl) fun σ H Q ⟨F0,H0,Fz, ρ,d,r,hf,q⟩=>by
  obtain⟨ds,h1,h2⟩:=g0.mp hf;unfold qq at h2
  split at h2
  ·rename_i hl
   exact⟨F0,H0,Fz, ρ,ds,r,h1,fun vs F1 H1 g1 r1=>⟨F1,ds++dds,d,r.sameT g1,r1.append (hdd F1),hl,h2,fun v F2 H2 g2 r2=>q v F2 H2 (g1.trans g2) r2⟩⟩
  ·cases h2
end
section
variable{X:Cx}{st:Stmt}{rest:List Stmt}{e:Expr}{pos:Pos}{f:FE}{fa:FA}{t:FT}{u w:FS}
def j7:FS:=fun ρ =>some (.nx, ρ)
def qw(u w:FS): FS:=fun ρ =>(u ρ).bind fun r=>match r with
 | (.nx, ρ')=>w ρ'
 | (fl, ρ')=>some (fl, ρ')
def sIf(t:FT)(u w:FS): FS:=fun ρ =>(t ρ).bind fun c=>if c then u ρ else w ρ
def zg(i:Nat)(f:FE): FS:=fun ρ =>(f ρ).map fun d=>(.nx, ρ.set i (some (.fz d)))
def q27(i:Nat)(fa:FA): FS:=fun ρ =>(fa ρ).map fun ds=>(.nx, ρ.set i (some (.ow ds)))
def zv(f:FE): FS:=fun ρ =>(f ρ).map fun d=>(.rt d, ρ)
def qqd:FS:=fun ρ =>some (.rt .non, ρ)
def qr8:FS:=fun ρ =>some (.bk, ρ)
def qr9:FS:=fun ρ =>some (.ct, ρ)
def q87(f:FE): FS:=fun ρ =>(f ρ).map fun _=>(.nx, ρ)
theorem zj:PSs X [] (tDS X.K j7):=q3u qlm fun D σ H ⟨F0,H0,F, ρ,fl, ρ',r,hf,q⟩=>by
 cases hf;exact q σ F H (.refl _) r
theorem q2w{K:Frag}{F0 H0 F F':Hp}{D:Ends}{fl:Fl}{ρ':Rho}(s:Same F F')(h:q6e K F0 H0 F D fl ρ'): q6e K F0 H0 F' D fl ρ':=by
 cases fl with
 | nx=>exact fun σ' F2 H2 s2 r=>h σ' F2 H2 (s.trans s2) r
 | bk=>exact fun σ' F2 H2 s2 r=>h σ' F2 H2 (s.trans s2) r
 | ct=>exact fun σ' F2 H2 s2 r=>h σ' F2 H2 (s.trans s2) r
 | rt d=>exact h
theorem qm(h1:PS X st (tDS X.K u))(h2:PSs X rest (tDS X.K w)): PSs X (st :: rest) (tDS X.K (qw u w)):=q3u (q4c h1 h2) fun D σ H ⟨F0,H0,F, ρ,fl, ρ',r,hf,q⟩=>by
 obtain⟨⟨fl1, ρ1⟩,h3,h4⟩:=g0.mp hf;refine⟨F0,H0,F, ρ,fl1, ρ1,r,h3,?_⟩;cases fl1 with
 | nx=>exact fun σ' F' H' s r'=>⟨F0,H0,F', ρ1,fl, ρ',r',h4,q2w s q⟩
 | bk=>cases h4;exact q
 | ct=>cases h4;exact q
 | rt d=>cases h4;exact q
theorem qr(h1:PS X st (tDS X.K u)): PSs X [st] (tDS X.K u):=q3t h1
theorem zt{c:Expr}{a b:List Stmt}(hc:PT X c (tDT X.K t))(ha:PSs X a (tDS X.K u))(hb:PSs X b (tDS X.K w)): PS X (.If c a b pos) (tDS X.K (sIf t u w)):=y8 (ql3 hc ha hb) fun D σ H ⟨F0,H0,F, ρ,fl, ρ',r,hf,q⟩=>by
 obtain⟨c,h1,h2⟩:=g0.mp hf;refine⟨F0,H0,F, ρ,c,r,h1,fun F' H' g'=>?_⟩;cases c with
 | true=>rw [gy rfl] at h2 ⊢;exact⟨F0,H0,F', ρ,fl, ρ',r.grow g',h2,q2w g'.ff q⟩
 | false=>rw [ma m5] at h2 ⊢;exact⟨F0,H0,F', ρ,fl, ρ',r.grow g',h2,q2w g'.ff q⟩
theorem zc(he:PE X e (tD X.K f)): PS X (.Return (some e) pos) (tDS X.K (zv f)):=y8 (qh7 he) fun D σ H ⟨F0,H0,F, ρ,fl, ρ',r,hf,q⟩=>by
 obtain⟨d,h1,h2⟩:=gr.mp hf;cases h2;exact⟨F0,H0,F, ρ,d,r,h1,fun v F' H' g' r'=>q v σ F' H' (r.grow g') r'⟩
theorem qm3(he:PE X e (tD X.K f))(hs:swapsWith e none pos.line X.env=pure false:=by rfl): PS X (.Expr e pos) (tDS X.K (q87 f)):=y8 (q6a he hs) fun D σ H ⟨F0,H0,F, ρ,fl, ρ',r,hf,q⟩=>by
 obtain⟨d,h1,h2⟩:=gr.mp hf;cases h2;exact⟨F0,H0,F, ρ,d,r,h1,fun v F' H' g' r'=>q σ F' H' g'.ff (r.grow g')⟩
theorem qqe{K:Frag}{i:Nat}{D:Ends}{σ : St}{H:Hp}(h:tDS K (zg i f) D σ H): tD K f σ H fun x H1=>q1n i x σ H1 D.nx:=by
 obtain⟨F0,H0,F, ρ,fl, ρ',r,hf,q⟩:=h;obtain⟨d,h1,h2⟩:=gr.mp hf;cases h2;exact⟨F0,H0,F, ρ,d,r,h1,fun v F' H' g' r'=>q _ F' H' g'.ff ((r.grow g').set i r')⟩
theorem ql6{K:Frag}{i:Nat}{D:Ends}{σ : St}{H:Hp}(h:tDS K (q27 i fa) D σ H): tL K fa σ H fun x H1=>q1n i x σ H1 D.nx:=by
 obtain⟨F0,H0,F, ρ,fl, ρ',r,hf,q⟩:=h;obtain⟨ds,h1,h2⟩:=gr.mp hf;cases h2;refine⟨F0,H0,F, ρ,ds,r,h1,fun a xs F' H' g' fa' ha' hl r'=>q _ F' H' g'.ff ((r.grow g').setO i hl fa' (r.g.hh.free ha') r' (fun j es z1 z2=>?_) fun j kvs z1=>?_)⟩
 ·obtain⟨b,ys,e1,e2,_⟩:=r.ow j es z1
  rw [z2] at e1;obtain rfl:a=b:=by simpa using e1
  rw [ha'] at e2;cases e2
 ·obtain⟨b,bs,e1,e2,e3⟩:=r.od j kvs z1
  refine⟨b,bs,e1,e2.grow g',fun z=>?_,e3⟩;obtain⟨xs,f,_⟩:=e2.mem z;rw [ha'] at f;cases f
theorem qy{i:Nat}{x:Str}{px:Pos}(hN:X.N.Nodup)(hi:X.N[i]? = some x)(hx:Loc X.env.scope x)(he:PE X e (tD X.K f))(hs:swapsWith e (some (.Name x px)) pos.line X.env=pure false:=by rfl)(hf:X.fn x=true\/X.env.scope.names.lookup x=some .local:=by first|exact .inl rfl|exact .inr rfl|assumption):
  PS X (.Assign [.Name x px] e pos) (tDS X.K (zg i f)):=y8 (q7y hN hi hx he hs hf) fun D σ H h=>qqe h
theorem q88{i:Nat}{x:Str}{px:Pos}(hN:X.N.Nodup)(hi:X.N[i]? = some x)(hx:Loc X.env.scope x)(he:PE X e (tL X.K fa))(hs:swapsWith e (some (.Name x px)) pos.line X.env=pure false:=by rfl)(hf:X.fn x=true\/X.env.scope.names.lookup x=some .local:=by first|exact .inl rfl|exact .inr rfl|assumption):
  PS X (.Assign [.Name x px] e pos) (tDS X.K (q27 i fa)):=y8 (q7y hN hi hx he hs hf) fun D σ H h=>ql6 h
def q7h(i:Nat)(ρ : Rho): Option (List D):=match ρ[i]? with
 | some (some (.ow ds))=>some ds
 | _=>none
theorem qhw{i:Nat}{ρ : Rho}{ds:List D}(h:q7h i ρ = some ds): ρ[i]? = some (some (.ow ds)):=by
 unfold q7h at h
 split at h
 ·rename_i e;rw [e,n3 h]
 ·cases h
def q2x(i:Nat)(f:FE): FS:=fun ρ =>(q7h i ρ).bind fun ds=>(f ρ).bind fun d=>if ds.length<lim then some (.nx, ρ.set i (some (.ow (ds++[d])))) else none
theorem q89{i:Nat}{x:Str}{px apos cpos:Pos}(hv:PE X (.Name x px) (q2s i))(he:PE X e (tD X.K f))
  (hbase:attributeBase (.Name x px) "append" X.env (eval (.Name x px) X.env)=eval (.Name x px) X.env:=by rfl)
  (hfew:((backTo cpos (starEach [e] X.env)).all (fun x=> !x.1)&&(backToKw cpos (keywordEach [] X.env)).all (fun x=>x.1.isSome)&&decide ([e].length+([]:List Keyword).length+(if([]:List Keyword).isEmpty then 0 else 1)<30))=true:=by rfl)
  (hline:(apos.endLine==cpos.line)=true:=by rfl) (hse:starEach [e] X.env=(false,eval e X.env) :: starEach [] X.env:=by rfl)
  (hs:swapsWith (.Call (.Attribute (.Name x px) "append" apos) [e] [] cpos) none pos.line X.env=pure false:=by rfl):PS X (.Expr (.Call (.Attribute (.Name x px) "append" apos) [e] [] cpos) pos) (tDS X.K (q2x i f)):=
 y8 (q6a (q82 PySem.F.plainAttrs_list PySem.F.slot_list_append PySem.F.type_list_append q5c hv (jj he y6 hse) hbase hfew hline hse rfl) hs) fun D σ H ⟨F0,H0,F, ρ,fl, ρ',r,hf,q⟩=>by
  obtain⟨ds,h1,hf⟩:=g0.mp hf;obtain⟨d,h2,h3⟩:=g0.mp hf;have h1:=qhw h1
  split at h3
  ·rename_i hl
   cases h3;obtain⟨a,xs,e1,e2,e3,e4,e5⟩:=r.ow i ds h1;refine⟨.ref a,e1,.inl ⟨rfl,xs,SqL.of e2⟩,F0,H0,F, ρ,d,r,h2,fun v F' H' g' r'=>?_⟩;have r2:=r.grow g';refine⟨a,xs,v,rfl,rfl,g'.hh.lst _ _ e2,q3b (by rw [<- e5.length];exact hl),?_⟩;exact q _ F' _ g'.ff (r2.wrt h1 e1 ((e5.mono g'.ff).append (.cons r' .nil)))
  ·cases h3
def frz(i:Nat)(ρ : Rho): Rho:=match ρ[i]? with
 | some (some (.ow ds))=> ρ.set i (some (.fz (.lst ds)))
 | _=> ρ
def q1d(i:Nat)(u:FS): FS:=fun ρ =>u (frz i ρ)
theorem qog{K:Frag}{F0 H0 F H:Hp}{σ : St}{ρ : Rho}(i:Nat)(r:RS K F0 H0 F H σ ρ): ∃F',Same F F'/\RS K F0 H0 F' H σ (frz i ρ):=by
 unfold frz
 split
 ·rename_i ds h
  exact r.freeze h
 ·exact⟨F,.refl _,r⟩
theorem q2y(i:Nat){sts:List Stmt}(h:PSs X sts (tDS X.K u)): PSs X sts (tDS X.K (q1d i u)):=q3u h fun D σ H ⟨F0,H0,F, ρ,fl, ρ',r,hf,q⟩=>by
 obtain⟨F',s',r'⟩:=qog i r;exact⟨F0,H0,F',frz i ρ,fl, ρ',r',hf,q2w s' q⟩
end
def j6(n:Nat)(u:FS)(ds:List D): Option D:=match u (ds.map (fun d=>some (.fz d))++List.replicate (n-ds.length) none) with
 | some (.rt d,_)=>some d
 | some (.nx,_)=>some .non
 | _=>none
theorem qa7{N:List Str}{vs:List V}{i:Nat}{v:V}(h:vs[i]? = some v): (L2.start N vs)[i]? = some (some v):=by
 unfold L2.start;have hi:i<vs.length:=(n8.mp h).1;rw [nh (by simpa using hi),gz,h];rfl
theorem qhx{P:Program}{w:World}{K:Frag}{H:Hp}{vs:List V}{Q:VK}{N:List Str}{u:FS}{ar:Nat}{E:XK}(hl:ar<=N.length)(h:spD K ar (j6 N.length u) vs H Q E): tDS K u {nx:=fun _ H'=>Q .non H',rt:=Q} (L2.start N vs) H:=by
 obtain⟨F,ds,d,fh,rl,el,hd,q⟩:=h;have hlen:=rl.length;have r:RS K F H F H (L2.start N vs) (ds.map (fun d=>some (.fz d))++List.replicate (N.length-ds.length) none):={
  t0:=⟨fh.t,fh.f⟩
  g:=.refl fh.s
  len:=by unfold L2.start;simp only [gc,g7,g1t];omega
  fz :=fun i e h1=>by
   by_cases hi:i<ds.length
   ·rw [nh (by simpa using hi),gz] at h1
    cases z:ds[i]? with
    | none=>rw [z] at h1;cases h1
    | some d'=>
     rw [z] at h1;cases h1;obtain⟨v,e1,e2⟩:=rl.get z;exact⟨v,qa7 e1,e2⟩
   ·rw [nq (by simpa using hi),pb] at h1
    split at h1 <;> cases h1
  ow:=fun i es h1=>by
   by_cases hi:i<ds.length
   ·rw [nh (by simpa using hi),gz] at h1
    cases z:ds[i]? with
    | none=>rw [z] at h1;cases h1
    | some d'=>rw [z] at h1;cases h1
   ·rw [nq (by simpa using hi),pb] at h1
    split at h1 <;> cases h1
  dj:=fun i j us es a _ h1=>by
   by_cases hi:i<ds.length
   ·rw [nh (by simpa using hi),gz] at h1
    cases z:ds[i]? with
    | none=>rw [z] at h1;cases h1
    | some d'=>rw [z] at h1;cases h1
   ·rw [nq (by simpa using hi),pb] at h1
    split at h1 <;> cases h1
  od:=fun i kvs h1=>by
   by_cases hi:i<ds.length
   ·rw [nh (by simpa using hi),gz] at h1
    cases z:ds[i]? with
    | none=>rw [z] at h1;cases h1
    | some d'=>rw [z] at h1;cases h1
   ·rw [nq (by simpa using hi),pb] at h1
    split at h1 <;> cases h1
  o1:=fun i j k1 k2 h1=>by
   by_cases hi:i<ds.length
   ·rw [nh (by simpa using hi),gz] at h1
    cases z:ds[i]? with
    | none=>rw [z] at h1;cases h1
    | some d'=>rw [z] at h1;cases h1
   ·rw [nq (by simpa using hi),pb] at h1
    split at h1 <;> cases h1}
 unfold j6 at hd;cases z:u (ds.map (fun d=>some (.fz d))++List.replicate (N.length-ds.length) none) with
 | none=>rw [z] at hd;cases hd
 | some p=>
  obtain⟨fl, ρ'⟩:=p;rw [z] at hd;refine⟨F,H,F,_,fl, ρ',r,z,?_⟩;cases fl with
  | nx=>cases hd;exact fun σ' F' H' s' r'=>q .non F' H' r'.g (rep_non.mpr rfl)
  | bk=>cases hd
  | ct=>cases hd
  | rt d'=>cases hd;exact fun v σ' F' H' g' r'=>q v F' H' g'.g r'
theorem qqf{P:Program}{w:World}{K:Frag}{mg:Str->Option Value}{base:Heap}{k:Nat}{f:Addr}{name qual:Str}{params:Arguments}{body:List Stmt}{scope:Scope}{dV kV doc pm cdv ct oc:Value}{an od:Option Addr}
  {osl:Array (Option Value)} {N ps:List Str} {u:FS} (lk:K.lookup f=some ⟨oc,od,.func (PySem.W.fnOf name qual params body scope dV kV doc pm an cdv ct),osl⟩) (hcd:PySem.W.codeIn K cdv qual=true) (S:FnScope N ps scope)
  (hb:∀(A:Around) (outer:List Env) (s:Shared) (H:Hp) (E:XK),Room k (A.deeper (envOfC qual scope s.heap.objs.size f cdv))->PSs (qv CX0 P w K mg base N qual scope f cdv A outer s H E).nox body (tDS K u)) :
  FnOk P w K mg base CX0 (k+1) f (PySem.W.fnOf name qual params body scope dV kV doc pm an cdv ct) ps (spD K ps.length (j6 N.length u)):=by
 have hpl:ps.length<=N.length:=by have:=n6 List.length S.pre;rw [mf] at this;omega
 refine qfo lk hcd S (fun vs H Q E h=>?_) fun A outer s H vs Q E hr hsp=>⟨_,(hb A outer s H E hr).nox,qhx (P:=P) (w:=w) hpl hsp⟩
 obtain⟨F,ds,d,_,rl,el,_⟩:=h;rw [<- rl.length];exact el
structure ItD(K:Frag)(F:Hp)(ds:List D)(J:It): Prop where
 go:∀(i:Nat) (F' H:Hp),Same F F'->Same F' H->i<ds.length->J.go i H
 yld:∀(i:Nat) (d:D) (F' H:Hp) (x:V) (H':Hp),Same F F'->Same F' H->ds[i]? = some d->J.yld i H x H'->∃F'',Grow F' H F'' H'/\Rep K F'' d x
 stop:∀(i:Nat) (F' H:Hp),Same F F'->Same F' H->ds.length<=i->J.stop i H
def tDI(K:Frag)(f:FA): TI:=fun σ H R=>∃F0 H0 F ρ ds,RS K F0 H0 F H σ ρ /\ f ρ = some ds/\∀J F' H',Grow F H F' H'->ItD K F' ds J->R J H'
abbrev FB:=D->Rho->Option Rho
abbrev FBs:=List D->Rho->Option Rho
def tDG(K:Frag)(b:FB): TG:=fun v σ H Q=>∃F0 H0 F ρ d ρ',RS K F0 H0 F H σ ρ /\ Rep K F d v/\b d ρ = some ρ'/\∀ σ',RS K F0 H0 F H σ' ρ'->Q σ' H
def qfu(K:Frag)(b:FBs): TGs:=fun vs σ H Q=>∃F0 H0 F ρ ds ρ',RS K F0 H0 F H σ ρ /\ RepL K F ds vs/\b ds ρ = some ρ'/\∀ σ',RS K F0 H0 F H σ' ρ'->Q σ' H
section
variable{X:Cx}{tg e:Expr}{es:List Expr}{pos:Pos}
theorem qbr{t t':TI}(h:PI X tg e t)(i:∀ σ H R,t' σ H R->t σ H R): PI X tg e t':=fun pins s σ H R I q=>h pins s σ H R I (i σ H R q)
theorem qhy{t t':TG}(h:PG X e t)(i:∀v σ H Q,t' v σ H Q->t v σ H Q): PG X e t':=fun pins s σ H v u Q I r q=>h pins s σ H v u Q I r (i v σ H Q q)
theorem qed{t t':TGs}(h:PGs X es t)(i:∀v σ H Q,t' v σ H Q->t v σ H Q): PGs X es t':=fun pins s σ H v u Q I r q=>h pins s σ H v u Q I r (i v σ H Q q)
def bN(i:Nat): FB:=fun d ρ =>some (ρ.set i (some (.fz d)))
def q2z:FBs:=fun ds ρ =>if ds.isEmpty then some ρ else none
def yu(b:FB)(bs:FBs): FBs:=fun ds ρ =>match ds with
 | d :: r=>(b d ρ).bind fun ρ'=>bs r ρ'
 | []=>none
def q30(n:Nat)(bs:FBs): FB:=fun d ρ =>match d with
 | .tup ds=>if ds.length=n then bs ds ρ else none
 | _=>none
theorem zx{i:Nat}{x:Str}(hN:X.N.Nodup)(hi:X.N[i]? = some x)(hx:Loc X.env.scope x)(hf:X.fn x=true\/X.env.scope.names.lookup x=some .local:=by first|exact .inl rfl|exact .inr rfl|assumption): PG X (.Name x pos) (tDG X.K (bN i)):=
 qhy (q6b hN hi hx hf) fun v σ H Q ⟨F0,H0,F, ρ,d, ρ',r,hr,hb,q⟩=>by
  cases hb;exact q _ (r.set i hr)
theorem qbs:PGs X [] (qfu X.K q2z):=qed qe6 fun vs σ H Q ⟨F0,H0,F, ρ,ds, ρ',r,hr,hb,q⟩=>by
 unfold q2z at hb
 split at hb
 ·rename_i z
  cases hb;have z':ds=[]:=by simpa using z
  subst z';exact⟨hr.nil_inv,q σ r⟩
 ·cases hb
theorem q2p{b:FB}{bs:FBs}(h1:PG X e (tDG X.K b))(h2:PGs X es (qfu X.K bs))(hs:(assignEach (e :: es) X.env).map (·.2)=assign e X.env :: (assignEach es X.env).map (·.2):=by rfl): PGs X (e :: es) (qfu X.K (yu b bs)):=
 qed (q7c h1 h2 hs) fun vs σ H Q ⟨F0,H0,F, ρ,ds, ρ',r,hr,hb,q⟩=>by
  cases ds with
  | nil=>cases hb
  | cons d ds=>
   obtain⟨v,vr,rfl,h3,h4⟩:=hr.cons_inv;obtain⟨ρ1,h5,h6⟩:=g0.mp hb;exact⟨v,vr,rfl,F0,H0,F, ρ,d, ρ1,r,h3,h5,fun σ' r'=>⟨F0,H0,F, ρ1,ds, ρ',r',h4,h6,q⟩⟩
theorem qbt{k n:Nat}{bs:FBs}(hc:X.calm=true)(h:PGs X es (qfu X.K bs))(hn:(assignEach es X.env).length=n:=by rfl)(hst:(assignEach es X.env).findIdx? (·.1)=none:=by rfl): PG X (.Tuple es k pos) (tDG X.K (q30 n bs)):=
 qhy (qh8 hc h hn hst) fun v σ H Q ⟨F0,H0,F, ρ,d, ρ',r,hr,hb,q⟩=>by
  cases d <;> simp only [q30] at hb <;> first|(cases hb;done)|skip
  rename_i ds
  split at hb
  ·rename_i hl
   obtain⟨a,xs,rfl,h1,h2⟩:=rep_tup.mp hr;exact⟨a,xs,rfl,z9 r.fh h1,by rw [<- h2.length];exact hl,F0,H0,F, ρ,ds, ρ',r,h2,hb,q⟩
  ·cases hb
def qqg(f:FE)(b:FB): FS:=fun ρ =>(f ρ).bind fun d=>(b d ρ).map fun ρ'=>(.nx, ρ')
theorem qjn{K:Frag}{F:Hp}{a:Addr}{xs:List V}{ds:List D}(h:SqL K F a xs)(hd:RepL K F ds xs): ItD K F ds (Itl K a) where
 go:=fun i F' H s1 s2 hi=>⟨xs,xs[i]'(by rw [<- hd.length];exact hi),(s1.trans s2).seq h,by simp⟩
 yld:=fun i d F' H x H' s1 s2 hi ⟨e,y⟩=>by
  subst e;obtain⟨z,h1,h2⟩:=hd.get hi;have:=y xs ((s1.trans s2).seq h);rw [h1] at this;cases this;exact⟨F',.refl s2,h2.mono s1⟩
 stop:=fun i F' H s1 s2 hi=>⟨xs,(s1.trans s2).seq h,by rw [<- hd.length];exact hi⟩
theorem qm4{K:Frag}{F:Hp}{a:Addr}{xs:List V}{ds:List D}(h:SqT K F a xs)(hd:RepL K F ds xs): ItD K F ds (Itt K a) where
 go:=fun i F' H s1 s2 hi=>⟨xs,xs[i]'(by rw [<- hd.length];exact hi),z9 (s1.trans s2) h,by simp⟩
 yld:=fun i d F' H x H' s1 s2 hi ⟨e,y⟩=>by
  subst e;obtain⟨z,h1,h2⟩:=hd.get hi;have:=y xs (z9 (s1.trans s2) h);rw [h1] at this;cases this;exact⟨F',.refl s2,h2.mono s1⟩
 stop:=fun i F' H s1 s2 hi=>⟨xs,z9 (s1.trans s2) h,by rw [<- hd.length];exact hi⟩
def zf(lo:Int)(n:Nat): List D:=(List.range n).map fun i:Nat=>.int (lo+i)
theorem qa8{K:Frag}{F:Hp}(lo:Int)(n:Nat): ItD K F (zf lo n) (Itr lo n) where
 go:=fun i F' H s1 s2 hi=>by show i<n;simpa [zf] using hi
 yld:=fun i d F' H x H' s1 s2 hi ⟨e,y⟩=>by
  subst e y;simp only [zf,gz] at hi;cases q:(List.range n)[i]? with
  | none=>rw [q] at hi;cases hi
  | some j=>
   rw [q] at hi;cases hi;have:j=i:=by
    have h2:=n8.mp q;obtain⟨h3,h4⟩:=h2;rw [List.getElem_range] at h4;exact h4.symm
   subst this;exact⟨F',.refl s2,rep_int.mpr rfl⟩
 stop:=fun i F' H s1 s2 hi=>by show n<=i;simpa [zf] using hi
def q4g:D->Option (List D)
 | .tup ds=>some ds
 | .lst ds=>some ds
 | _=>none
def xq(f:FE): FA:=fun ρ =>(f ρ).bind q4g
theorem qqh{l:Expr}{tl:TE}(hl:PE X l tl): PI X tg l (fun σ H R=>tl σ H fun x H1=>(∃a,x=.ref a/\(∃xs,SqL X.K H1 a xs)/\R (Itl X.K a) H1)\/(∃a,x=.ref a/\(∃xs,SqT X.K H1 a xs)/\R (Itt X.K a) H1)):=by
 intro pins s σ H R I h;refine thn (hl pins s σ H _ I h) fun v s1 ⟨x,H1,I1,r1,q1⟩=>?_;rcases q1 with⟨a,e,⟨xs,hq⟩,q⟩|⟨a,e,⟨xs,hq⟩,q⟩
 ·subst e
  cases r1;obtain⟨its,rv,p,hz⟩:=I1.list hq;refine g2g p.isList ?_;refine⟨s1.heap.objs.size,[s1.heap.objs.size],_,_,H1,rfl,I1.kept (t':=s1.toks) fun b o e=>gb _ e,qh9 a _,⟨_,md _ rfl,rfl,rfl⟩,fun b hb=>?_,q⟩;have e:b=s1.heap.objs.size:=by simpa using hb
  subst e;exact I1.fpOk (gw _) (I1.hok.fresh (gw _))
 ·subst e
  cases r1;obtain⟨its,rv,p,hz⟩:=I1.tuple hq;refine wpAny_pyIter_tuple (show s1.heap.IsTuple a its.toArray from p) ?_;refine⟨s1.heap.objs.size,[s1.heap.objs.size],_,_,H1,rfl,I1.kept (t':=s1.toks) fun b o e=>gb _ e,qfi a _,⟨_,md _ rfl,rfl,rfl⟩,fun b hb=>?_,q⟩;have e:b=s1.heap.objs.size:=by simpa using hb
  subst e;exact I1.fpOk (gw _) (I1.hok.fresh (gw _))
theorem k8{f:FE}(h:PE X e (tD X.K f)): PI X tg e (tDI X.K (xq f)):=qbr (qqh h) fun σ H R ⟨F0,H0,F, ρ,ds,r,hf,q⟩=>by
 obtain⟨d,h1,h2⟩:=g0.mp hf;refine⟨F0,H0,F, ρ,d,r,h1,fun v F' H' g' r'=>?_⟩;cases d <;> simp only [q4g] at h2 <;> first|(cases h2;done)|skip
 ·cases h2
  obtain⟨a,xs,rfl,h3,h4⟩:=rep_tup.mp r';exact .inr ⟨a,rfl,⟨xs,z9 g'.fh h3⟩,q _ F' H' g' (qm4 h3 h4)⟩
 ·cases h2
  obtain⟨a,xs,rfl,h3,h4⟩:=rep_lst.mp r';exact .inl ⟨a,rfl,⟨xs,g'.fh.seq h3⟩,q _ F' H' g' (qjn h3 h4)⟩
def iR1(fa:FA): FA:=fun ρ =>(fa ρ).bind fun ds=>match ds with
 | [.int j]=>if decide (-(2 ^ 62)<=j)&&decide (j<2 ^ 62) then some (zf 0 j.toNat) else none
 | _=>none
def iR2(fa:FA): FA:=fun ρ =>(fa ρ).bind fun ds=>match ds with
 | [.int i,.int j]=>if(decide (-(2 ^ 62)<=i)&&decide (i<2 ^ 62))&&(decide (-(2 ^ 62)<=j)&&decide (j<2 ^ 62)) then some (zf i (j-i).toNat) else none
 | _=>none
theorem y9{a:Expr}{fa:FA}{p:Pos}(hg:Gl X "range")(hm:X.mg "range" = none)(ha:PA X [a] (tDA X.K fa))(hs:starEach [a] X.env=[(false,eval a X.env)]:=by rfl): PI X tg (.Call (.Name "range" p) [a] [] pos) (tDI X.K (iR1 fa)):=
 qbr (qha hg hm ha hs) fun σ H R ⟨F0,H0,F, ρ,ds,r,hf,q⟩=>by
  obtain⟨es,h1,h2⟩:=g0.mp hf;refine⟨F0,H0,F, ρ,es,r,h1,fun vs F' H' g' r'=>?_⟩
  split at h2
  ·rename_i j
   split at h2
   ·rename_i z
    cases h2;obtain⟨x,t,rfl,h3,h4⟩:=r'.cons_inv;cases h4.nil_inv;obtain⟨z1,z2⟩:=q2o z;exact⟨j,by rw [rep_int.mp h3],z1,z2,q _ F' H' g' (qa8 0 _)⟩
   ·cases h2
  ·cases h2
theorem qhz{a b:Expr}{fa:FA}{p:Pos}(hg:Gl X "range")(hm:X.mg "range" = none)(ha:PA X [a,b] (tDA X.K fa))(hs:starEach [a,b] X.env=[(false,eval a X.env),(false,eval b X.env)]:=by rfl)(hs2:starEach [b] X.env=[(false,eval b X.env)]:=by rfl):
  PI X tg (.Call (.Name "range" p) [a,b] [] pos) (tDI X.K (iR2 fa)):=
 qbr (qhb hg hm ha hs hs2) fun σ H R ⟨F0,H0,F, ρ,ds,r,hf,q⟩=>by
  obtain⟨es,h1,h2⟩:=g0.mp hf;refine⟨F0,H0,F, ρ,es,r,h1,fun vs F' H' g' r'=>?_⟩
  split at h2
  ·rename_i i j
   split at h2
   ·rename_i z
    cases h2;obtain⟨x,t,rfl,h3,h4⟩:=r'.cons_inv;obtain⟨x2,t2,rfl,h5,h6⟩:=h4.cons_inv;cases h6.nil_inv;rw [gu] at z;obtain⟨z1,z2⟩:=q2o z.1;obtain⟨z3,z4⟩:=q2o z.2;exact⟨i,j,by rw [rep_int.mp h3,rep_int.mp h5],⟨z1,z2,z3,z4⟩,q _ F' H' g' (qa8 _ _)⟩
   ·cases h2
  ·cases h2
def runFor(b:FB)(body:FS): List D->Rho->Option (Fl×Rho)
 | [], ρ =>some (.nx, ρ)
 | d :: ds, ρ =>(b d ρ).bind fun ρ1=>(body ρ1).bind fun r=>match r with
  | (.nx, ρ2)=>runFor b body ds ρ2
  | (.ct, ρ2)=>runFor b body ds ρ2
  | (.bk, ρ2)=>some (.nx, ρ2)
  | (.rt v, ρ2)=>some (.rt v, ρ2)
def q28(it:FA)(b:FB)(body:FS): FS:=fun ρ =>(it ρ).bind fun ds=>runFor b body ds ρ
theorem q20{iter:Expr}{body:List Stmt}{it:FA}{b:FB}{u:FS}(hp:PassesOwn (model X.prog X.w) X.A X.env X.xe)(hc:X.calm=true)(hi:PI X tg iter (tDI X.K it))(hg:PG X tg (tDG X.K b))(hb:PSs X body (tDS X.K u))
  (hs:∀x,foldedSetIterable iter X.env x=pure x:=by intro _;rfl):PS X (.For tg iter body [] pos) (tDS X.K (q28 it b u)):=y8 (qbe hp hc hi hg hb hs) fun D σ H ⟨F0,H0,F, ρ,fl, ρ',r,hf,q⟩=>by
 obtain⟨ds,h1,h2⟩:=g0.mp hf;refine⟨F0,H0,F, ρ,ds,r,h1,fun J F1 H1 g1 itd=>?_⟩;refine⟨fun i m σ H=>m=ds.length-i/\i<=ds.length/\∃F' ρi,Same F1 F'/\RS X.K F0 H0 F' H σ ρi/\runFor b u (ds.drop i) ρi=some (fl, ρ'),⟨ds.length,by simp,pz _,F1, ρ,.refl _,r.grow g1,by simpa using h2⟩,?_⟩
 rintro i m σ H ⟨rfl,hi,F', ρi,s1,r1,h3⟩
 by_cases hlt:i<ds.length
 ·have hd:ds.drop i=ds[i] :: ds.drop (i+1):=t9 hlt
  rw [hd] at h3;obtain⟨ρ1,h4,h5⟩:=g0.mp h3;obtain⟨⟨fl1, ρ2⟩,h6,h7⟩:=g0.mp h5;refine .inr ⟨itd.go i F' H s1 r1.fh hlt,fun σ' H'=>∃F',Same F1 F'/\RS X.K F0 H0 F' H' σ' ρ2/\runFor b u (ds.drop (i+1)) ρ2=some (fl, ρ'),fun σ' H' ⟨F',z1,z2,z3⟩=>⟨ds.length-(i+1),by omega,rfl,hlt,F', ρ2,z1,z2,z3⟩,fun x H' y=>?_⟩;obtain⟨F2,g2,r2⟩:=itd.yld i ds[i] F' H x H' s1 r1.fh (by simp [hlt]) y;refine⟨F0,H0,F2, ρi,ds[i], ρ1,r1.grow g2,r2,h4,fun σ' r3=>⟨F0,H0,F2, ρ1,fl1, ρ2,r3,h6,?_⟩⟩;cases fl1 with
  | nx=>exact fun σ2 F3 H3 s3 r4=>⟨F3,(s1.trans g2.ff).trans s3,r4,h7⟩
  | ct=>exact fun σ2 F3 H3 s3 r4=>⟨F3,(s1.trans g2.ff).trans s3,r4,h7⟩
  | bk=>cases h7;exact fun σ2 F3 H3 s3 r4=>q σ2 F3 H3 ((g1.ff.trans (s1.trans g2.ff)).trans s3) r4
  | rt d=>cases h7;exact q
 ·have e:i=ds.length:=by omega
  subst e;rw [g0q] at h3;cases h3;exact .inl ⟨itd.stop _ F' H s1 r1.fh (gw _),q σ F' H (g1.ff.trans s1) r1⟩
end
def qoh:Option B->Option B
 | some (.fz d)=>some (.fz d)
 | _=>none
def ve(cap:List (Option Nat))(ρ : Rho): Rho:=cap.map fun o=>o.bind fun j=>qoh (ρ[j]?).join
structure Sub(ρ ρ':Rho): Prop where
 len : ρ.length = ρ'.length
 sub:∀(i:Nat) (b:B), ρ[i]? = some (some b) -> ρ'[i]? = some (some b)
theorem RS.weak{K:Frag}{F0 H0 F H:Hp}{σ : St}{ρ ρ':Rho}(r:RS K F0 H0 F H σ ρ')(s:Sub ρ ρ'): RS K F0 H0 F H σ ρ where
 t0:=r.t0
 g:=r.g
 len:=by rw [s.len];exact r.len
 fz:=fun i d e=>r.fz i d (s.sub i _ e)
 ow:=fun i ds e=>r.ow i ds (s.sub i _ e)
 dj:=fun i j ds es a h e1 e2=>r.dj i j ds es a h (s.sub i _ e1) (s.sub j _ e2)
 od:=fun i kvs e=>let⟨a,bs,e1,e2,e3⟩:=r.od i kvs (s.sub i _ e); ⟨a,bs,e1,e2,fun j es b h=>e3 j es b (s.sub j _ h)⟩
 o1:=fun i j k1 k2 e1 e2=>r.o1 i j k1 k2 (s.sub i _ e1) (s.sub j _ e2)
def q2d(ρ : Rho): Prop:=∀(i:Nat) (b:B), ρ[i]? = some (some b)->∃d,b=.fz d
theorem q4h{ρ : Rho}(no:q2d ρ){i:Nat}{ds:List D}(h : ρ[i]? = some (some (.ow ds))): False:=let⟨_,e⟩:=no i _ h;nomatch e
theorem q4i{ρ : Rho}(no:q2d ρ){i:Nat}{ds}(h : ρ[i]? = some (some (.od ds))): False:=let⟨_,e⟩:=no i _ h;nomatch e
theorem vh(cap:List (Option Nat))(ρ : Rho): q2d (ve cap ρ):=fun i ds h=>by
 unfold ve at h;rw [gz] at h;cases q:cap[i]? with
 | none=>rw [q] at h;cases h
 | some o=>
  rw [q] at h;cases o with
  | none=>cases h
  | some j=>
   simp only [mq,g6,g1g] at h;generalize (ρ[j]?).join=z at h;cases z with
   | none=>cases h
   | some b=>cases b with
    | fz d=>cases h;exact⟨d,rfl⟩
    | ow _=>cases h
    | od _=>cases h
theorem qi0{K:Frag}{F0 H0 F H:Hp}{σ : St}{ρ : Rho}(cap:List (Option Nat))(r:RS K F0 H0 F H σ ρ): RS K F H F H (q7f cap σ) (ve cap ρ) where
 t0:=⟨r.tab,r.tabF⟩
 g:=.refl r.fh
 len:=by unfold q7f ve;rw [g7,g7]
 fz := fun i d h=>by
  unfold ve at h;rw [gz] at h;cases q:cap[i]? with
  | none=>rw [q] at h;cases h
  | some o=>
   rw [q] at h;cases o with
   | none=>cases h
   | some j=>
    simp only [mq,g6,g1g] at h;have e : ρ[j]? = some (some (.fz d)):=by
     cases z : ρ[j]? with
     | none=>rw [z] at h;cases h
     | some b=>
      rw [z] at h;cases b with
      | none=>cases h
      | some b=>cases b with
       | fz d'=>cases h;rfl
       | ow _=>cases h
       | od _=>cases h
    obtain⟨v,e1,e2⟩:=r.fz j d e;refine⟨v,?_,e2⟩;unfold q7f;rw [gz,q];simp only [mq,g6,e1,g1q]
 ow:=fun i ds h=>(q4h (vh cap ρ) h).elim
 dj:=fun i j ds es a _ h=>(q4h (vh cap ρ) h).elim
 od:=fun i ds h=>(q4i (vh cap ρ) h).elim
 o1:=fun i j ds es h=>(q4i (vh cap ρ) h).elim
theorem RS.other{K:Frag}{F0 H0 F H:Hp}{σ : St}{ρ : Rho}(r:RS K F0 H0 F H σ ρ)(no:q2d ρ){p:Addr}{o:HO}(h1:F p=none)(h2:H0 p=none)(h3:H p=none\/∃xs,H p=some (.lst xs)): RS K F0 H0 F (upd H p o) σ ρ where
 t0:=r.t0
 g :=⟨r.g.ff,⟨fun b u e=>by rw [qu (fun z=>by subst z;rw [h2] at e;cases e)];exact r.g.hh.lst b u e,fun b u e=>by rw [qu (fun z=>by subst z;rw [h2] at e;cases e)];exact r.g.hh.ext b u e,fun {b} e=>by
   by_cases z:b=p
   ·subst z;exact h2
   ·rw [qu z] at e;exact r.g.hh.free e,fun t=>(r.g.hh.tb t).upd h3,fun b u e=>by rw [qu (fun z=>by subst z;rw [h2] at e;cases e)];exact r.g.hh.dk b u e⟩,fun b u e=>by rw [qu (fun z=>by subst z;rw [h1] at e;cases e)];exact r.g.fh b u e,r.g.nw⟩
 len:=r.len
 fz:=r.fz
 ow:=fun i ds h=>(q4h no h).elim
 dj:=fun i j ds es a _ h=>(q4h no h).elim
 od:=fun i ds h=>(q4i no h).elim
 o1:=fun i j ds es h=>(q4i no h).elim
theorem q21{F H F' H':Hp}{p:Addr}(g:Grow F H F' H')(h1:F p=none){o:HO}(h2:H p=some o): F' p=none:=by
 cases q:F' p with
 | none=>rfl
 | some u=>
  rcases g.nw p (by rw [q];simp) with z|z
  ·exact absurd h1 z
  ·rw [h2] at z;cases z
def jk(b:FB)(c:FT)(f:FE)(ρ : Rho): List D->Option (List D)
 | []=>some []
 | d :: ds=>(b d ρ).bind fun ρ1=>(c ρ1).bind fun t=>if t then(f ρ1).bind fun y=>(jk b c f ρ ds).map fun ys=>y :: ys else jk b c f ρ ds
def j9:FT:=fun _=>some true
def jl(it:FA)(cap:List (Option Nat))(b:FB)(c:FT)(f:FE): FA:=fun ρ =>(it ρ).bind fun ds=>if ds.length<=lim then jk b c f (ve cap ρ) ds else none
def q4j(b:FB)(cap:List (Option Nat)): Prop:=∀ ρ d ρ',b d (ve cap ρ)=some ρ'->Sub (ve cap ρ) ρ'/\q2d ρ'
section
variable{X:Cx}
theorem qjo{ifs:List Expr}{t t':TT}(h:q26 X ifs t)(i:∀ σ H Q,t' σ H Q->t σ H Q): q26 X ifs t':=fun pins s σ H Q I q=>h pins s σ H Q I (i σ H Q q)
theorem k9:q26 X [] (tDT X.K j9):=qjo qjf fun σ H Q ⟨F0,H0,F, ρ,b,r,hf,q⟩=>by cases hf;exact q F H (.refl r.fh)
theorem qoi{c:Expr}{t:FT}(h:PT X c (tDT X.K t)): q26 X [c] (tDT X.K t):=qjg h
theorem qi1{K:Frag}{it:FA}{cap:List (Option Nat)}{b:FB}{c:FT}{f:FE}{σ : St}{H:Hp}{Q:VK}(fr:q4j b cap)(h:tL K (jl it cap b c f) σ H Q): q84 (tDI K it) cap (tDG K b) (tDT K c) (tD K f) σ H Q:=by
 obtain⟨F0,H0,F, ρ,zs,r,hf,q⟩:=h;obtain⟨ds,h1,h2⟩:=g0.mp hf;have hlim:ds.length<=lim:=g2m fun z=>by rw [ma z] at h2;cases h2
 rw [gy hlim] at h2;refine⟨F0,H0,F, ρ,ds,r,h1,fun J F1 H1 g1 itd p hp=>?_⟩;have rc:=qi0 cap (r.grow g1);have hF1:F1 p=none:=g1.fh.free hp;refine⟨fun i m σ H=>m=ds.length-i/\i<=ds.length/\∃F' xs ys us,Same F1 F'/\RS K F1 H1 F' H σ (ve cap ρ)/\H p=some (.lst xs)/\F' p=none/\RepL K F' ys xs/\jk b c f (ve cap ρ) (ds.drop i)=some us/\ys++us=zs/\ys.length<=i,
  ⟨ds.length,by simp,pz _,F1,[],[],zs,.refl _,rc.other (vh cap ρ) hF1 hp (.inl hp),z7,hF1,.nil,by simpa using h2,rfl,gw _⟩,?_⟩
 rintro i m σ' H' ⟨rfl,hi,F',xs,ys,us,s1,r1,hl,hn,ry,h3,h4,hyi⟩
 by_cases hlt:i<ds.length
 ·have hd:ds.drop i=ds[i] :: ds.drop (i+1):=t9 hlt
  rw [hd] at h3;obtain⟨ρ1,h5,h3⟩:=g0.mp h3;obtain⟨t,h6,h3⟩:=g0.mp h3;obtain⟨sb,no1⟩:=fr ρ _ _ h5;refine .inr ⟨itd.go i F' H' s1 r1.fh hlt,fun x H'' y=>?_⟩;obtain⟨F2,g2,r2⟩:=itd.yld i ds[i] F' H' x H'' s1 r1.fh (by simp [hlt]) y;refine⟨F1,H1,F2,ve cap ρ,ds[i], ρ1,r1.grow g2,r2,h5,fun σ2 r3=>⟨F1,H1,F2, ρ1,t,r3,h6,fun F3 H3 g3=>?_⟩⟩;have r4:=r3.grow g3;have hl2:=g2.hh.lst _ _ hl;have hn2:=q21 g2 hn hl;have hl3:=g3.hh.lst _ _ hl2;have hn3:=q21 g3 hn2 hl2;cases t with
  | false=>
   rw [ma m5] at h3;exact qo7 ⟨ds.length-(i+1),by omega,rfl,hlt,F3,xs,ys,us,(s1.trans g2.ff).trans g3.ff,r4.weak sb,hl3,hn3,ry.mono (g2.ff.trans g3.ff),h3,h4,Nat.le_succ_of_le hyi⟩
  | true=>
   rw [gy rfl] at h3;obtain⟨yd,h7,h3⟩:=g0.mp h3;obtain⟨us',h8,h9⟩:=gr.mp h3;refine qje ⟨F1,H1,F3, ρ1,yd,r4,h7,fun v F4 H4 g4 r5=>?_⟩;have hl4:=g4.hh.lst _ _ hl3;have hn4:=q21 g4 hn3 hl3;have ss:Same F' F4:=(g2.ff.trans g3.ff).trans g4.ff;refine⟨xs,hl4,q3b (by have:=ry.length;omega),ds.length-(i+1),by omega,rfl,hlt,F4,xs++[v],ys++[yd],us',(s1.trans ss),?_,z7,hn4,(ry.mono ss).append (.cons r5 .nil),h8,?_,?_⟩
   ·exact((r4.grow g4).weak sb).other (vh cap ρ) hn4 hp (.inr ⟨_,hl4⟩)
   ·rw [mn,g3a,h9];exact h4
   ·rw [gc,gj];omega
 ·have e:i=ds.length:=by omega
  subst e;rw [g0q] at h3;cases h3;rw [my] at h4;subst h4;have gg:Grow F1 H1 F' H':=r1.g;exact .inl ⟨itd.stop _ F' H' s1 r1.fh (gw _),q p xs F' H' (g1.trans gg) hn (g1.hh.free hp) hl ry⟩
variable{N':List Str}{scope:Scope}{cap:List (Option Nat)}{tg iter elt:Expr}{ifs:List Expr}{it:FA}{b:FB}{c:FT}{f:FE}{pos:Pos}
theorem yl(hc:X.calm=true)(co:CapOk X N' scope cap)(fr:q4j b cap)(hi:PI X tg iter (tDI X.K it))
  (hg:∀cl C s₀ H₀ fp,PG (zl X N' scope cl C s₀ H₀ fp) tg (tDG X.K b)) (hcs:∀cl C s₀ H₀ fp,q26 (zl X N' scope cl C s₀ H₀ fp) ifs (tDT X.K c)) (he:∀cl C s₀ H₀ fp,PE (zl X N' scope cl C s₀ H₀ fp) elt (tD X.K f))
  (hs:∀x,foldedSetIterable iter X.env x=pure x:=by intro _;rfl):PE X (.ListComp elt [⟨tg,iter,ifs,0⟩] scope pos) (tL X.K (jl it cap b c f)):=
 j3 (qlx hc co hi hg hcs he hs) fun σ H Q h=>qi1 fr h
theorem qee{i:Nat}{x:Str}{px pe:Pos}(hc:X.calm=true)(hN:X.N.Nodup)(hx0:X.N[i]? = some x)(hx:X.env.scope.names.lookup x=some .local)(co:CapOk X N' scope cap)(fr:q4j b cap)(hi:PI X tg iter (tDI X.K it))
  (hg:∀cl C s₀ H₀ fp,PG (zl X N' scope cl C s₀ H₀ fp) tg (tDG X.K b)) (hcs:∀cl C s₀ H₀ fp,q26 (zl X N' scope cl C s₀ H₀ fp) ifs (tDT X.K c)) (he:∀cl C s₀ H₀ fp,PE (zl X N' scope cl C s₀ H₀ fp) elt (tD X.K f))
  (hsw:swapsWith (.ListComp elt [⟨tg,iter,ifs,0⟩] scope pe) (some (.Name x px)) pos.line X.env=pure true:=by rfl)
  (hs:∀x,foldedSetIterable iter X.env x=pure x:=by intro _;rfl):PS X (.Assign [.Name x px] (.ListComp elt [⟨tg,iter,ifs,0⟩] scope pe) pos) (tDS X.K (q27 i (jl it cap b c f))):=
 y8 (qfs hc hN hx0 hx co hi hg hcs he hsw hs) fun D σ H h=>qi1 fr (ql6 h)
end
theorem qbu{cap:List (Option Nat)}{ρ : Rho}{i:Nat}(h:cap[i]? = some none): (ve cap ρ)[i]? = some none:=by
 unfold ve;rw [gz,h];rfl
theorem qef{ρ ρ':Rho}{i:Nat}{b:Option B}(s:Sub ρ ρ')(h : ρ[i]? = some none): Sub ρ (ρ'.set i b):=
 ⟨by rw [n9];exact s.len,fun j c e=>by
  by_cases q:j=i
  ·subst q;rw [h] at e;cases e
  ·rw [g9 (m4 q)];exact s.sub j c e⟩
theorem qa9{ρ : Rho}{i:Nat}{d:D}(h:q2d ρ): q2d (ρ.set i (some (.fz d))):=fun j ds e=>by
 by_cases q:j=i
 ·subst q
  obtain⟨z,_⟩:=z0 e;cases z;exact⟨d,rfl⟩
 ·rw [g9 (m4 q)] at e;exact h j ds e
theorem Sub.refl(ρ : Rho): Sub ρ ρ :=⟨rfl,fun _ _ h=>h⟩
theorem jm{cap:List (Option Nat)}{i:Nat}(h:cap[i]? = some none): q4j (bN i) cap:=fun ρ d ρ' e=>by
 cases e;exact⟨qef (.refl _) (qbu h),qa9 (vh cap ρ)⟩
def q8a(bs:FBs)(cap:List (Option Nat)): Prop:=∀ ρ ds ρ1 ρ',Sub (ve cap ρ) ρ1->q2d ρ1->bs ds ρ1=some ρ'->Sub (ve cap ρ) ρ'/\q2d ρ'
theorem qfv{cap:List (Option Nat)}: q8a q2z cap:=fun ρ ds ρ1 ρ' s n e=>by
 unfold q2z at e
 split at e
 ·cases e;exact⟨s,n⟩
 ·cases e
theorem q6z{cap:List (Option Nat)}{i:Nat}{bs:FBs}(h:cap[i]? = some none)(t:q8a bs cap): q8a (yu (bN i) bs) cap:=fun ρ ds ρ1 ρ' s n e=>by
 cases ds with
 | nil=>cases e
 | cons d ds=>exact t ρ ds _ ρ' (qef s (qbu h)) (qa9 n) e
theorem qi2{cap:List (Option Nat)}{n:Nat}{bs:FBs}(t:q8a bs cap): q4j (q30 n bs) cap:=fun ρ d ρ' e=>by
 cases d <;> simp only [q30] at e <;> first|(cases e;done)|skip
 split at e
 ·exact t ρ _ _ ρ' (.refl _) (vh cap ρ) e
 ·cases e
def qoj (outer:List (Str×NameKind)) (N N':List Str) (scope:Scope) (cap:List (Option Nat)):Bool:=
 scope.names.all (fun y=> !(y.2 == .cell))&&(scope.names.all (fun y=> !(y.2 == .local) || (scope.names.lookup y.1==some .local))&&(scope.names.all (fun y=> !(y.2 == .free) || (outer.lookup y.1==some .cell) || (outer.lookup y.1==some .free)) &&
  (cap.length==N'.length&&(List.range cap.length).all fun i=>match(cap[i]?).join with
   | none=>true
   | some j=>match N'[i]? with
    | none=>false
    | some x=>N[j]? == some x&&scope.names.lookup x==some .free)))
theorem xg{X:Cx}{N':List Str}{scope:Scope}{cap:List (Option Nat)}(hk:scope.kind=.function)(h:qoj X.env.scope.names X.N N' scope cap=true): CapOk X N' scope cap:=by
 unfold qoj at h;simp only [gu,nv] at h;obtain⟨h1,h2,h3,h4,h5⟩:=h;refine⟨hk,fun y hy e=>?_,fun y hy e=>?_,fun y hy e=>?_,by simpa using h4,fun i j e=>?_⟩
 ·have:=h1 y hy;rw [e] at this;cases this
 ·have:=h2 y hy;rw [e] at this;simpa using this
 ·have:=h3 y hy
  rw [e] at this;simp only [g1p,g3d,Bool.false_or,g0z,t5] at this;exact this
 ·have hi:i<cap.length:=(n8.mp e).1
  have:=h5 i (mv.mpr hi);rw [e] at this;simp only [g1q] at this
  split at this
  ·cases this
  ·rename_i x hx
   simp only [gu,t5] at this;exact⟨x,hx,this.1,this.2⟩
section
variable{X:Cx}{e:Expr}{es:List Expr}{pos:Pos}{f g:FE}{fa:FA}
inductive Ty where
 | int|bool|tuple|list|str|dict
def Ty.name:Ty->String
 | .int=>"int" | .bool=>"bool" | .tuple=>"tuple" | .list=>"list" | .str=>"str" | .dict=>"dict"
def zk:Ty->D->Bool
 | .int,.int _=>true
 | .int,.bl _=>true
 | .bool,.bl _=>true
 | .tuple,.tup _=>true
 | .list,.lst _=>true
 | .str,.str _=>true
 | .dict,.dct _ _=>true
 | .dict,.dtt _ _=>true
 | _,_=>false
theorem qjp{prog:Program}{w:World}{A:Around}{E:Value->Shared->Prop}{s:Shared}{Q:Value->Shared->Prop}{K:Frag}{T:String}{b:Bool}(hk:K.In s.heap)(h:∀tk,Q (.bool b) {s with toks:=tk})(hT:PySem.W.kitOne K (.type "NoneType") (.type T)=some b):
  wpAny (model prog w) A (call (.builtin "isinstance") [.none,.type T]) Q E s:=g23 PySem.W.kitx_none hk True.intro hT (fun z=>nomatch z) h
theorem qjq(T:Ty): ji X (.builtin "isinstance") (fun xs H Q=>∃x F d,xs=[x,.ty T.name]/\Same F H/\Rep X.K F d x/\Q (.bl (zk T d)) H):=by
 intro pins s σ H xs us Q I r h;obtain⟨x,F,d,rfl,fh,rd,q⟩:=h;obtain⟨u,w',rfl,rx,rt⟩:=r.two;obtain rfl:w'=Value.type T.name:=rt;have fin:∀ {b:Bool},Q (.bl b) H->EP X pins σ Q (.bool b) s:=fun q=>⟨.bl _,H,I,rfl,q⟩
 have fin1:∀ {b:Bool},Q (.bl b) H->EP X pins σ Q (.bool b) {s with toks:=s.toks+1}:=fun q=>⟨.bl _,H,I.tok _,rfl,q⟩
 cases d with
 | non=>
  cases rep_non.mp rd;cases rx;cases T <;> exact qjp I.kIn (fun tk=>⟨.bl _,H,I.tok _,rfl,q⟩) (by rfl)
 | bl b=>
  cases rep_bl.mp rd;cases rx;cases T
  ·exact IsiPair.bool_int (fin q)
  ·exact IsiPair.bool_bool (fin q)
  ·exact IsiPair.bool_tuple (fin1 q)
  ·exact IsiPair.bool_list (fin1 q)
  ·exact IsiPair.bool_str (fin1 q)
  ·exact IsiPair.bool_dict (fin1 q)
 | int i=>
  cases rep_int.mp rd;obtain⟨t,rfl⟩:=rx;cases T
  ·exact IsiPair.int_int (fin q)
  ·exact IsiPair.int_bool (fin1 q)
  ·exact IsiPair.int_tuple (fin1 q)
  ·exact IsiPair.int_list (fin1 q)
  ·exact IsiPair.int_str (fin1 q)
  ·exact IsiPair.int_dict (fin1 q)
 | str z=>
  cases rep_str.mp rd;obtain⟨t,rfl⟩:=rx;cases T
  ·exact IsiPair.str_int (fin1 q)
  ·exact IsiPair.str_bool (fin1 q)
  ·exact IsiPair.str_tuple (fin1 q)
  ·exact IsiPair.str_list (fin1 q)
  ·exact IsiPair.str_str (fin q)
  ·exact IsiPair.str_dict (fin1 q)
 | tup ds=>
  obtain⟨a,ys,rfl,h1,h2⟩:=rep_tup.mp rd;cases rx;obtain⟨its,_,⟨o,ho,hc,_⟩,_⟩:=I.tuple (z9 fh h1);cases T
  ·exact IsiPair.tuple_int ho hc (fin1 q)
  ·exact IsiPair.tuple_bool ho hc (fin1 q)
  ·exact IsiPair.tuple_tuple ho hc (fin q)
  ·exact IsiPair.tuple_list ho hc (fin1 q)
  ·exact IsiPair.tuple_str ho hc (fin1 q)
  ·exact IsiPair.tuple_dict ho hc (fin1 q)
 | lst ds=>
  obtain⟨a,ys,rfl,h1,h2⟩:=rep_lst.mp rd;cases rx;obtain⟨its,_,⟨o,n,ho,hc,_⟩,_⟩:=I.list (fh.seq h1);cases T
  ·exact IsiPair.list_int ho hc (fin1 q)
  ·exact IsiPair.list_bool ho hc (fin1 q)
  ·exact IsiPair.list_tuple ho hc (fin1 q)
  ·exact IsiPair.list_list ho hc (fin q)
  ·exact IsiPair.list_str ho hc (fin1 q)
  ·exact IsiPair.list_dict ho hc (fin1 q)
 | dct ks vs=>
  obtain⟨a,ys,rfl,h1,h2,h3⟩:=rep_dct.mp rd;cases rx;obtain⟨_,_,vs',_,o,es',ep,ho,hc,_⟩:=(show ObjOk X.prog X.w H s.heap a _ from I.hok a _ (fh _ _ h1))
  cases T
  ·exact IsiPair.dict_int ho hc.1 (fin1 q)
  ·exact IsiPair.dict_bool ho hc.1 (fin1 q)
  ·exact IsiPair.dict_tuple ho hc.1 (fin1 q)
  ·exact IsiPair.dict_list ho hc.1 (fin1 q)
  ·exact IsiPair.dict_str ho hc.1 (fin1 q)
  ·exact IsiPair.dict_dict ho hc.1 (fin q)
 | dtt ks vs=>
  obtain⟨a,xs',ys,ep,rfl,h1,_⟩:=rep_dtt.mp rd;cases rx;obtain⟨⟨o,es',ho,hc,_⟩,_,_⟩:=(show ObjOk X.prog X.w H s.heap a _ from I.hok a _ (fh _ _ h1))
  cases T
  ·exact IsiPair.dict_int ho hc.1 (fin1 q)
  ·exact IsiPair.dict_bool ho hc.1 (fin1 q)
  ·exact IsiPair.dict_tuple ho hc.1 (fin1 q)
  ·exact IsiPair.dict_list ho hc.1 (fin1 q)
  ·exact IsiPair.dict_str ho hc.1 (fin1 q)
  ·exact IsiPair.dict_dict ho hc.1 (fin q)
 | obj x=>
  obtain⟨a,dx,C,rfl,h1,_,c1,c2,c3,c4,c5,c6,c7⟩:=rep_obj.mp rd;cases rx;obtain⟨mA,O,_⟩:=qlq I.hok (fh _ _ h1);obtain⟨od,J,_⟩:=O.look;cases T <;> exact g23 (PySem.W.kitx_own c1 c2 c3 c4 c5 c6) I.kIn J (c7 _ (by decide)) (fun z=>nomatch z) (fun tk=>⟨.bl _,H,I.tok _,rfl,q⟩)
 | exc x f=>
  obtain⟨a,C,rfl,⟨od,h1,_⟩,_,c1,c2⟩:=rep_exc.mp rd;cases rx;obtain⟨J,_,_⟩:=(show ObjOk X.prog X.w H s.heap a _ from I.hok a _ (fh _ _ h1))
  cases T <;> exact g23 (qbm c1) I.kIn J (c2 _ (by decide)) (fun z=>nomatch z) (fun tk=>⟨.bl _,H,I.tok _,rfl,q⟩)
def q31(T:Ty)(f:FE): FE:=fun ρ =>(f ρ).map fun d=>.bl (zk T d)
theorem q7i:bootBuiltins "isinstance" = some (.builtin "isinstance"):=by decide +kernel
theorem q32{x:Str}{p px:Pos}(T:Ty)(hg:Gl X "isinstance")(hm:X.mg "isinstance" = none)(hgT:Gl X x)(hmT:X.mg x=none)(hvT:bootBuiltins x=some (.type T.name))(ha:PE X e (tD X.K f))
  (hnT:x≠"__name__" :=by decide) (hdT:(x==("__debug__" : Str))=false:=by decide) (he2:starEach [e,.Name x px] X.env=(false,eval e X.env) :: starEach [.Name x px] X.env:=by rfl) :
  PE X (.Call (.Name "isinstance" p) [e,.Name x px] [] pos) (tD X.K (q31 T f)):=
 j3 (q0e (qjq T) hg hm q7i (jj ha (jj (qe5 (v:=.ty T.name) hgT hmT hvT rfl hnT hdT) y6) he2) (by decide) (by decide) he2 rfl) fun σ H Q ⟨F0,H0,F, ρ,d,r,hf,q⟩=>by
  obtain⟨d',h1,h2⟩:=gr.mp hf;subst h2;exact⟨F0,H0,F, ρ,d',r,h1,fun v F' H' g' r'=>⟨v,F',d',rfl,g'.fh,r',q _ F' H' g' (rep_bl.mpr rfl)⟩⟩
def q6h:List D->Option (List Int)
 | []=>some []
 | .int i :: r=>(q6h r).map fun is=>i :: is
 | _ :: _=>none
def q3w:List D->Option (List Bool)
 | []=>some []
 | .bl i :: r=>(q3w r).map fun is=>i :: is
 | _ :: _=>none
theorem q8b:∀ {ds:List D} {ns:List Int},q6h ds=some ns->ds=ns.map D.int
 | [],ns,h=>by cases h;rfl
 | d :: r,ns,h=>by
  cases d <;> simp only [q6h] at h <;> first|(cases h;done)|skip
  obtain⟨is,h1,h2⟩:=gr.mp h;subst h2;rw [q8b h1];rfl
omit [Lam] [Pin] in
theorem qaa:∀(ns:List Int),q6h (ns.map D.int)=some ns
 | []=>rfl
 | n :: r=>by simp only [m7,q6h,qaa r,mq]
theorem q70:∀ {ds:List D} {bs:List Bool},q3w ds=some bs->ds=bs.map D.bl
 | [],ns,h=>by cases h;rfl
 | d :: r,ns,h=>by
  cases d <;> simp only [q3w] at h <;> first|(cases h;done)|skip
  obtain⟨is,h1,h2⟩:=gr.mp h;subst h2;rw [q70 h1];rfl
omit [Lam] [Pin] in
theorem q8c:∀(ns:List Bool),q3w (ns.map D.bl)=some ns
 | []=>rfl
 | n :: r=>by simp only [m7,q3w,q8c r,mq]
theorem RepL.bools{K:Frag}{H:Hp}: ∀ {bs:List Bool} {xs:List V},RepL K H (bs.map D.bl) xs->xs=bs.map V.bl
 | [],xs,h=>h.nil_inv
 | b :: bs,xs,h=>by
  obtain⟨x,r,rfl,h1,h2⟩:=h.cons_inv;rw [rep_bl.mp h1,RepL.bools h2];rfl
def o1L(z:List D->Option D): List D->Option D
 | [.lst ds]=>z ds
 | _=>none
theorem qjr{z:List D->Option D}{es:List D}{d:D}(h:o1L z es=some d): ∃ds,es=[.lst ds]/\z ds=some d:=by
 unfold o1L at h
 split at h
 ·exact⟨_,rfl,h⟩
 ·cases h
theorem rep1{K:Frag}{F:Hp}{d:D}{xs:List V}(h:RepL K F [d] xs): ∃x,xs=[x]/\Rep K F d x:=by
 obtain⟨x,r,rfl,h1,h2⟩:=h.cons_inv;cases h2.nil_inv;exact⟨x,rfl,h1⟩
abbrev q5g:List D->Option D:=o1L fun ds=>(q3w ds).map fun bs=>.bl (bs.all id)
theorem q8d:∀ {bs:List Bool} {us:List Value},Vals (bs.map V.bl) us->us=bs.map Value.bool
 | [],us,h=>by cases h;rfl
 | b :: bs,us,h=>by
  rw [m7] at h;cases h with
  | cons r t=>
   cases(show _=Value.bool b from r);rw [q8d t];rfl
theorem qbv(hc:X.calm=true): ji X (.builtin "all") (rC X.K q5g):=by
 intro pins s σ H xs us Q I r h;obtain⟨F,ds,d,fh,rl,ho,q⟩:=h;obtain⟨es,rfl,h1⟩:=qjr ho;obtain⟨bs,h2,h3⟩:=gr.mp h1;subst h3;cases q70 h2;obtain⟨x,rfl,rx⟩:=rep1 rl;obtain⟨u,rfl,ru⟩:=r.one;obtain⟨a,ys,rfl,k1,k2⟩:=rep_lst.mp rx;cases ru;cases k2.bools;obtain⟨its,rv,pl,_⟩:=I.list (fh.seq k1);cases q8d rv;have hlt:a<s.heap.objs.size:=by obtain⟨_,e,_⟩:=pl.isList;exact gv e
 refine call_all_walk (g2g pl.isList ?_);refine⟨s.heap.objs.size,[s.heap.objs.size,a],[s.heap.objs.size],(bs.map Value.bool).toArray.size,_,_,fun i=>(bs[i]?).getD true,rfl,Walks.list (A:=X.A.in1) (I.ok.hd hc) _ a (mj hlt) (bs.map Value.bool).toArray,
  ⟨⟨_,md _ rfl,rfl,rfl⟩,pl.isList.push _⟩,fun i v s' Q' E' hP hQ=>?_,fun h' tk hk=>?_⟩
 ·have hP':(bs.map Value.bool)[i]? = some v:=by simpa using hP
  rw [gz] at hP';cases z:bs[i]? with
  | none=>rw [z] at hP';cases hP'
  | some b=>
   rw [z] at hP';cases hP';simp only [z,g2r] at hQ;exact tx hQ
 ·have e:((List.range (bs.map Value.bool).toArray.size).all fun i=>(bs[i]?).getD true)=bs.all id:=by
   rw [gh,g7];exact LSm.range_all bs
  rw [e];exact⟨.bl _,H,I.kept (LSm.kept_iter hk),rfl,q _ F H (.refl fh) (rep_bl.mpr rfl)⟩
theorem boot_all:bootBuiltins "all" = some (.builtin "all"):=by decide +kernel
theorem boot_min:bootBuiltins "min" = some (.builtin "min"):=by decide +kernel
theorem boot_max:bootBuiltins "max" = some (.builtin "max"):=by decide +kernel
theorem zd:bootBuiltins "len" = some (.builtin "len"):=by decide +kernel
theorem boot_tuple:bootBuiltins "tuple" = some (.type "tuple"):=by decide +kernel
theorem boot_int:bootBuiltins "int" = some (.type "int"):=by decide +kernel
theorem boot_bool:bootBuiltins "bool" = some (.type "bool"):=by decide +kernel
theorem boot_str:bootBuiltins "str" = some (.type "str"):=by decide +kernel
def o2I(z:Int->Int->Int): List D->Option D
 | [.int i,.int j]=>some (.int (z i j))
 | _=>none
theorem qbw{z:Int->Int->Int}{es:List D}{d:D}(h:o2I z es=some d): ∃i j,es=[.int i,.int j]/\d=.int (z i j):=by
 unfold o2I at h
 split at h
 ·cases h;exact⟨_,_,rfl,rfl⟩
 ·cases h
theorem ql7{K:Frag}{F:Hp}{i j:Int}{xs:List V}(h:RepL K F [.int i,.int j] xs): xs=[.int i,.int j]:=RepL.ints (ns:=[i,j]).mp h
abbrev oMin:=o2I fun i j=>if j<i then j else i
abbrev oMax:=o2I fun i j=>if j>i then j else i
theorem qok(hc:X.calm=true): ji X (.builtin "min") (rC X.K oMin):=q1z (qhg hc) fun xs H Q ⟨F,ds,d,fh,rl,ho,q⟩=>by
 obtain⟨i,j,rfl,rfl⟩:=qbw ho;exact⟨i,j,ql7 rl,q _ F H (.refl fh) (rep_int.mpr rfl)⟩
theorem qol(hc:X.calm=true): ji X (.builtin "max") (rC X.K oMax):=q1z (qhf hc) fun xs H Q ⟨F,ds,d,fh,rl,ho,q⟩=>by
 obtain⟨i,j,rfl,rfl⟩:=qbw ho;exact⟨i,j,ql7 rl,q _ F H (.refl fh) (rep_int.mpr rfl)⟩
def jw:List D->Option D
 | [.tup ds]=>some (.int ds.length)
 | [.lst ds]=>some (.int ds.length)
 | [.str x]=>if x.length<=lim then some (.int x.length) else none
 | _=>none
theorem xa:ji X (.builtin "len") (rC X.K jw):=q1z call_len fun xs H Q ⟨F,ds,d,fh,rl,ho,q⟩=>by
 unfold jw at ho
 split at ho
 ·cases ho
  obtain⟨x,rfl,rx⟩:=rep1 rl;obtain⟨a,ys,rfl,k1,k2⟩:=rep_tup.mp rx;exact⟨_,ys.length,rfl,.inr ⟨ys,z9 fh k1,rfl⟩,by rw [<- k2.length];exact q _ F H (.refl fh) (rep_int.mpr rfl)⟩
 ·cases ho
  obtain⟨x,rfl,rx⟩:=rep1 rl;obtain⟨a,ys,rfl,k1,k2⟩:=rep_lst.mp rx;exact⟨_,ys.length,rfl,.inl ⟨ys,fh.seq k1,rfl⟩,by rw [<- k2.length];exact q _ F H (.refl fh) (rep_int.mpr rfl)⟩
 ·split at ho
  ·rename_i z
   cases ho;obtain⟨x,rfl,rx⟩:=rep1 rl;cases rep_str.mp rx;exact⟨_,_,rfl,⟨yt z,rfl⟩,q _ F H (.refl fh) (rep_int.mpr rfl)⟩
  ·cases ho
 ·cases ho
def ka:List D->Option D
 | [.tup ds]=>some (.tup ds)
 | [.lst ds]=>some (.tup ds)
 | _=>none
theorem q33:ji X (.type "tuple") (rC X.K ka):=q1z qaw fun xs H Q ⟨F,ds,d,fh,rl,ho,q⟩=>by
 unfold ka at ho
 split at ho
 ·cases ho
  obtain⟨x,rfl,rx⟩:=rep1 rl;obtain⟨a,ys,rfl,k1,k2⟩:=rep_tup.mp rx;exact⟨a,ys,rfl,.inr ⟨z9 fh k1,q _ F H (.refl fh) rx⟩⟩
 ·cases ho
  obtain⟨x,rfl,rx⟩:=rep1 rl;obtain⟨a,ys,rfl,k1,k2⟩:=rep_lst.mp rx;refine⟨a,ys,rfl,.inl ⟨fh.seq k1,fun l hl=>?_⟩⟩;have gn:Grow F H (upd F l (.tup ys)) (upd H l (.tup ys)):=Grow.new fh hl;exact q _ _ _ gn (rep_tup.mpr ⟨l,ys,rfl,SqT.of z7,k2.mono gn.ff⟩)
 ·cases ho
def rCL(K:Frag)(op:List D->Option (List D)): List V->Hp->VK->Prop:=fun xs H Q=>∃F ds es,Same F H/\RepL K F ds xs/\op ds=some es/\∀a ys F' H',Grow F H F' H'->F' a=none->H a=none->H' a=some (.lst ys)->RepL K F' es ys->Q (.ref a) H'
def q2e(op:List D->Option (List D))(fa:FA): FA:=fun ρ =>(fa ρ).bind op
theorem qm5{K:Frag}{op:List D->Option (List D)}{σ : St}{H:Hp}{Q:VK}(h:tL K (q2e op fa) σ H Q): tDA K fa σ H fun vs H1=>rCL K op vs H1 Q:=by
 obtain⟨F0,H0,F, ρ,d,r,hf,q⟩:=h;obtain⟨ds,h1,h2⟩:=g0.mp hf;exact⟨F0,H0,F, ρ,ds,r,h1,fun vs F1 H1 g1 r1=>⟨F1,ds,d,g1.fh,r1,h2,fun a ys F2 H2 g2 k1 k2 k3 k4=>q a ys F2 H2 (g1.trans g2) k1 (g1.hh.free k2) k3 k4⟩⟩
theorem qjs{x:Str}{p:Pos}{id:String}{op:List D->Option (List D)}(hc:ji X (.builtin id) (rCL X.K op))(hg:Gl X x)(hm:X.mg x=none)(hv:bootBuiltins x=some (.builtin id))(ha:PA X (e :: es) (tDA X.K fa))
  (hn:x≠"__name__" :=by decide) (hdb:(x==("__debug__" : Str))=false:=by decide)
  (he:starEach (e :: es) X.env=(false,eval e X.env) :: starEach es X.env:=by rfl) (hpl:(backTo pos (starEach es X.env)).any (·.1)=false:=by rfl):PE X (.Call (.Name x p) (e :: es) [] pos) (tL X.K (q2e op fa)):=
 j3 (q0e hc hg hm hv ha hn hdb he hpl) fun σ H Q h=>qm5 h
def ql8:List D->Option (List D)
 | [.tup ds]=>some ds
 | [.lst ds]=>some ds
 | _=>none
theorem qeg{K:Frag}{H:Hp}{ds:List D}{xs:List V}{i:Int}{d:D}(h:RepL K H ds xs)(e:atI ds i=some d): ∃x,atI xs i=some x/\Rep K H d x:=by
 unfold atI at e ⊢;rw [<- h.length];cases q:ixN ds.length i with
 | none=>rw [q] at e;cases e
 | some j=>
  rw [q] at e;exact h.get e
def oIx:D->D->Option D
 | .tup ds,.int i=>atI ds i
 | .lst ds,.int i=>atI ds i
 | _,_=>none
theorem vx{a b:Expr}(ha:PE X a (tD X.K f))(hb:PE X b (tD X.K g))(hs:q6d b:=by intro _ _;rfl): PE X (.Subscript a b pos) (tD X.K (eOp oIx f g)):=j3 (qfr qo5 ha hb hs) fun σ H Q h=>by
 have h':=two h;obtain⟨F0,H0,F, ρ,d,r,hf,q⟩:=h';refine⟨F0,H0,F, ρ,d,r,hf,fun v F1 H1 g1 r1=>?_⟩;obtain⟨F0',H0',F', ρ',d',r',hf',q'⟩:=q v F1 H1 g1 r1;refine⟨F0',H0',F', ρ',d',r',hf',fun v2 F2 H2 g2 r2=>?_⟩;obtain⟨F3,d1,d2,d3,fh,k1,k2,k3,k4⟩:=q' v2 F2 H2 g2 r2;unfold oIx at k3
 split at k3
 ·obtain⟨p,ys,rfl,z1,z2⟩:=rep_tup.mp k1
  obtain⟨y,z3,z4⟩:=qeg z2 k3;exact .inr (.inl ⟨p,ys,_,y,rfl,rep_int.mp k2,z9 fh z1,z3,k4 y F3 H2 (.refl fh) z4⟩)
 ·obtain⟨p,ys,rfl,z1,z2⟩:=rep_lst.mp k1
  obtain⟨y,z3,z4⟩:=qeg z2 k3;exact .inl ⟨p,ys,_,y,rfl,rep_int.mp k2,fh.seq z1,z3,k4 y F3 H2 (.refl fh) z4⟩
 ·cases k3
def eUn(o:D->Option D)(f:FE): FE:=fun ρ =>(f ρ).bind o
end
section
variable{prog:Program}{w:World}{A:Around}{E:Value->Shared->Prop}{s:Shared}
theorem qax{t sl:Addr}{items:Array Value}{vl vu:Value}{lo hi:Option Int}{Q:Value->Shared->Prop}(ht:IsTup s.heap t items)(hs:s.heap.IsSliceOf sl vl vu .none)
  (pl:IsPart vl lo) (pu:IsPart vu hi) (w1:HT.sIx items.size 0 lo=0) (w2:HT.sIx items.size items.size hi=items.size) (h:Q (.ref t) s) :
  wpAny (model prog w) A (getItem (.ref t) (.ref sl)) Q E s:=by
 obtain⟨os,hos,hcs,hds⟩:=id hs;have hTs:s.TypeIs (.ref sl) "slice" :=⟨os,hos,hcs⟩
 unfold getItem
 try with_reducible refine t4 ?_
 first|refine g8 (gf ?_)|skip
 refine g8 (wpAny_sequenceKey ht.typeIs (by decide) (g8 (wpAny_callSpecial?_slot (name:=Str.ofString "__getitem__") ht.typeIs nk
  (wpAny_call_entry nk ht.typeIs entry_tuple_getitem ?_ (args_tuple_getitem _ _)))))
 show wpAny _ _ (Builtin.Tuple.tupleItemsOf (.ref t) >>= _) _ _ s;refine g8 (tupleItemsOf_ ht (g8 (g21 hTs ?_)));rw [gy (by decide)];refine g8 (HT.sliceApplied_gen hs pl pu ?_);rw [w1,w2];show wpAny _ _ (if(((0:Nat):Int)==0&&(1:Int)==1&&(items.size-0)==items.size)=true then _ else _) _ _ s;rw [gy (by simp)];refine g8 ?_;unfold Builtin.Tuple.tupleIsExact;refine g8 (g21 ht.typeIs (gf ?_))
 first
  | rw [gy (by decide)]
  | skip
 first
  | exact g8 (wpAny_rule (g8 (gf (gf ⟨_,rfl,gf h⟩))))
  | exact g8 (wpAny_rule (gf ⟨_,rfl,gf h⟩))
  | exact g8 (g8 (wpAny_rule (gf (gf ⟨_,rfl,gf h⟩))))
end
section
variable{X:Cx}{e:Expr}{es:List Expr}{pos:Pos}{f g:FE}{fa:FA}
def qra(K:Frag): V->Option Int->Option Int->Hp->VK->Prop:=fun x lo hi H Q=>∃a xs,x=.ref a/\SqT K H a xs/\HT.sIx xs.length 0 lo=0/\HT.sIx xs.length xs.length hi=xs.length/\Q (.ref a) H
theorem qjt:SlR X (qra X.K):=by
 intro pins s σ H x v vl vu lo hi sl Q I rx hs pl pu h;obtain⟨a,xs,rfl,hx,w1,w2,q⟩:=h;cases rx;obtain⟨its,r,ht,hz⟩:=I.tuple hx;have hlen:its.toArray.size=xs.length:=by rw [gh];exact r.length.symm
 exact⟨"tuple",_,nk.lookup,ht.typeIs,qax ht hs pl pu (by rw [hlen];exact w1) (by rw [hlen];exact w2) ⟨.ref a,H,I,rfl,q⟩⟩
def cutD(ds:List D)(lo hi:Option Int): List D:=(ds.drop (HT.sIx ds.length 0 lo)).take (HT.sIx ds.length ds.length hi-HT.sIx ds.length 0 lo)
def oSl:D->Option Int->Option Int->Option D
 | .tup ds,lo,hi=>some (.tup (cutD ds lo hi))
 | .lst ds,lo,hi=>some (.lst (cutD ds lo hi))
 | _,_,_=>none
abbrev FO:=Rho->Option (Option Int)
def oNo:FO:=fun _=>some none
def oAt(f:FE): FO:=fun ρ =>(f ρ).bind fun d=>match d with
 | .int i=>some (some i)
 | _=>none
def tDO(K:Frag)(f:FO): TO:=fun σ H Q=>∃F0 H0 F ρ i,RS K F0 H0 F H σ ρ /\ f ρ = some i/\∀F' H',Grow F H F' H'->Q i H'
theorem qi3{o:Option Expr}{t t':TO}(h:PO X o t)(i:∀ σ H Q,t' σ H Q->t σ H Q): PO X o t':=fun pins s σ H Q I q=>h pins s σ H Q I (i σ H Q q)
theorem xh:PO X none (tDO X.K oNo):=qi3 qls fun σ H Q ⟨F0,H0,F, ρ,i,r,hf,q⟩=>by cases hf;exact q F H (.refl r.fh)
theorem jq(h:PE X e (tD X.K f)): PO X (some e) (tDO X.K (oAt f)):=qi3 (qlt h) fun σ H Q ⟨F0,H0,F, ρ,i,r,hf,q⟩=>by
 obtain⟨d,h1,h2⟩:=g0.mp hf;cases d <;> simp only at h2 <;> first|(cases h2;done)|skip
 cases h2;exact⟨F0,H0,F, ρ,_,r,h1,fun v F' H' g' r'=>⟨_,rep_int.mp r',q F' H' g'⟩⟩
def eSl(f:FE)(lo hi:FO): FE:=fun ρ =>(f ρ).bind fun d=>(lo ρ).bind fun l=>(hi ρ).bind fun h=>oSl d l h
theorem q34{a:Expr}{lo hi:Option Expr}{fl fh:FO}{p2:Pos}(ha:PE X a (tD X.K f))(hl:PO X lo (tDO X.K fl))(hh:PO X hi (tDO X.K fh)): PE X (.Subscript a (.Slice lo hi none p2) pos) (tD X.K (eSl f fl fh)):=
 j3 (qbi (sl_list.or (sl_tup.or qjt)) ha hl hh) fun σ H Q ⟨F0,H0,F, ρ,d,r,hf,q⟩=>by
  obtain⟨x,h1,hf⟩:=g0.mp hf;obtain⟨l,h2,hf⟩:=g0.mp hf;obtain⟨u,h3,h4⟩:=g0.mp hf;refine⟨F0,H0,F, ρ,x,r,h1,fun v F1 H1 g1 r1=>⟨F0,H0,F1, ρ,l,r.grow g1,h2,fun F2 H2 g2=>⟨F0,H0,F2, ρ,u,(r.grow g1).grow g2,h3,fun F3 H3 g3=>?_⟩⟩⟩;have gg:=g1.trans (g2.trans g3);have r3:Rep X.K F3 x v:=r1.mono (g2.ff.trans g3.ff);cases x with
  | tup ds=>
   cases h4;obtain⟨p,xs,rfl,k1,k2⟩:=rep_tup.mp r3;have hlen:=k2.length
   by_cases wh:HT.sIx xs.length 0 l=0/\HT.sIx xs.length xs.length u=xs.length
   ·refine .inr (.inr ⟨p,xs,rfl,z9 g3.fh k1,wh.1,wh.2,q _ F3 H3 gg ?_⟩)
    have e:cutD ds l u=ds:=by
     unfold cutD;rw [hlen,wh.1,wh.2,ux,Nat.sub_zero, <- hlen,g2s]
    rw [e];exact r3
   ·refine .inr (.inl ⟨p,xs,rfl,z9 g3.fh k1,wh,fun p' hp=>?_⟩)
    have gn:Grow F3 H3 (upd F3 p' (.tup (q25 xs l u))) (upd H3 p' (.tup (q25 xs l u))):=Grow.new g3.fh hp;refine q _ _ _ (gg.trans gn) (rep_tup.mpr ⟨p',_,rfl,SqT.of z7,?_⟩);unfold cutD q25;rw [hlen];exact((k2.mono gn.ff).drop _).take _
  | lst ds=>
   cases h4;obtain⟨p,xs,rfl,k1,k2⟩:=rep_lst.mp r3;have hlen:=k2.length;refine .inl ⟨p,xs,rfl,g3.fh.seq k1,fun p' hp=>?_⟩;have gn:Grow F3 H3 (upd F3 p' (.lst (q25 xs l u))) (upd H3 p' (.lst (q25 xs l u))):=Grow.new g3.fh hp;refine q _ _ _ (gg.trans gn) (rep_lst.mpr ⟨p',_,rfl,SqL.of z7,?_⟩);unfold cutD q25;rw [hlen];exact((k2.mono gn.ff).drop _).take _
  | _=>cases h4
def qbx:D->D->Option D
 | .tup xs,.tup ys=>if xs.length+ys.length<=lim then some (.tup (xs++ys)) else none
 | .lst xs,.lst ys=>if xs.length+ys.length<=lim then some (.lst (xs++ys)) else none
 | _,_=>none
theorem qom:OpR X (binaryOp .Add) (rD X.K qbx):=by
 intro pins s σ H x y v u Q I rx ry h;obtain⟨F,d1,d2,d,fh,r1,r2,ho,q⟩:=h;unfold qbx at ho
 split at ho
 ·rename_i ds es
  split at ho
  ·rename_i hl
   cases ho;obtain⟨a,xs,rfl,k1,k2⟩:=rep_tup.mp r1;obtain⟨b,ys,rfl,k3,k4⟩:=rep_tup.mp r2
   by_cases hd:ds=[]
   ·subst hd
    cases k2.nil_inv;cases rx;cases ry;obtain⟨i1,v1,⟨⟨c1,dd1,dt1,sl1⟩,o1,e1,n1,t1⟩,_⟩:=I.tuple (z9 fh k1);obtain⟨i2,v2,⟨⟨c2,dd2,dt2,sl2⟩,o2,e2,n2,t2⟩,_⟩:=I.tuple (z9 fh k3);simp only at e1 t1 e2 t2;subst e1 t1 e2 t2;cases v1;exact g2o ⟨_,o1,rfl⟩ ⟨_,o2,rfl⟩ g2p seq_tuple_add g1k g1b (g15 _ _)
     (tuple_addW0 a b #[] i2.toArray n1 n2 dd1 dd2 sl1 sl2 rfl) ⟨o1,o2,⟨.ref b,H,I,rfl,q _ F H (.refl fh) (by simpa using r2)⟩⟩
   ·refine qlu pins s σ H _ _ v u Q I rx ry ⟨a,b,xs,ys,rfl,rfl,z9 fh k1,z9 fh k3,fun z=>hd ?_,yt (by rw [<- k2.length, <- k4.length];exact hl),fun z=>?_,fun z p hp=>?_⟩
    ·have:=k2.length;rw [z] at this;exact g27 this
    ·have e:es=[]:=by have:=k4.length;rw [z] at this;exact g27 this
     subst e;rw [my] at q;exact q _ F H (.refl fh) r1
    ·have gn:Grow F H (upd F p (.tup (xs++ys))) (upd H p (.tup (xs++ys))):=Grow.new fh hp
     exact q _ _ _ gn (rep_tup.mpr ⟨p,_,rfl,SqT.of z7,(k2.mono gn.ff).append (k4.mono gn.ff)⟩)
  ·cases ho
 ·rename_i ds es
  split at ho
  ·rename_i hl
   cases ho;obtain⟨a,xs,rfl,k1,k2⟩:=rep_lst.mp r1;obtain⟨b,ys,rfl,k3,k4⟩:=rep_lst.mp r2;cases rx;cases ry;obtain⟨i1,v1,⟨⟨c1,dd1,dt1,sl1⟩,n1,o1,e1,g1,t1⟩,_⟩:=I.list (fh.seq k1);obtain⟨i2,v2,⟨⟨c2,dd2,dt2,sl2⟩,n2,o2,e2,g2,t2⟩,_⟩:=I.list (fh.seq k3);simp only at e1 t1 e2 t2;subst e1 t1 e2 t2;have hz:xs.length+ys.length<=sizeLine:=yt (by rw [<- k2.length, <- k4.length];exact hl);refine g2o ⟨_,o1,rfl⟩ ⟨_,o2,rfl⟩ noFill_list_add seq_list_add PySem.F.slot_list_add PySem.F.entry_list_add (PySem.F.args_list_add_2 _ _)
    (list_addW a b i1.toArray i2.toArray n1 n2 dd1 dd2 sl1 sl2 (by rw [gh,gh, <- v1.length, <- v2.length];exact hz)) ⟨o1,o2,?_⟩
   have ea:i1.toArray++i2.toArray=(i1++i2).toArray:=by simp
   rw [ea];have gn:Grow F H (upd F s.heap.objs.size (.lst (xs++ys))) (upd H s.heap.objs.size (.lst (xs++ys))):=Grow.new fh I.fresh;exact⟨.ref _,_,I.lnew (t':=s.toks) (v1.append v2) (by rw [gc];exact hz),rfl,q _ _ _ gn (rep_lst.mpr ⟨_,_,rfl,SqL.of z7,(k2.mono gn.ff).append (k4.mono gn.ff)⟩)⟩
  ·cases ho
 ·cases ho
abbrev zu:D->D->Option D:=fun x y=>(oAdd x y).or (qbx x y)
theorem zm:OpR X (binaryOp .Add) (rD X.K zu):=q5e qob qom
def flat(d:D): Bool:=(flD d).isSome
def eqF:D->D->Bool
 | .non,.non=>true
 | .bl a,.bl b=>a==b
 | .bl a,.int b=>(if a then 1 else 0)==b
 | .int a,.bl b=>a==(if b then 1 else 0)
 | .int a,.int b=>a==b
 | .str a,.str b=>a==b
 | _,_=>false
def inF(d:D)(ds:List D): Bool:=ds.any fun e=>eqF e d
theorem qb6{K:Frag}{H:Hp}{d e:D}{x y:V}(h1:flat d=true)(h2:flat e=true)(r1:Rep K H d x)(r2:Rep K H e y): eqV x y=eqF d e/\q0b x=true/\q0b y=true:=by
 cases d <;> first|(cases h1;done)|skip
 all_goals (cases e <;> first|(cases h2;done)|skip)
 all_goals (first|(cases rep_non.mp r1)|(cases rep_bl.mp r1)|(cases rep_int.mp r1)|(cases rep_str.mp r1))
 all_goals (first|(cases rep_non.mp r2)|(cases rep_bl.mp r2)|(cases rep_int.mp r2)|(cases rep_str.mp r2))
 all_goals exact⟨rfl,rfl,rfl⟩
theorem qfw{K:Frag}{H:Hp}{d:D}{x:V}(h1:flat d=true)(r1:Rep K H d x): ∀ {ds:List D} {xs:List V},ds.all flat=true->RepL K H ds xs->inV x xs=inF d ds/\q0b x=true/\xs.all q0b=true
 | [],xs,_,r=>by cases r.nil_inv;exact⟨rfl,(qb6 h1 h1 r1 r1).2.1,rfl⟩
 | e :: ds,xs,h2,r=>by
  obtain⟨y,ys,rfl,k1,k2⟩:=r.cons_inv;rw [g1n,gu] at h2;obtain⟨z1,z2,z3⟩:=qfw h1 r1 h2.2 k2;obtain⟨w1,w2,w3⟩:=qb6 h2.1 h1 k1 r1;refine⟨?_,z2,?_⟩
  ·show(eqV y x || inV x ys)=(eqF e d || inF d ds)
   rw [w1,z1]
  ·rw [g1n,w2,z3];rfl
def oIn(neg:Bool): D->D->Option D
 | d,.tup ds=>if flat d&&ds.all flat then some (.bl (if neg then !inF d ds else inF d ds)) else none
 | d,.lst ds=>if flat d&&ds.all flat then some (.bl (if neg then !inF d ds else inF d ds)) else none
 | _,_=>none
theorem qqi{K:Frag}{neg:Bool}{x y:V}{H:Hp}{Q:VK}(h:rD K (oIn neg) x y H Q): rIn K neg x y H Q:=by
 obtain⟨F,d1,d2,d,fh,r1,r2,ho,q⟩:=h;cases d2 <;> simp only [oIn] at ho <;> first|(cases ho;done)|skip
 ·split at ho
  ·rename_i hc
   cases ho;rw [gu] at hc;obtain⟨p,xs,rfl,k1,k2⟩:=rep_tup.mp r2;obtain⟨z1,z2,z3⟩:=qfw hc.1 r1 hc.2 k2;exact⟨p,xs,rfl,.inr (z9 fh k1),z2,z3,by rw [z1];exact q _ F H (.refl fh) (rep_bl.mpr rfl)⟩
  ·cases ho
 ·split at ho
  ·rename_i hc
   cases ho;rw [gu] at hc;obtain⟨p,xs,rfl,k1,k2⟩:=rep_lst.mp r2;obtain⟨z1,z2,z3⟩:=qfw hc.1 r1 hc.2 k2;exact⟨p,xs,rfl,.inl (fh.seq k1),z2,z3,by rw [z1];exact q _ F H (.refl fh) (rep_bl.mpr rfl)⟩
  ·cases ho
theorem ql9:OpR X (compareOp .In) (rD X.K (oIn false)):=q0i qhk fun x y H Q h=>qqi h
end
mutual
def eqD:D->D->Bool
 | .tup ds,.tup es=>eqL ds es
 | .lst ds,.lst es=>eqL ds es
 | d,e=>eqF d e
def eqL:List D->List D->Bool
 | [],[]=>true
 | d :: ds,e :: es=>eqD d e&&eqL ds es
 | _,_=>false
end
mutual
def okE:D->D->Bool
 | .tup ds,.tup es=>kz ds es
 | .lst ds,.lst es=>kz ds es
 | d,e=>flat d&&flat e
def kz:List D->List D->Bool
 | d :: ds,e :: es=>okE d e&&kz ds es
 | _,_=>true
end
mutual
def q97:D->Nat
 | .tup ds=>w6 ds+1
 | .lst ds=>w6 ds+1
 | _=>0
def w6:List D->Nat
 | []=>0
 | d :: ds=>max (q97 d) (w6 ds)
end
def eqJ(ds es:List D)(j:Nat): Bool:=match ds[j]?,es[j]? with
 | some d,some e=>eqD d e
 | _,_=>true
theorem vi:∀(ds es:List D),((List.range (min ds.length es.length)).all (eqJ ds es)&&ds.length==es.length)=eqL ds es
 | [],[]=>by simp [eqL]
 | [],e :: es=>by simp [eqL]
 | d :: ds,[]=>by simp [eqL]
 | d :: ds,e :: es=>by
  have ih:=vi ds es;have e1:min (d :: ds).length (e :: es).length=min ds.length es.length+1:=by simp only [gs];lia
  rw [e1,g1l,g1n,g2t];have e2:(eqJ (d :: ds) (e :: es) ∘ Nat.succ)=eqJ ds es:=by funext j;simp [eqJ]
  have e3:eqJ (d :: ds) (e :: es) 0=eqD d e:=by simp [eqJ]
  have e4:((d :: ds).length==(e :: es).length)=(ds.length==es.length):=by simp
  rw [e2,e3,e4,Bool.and_assoc,ih];simp only [eqL]
theorem qby{d e:D}(h1:flat d=true)(h2:flat e=true): eqD d e=eqF d e:=by
 cases d <;> first|(cases h1;done)|skip
 all_goals (cases e <;> first|(cases h2;done)|skip)
 all_goals simp only [eqD]
section
variable{X:Cx}{pins:List (Addr×Obj)}{σ : St}{F H:Hp}{s:Shared}
theorem qi4{A:Around}{d e:D}{x y:V}{u v:Value}(h1:flat d=true)(h2:flat e=true)(r1:Rep X.K F d x)(r2:Rep X.K F e y)(q1:RelV x u)(q2:RelV y v): SeqAt.EqAt A s u v (eqD d e):=by
 obtain⟨z1,z2,z3⟩:=qb6 h1 h2 r1 r2;rw [qby h1 h2, <- z1];exact qhi q1 q2 z2 z3
theorem qbz{d e:D}(h:okE d e=true): (∃ds es,d=.tup ds/\e=.tup es/\kz ds es=true)\/(∃ds es,d=.lst ds/\e=.lst es/\kz ds es=true)\/(flat d=true/\flat e=true):=by
 cases d <;> cases e <;> simp only [okE,gu] at h <;> first
  | exact .inl ⟨_,_,rfl,rfl,h⟩
  | exact .inr (.inl ⟨_,_,rfl,rfl,h⟩)
  | exact .inr (.inr h)
theorem qeh(I:Inv X pins σ H s)(fh:Same F H): ∀ {d e:D} {x:V},okE d e=true->Rep X.K F d x->Rep X.K F e x->eqD d e=true:=by
 suffices hh:∀n,(∀d e x,sizeOf d<n->okE d e=true->Rep X.K F d x->Rep X.K F e x->eqD d e=true) from fun {d e x}=>hh (sizeOf d+1) d e x (g2u _)
 intro n
 induction n with
 | zero=>intro d e x h;exact absurd h (tq _)
 | succ n ih=>
  intro d e x hn ok r1 r2;have seq:∀(ds es:List D) (xs:List V),sizeOf ds<n->kz ds es=true->RepL X.K F ds xs->RepL X.K F es xs->eqL ds es=true:=by
   intro ds
   induction ds with
   | nil=>
    intro es xs _ _ k1 k2;cases k1.nil_inv;cases es with
    | nil=>simp only [eqL]
    | cons e es=>obtain⟨_,_,z,_⟩:=k2.cons_inv;cases z
   | cons d ds ihd=>
    intro es xs hs ho k1 k2;obtain⟨x,r,rfl,a1,a2⟩:=k1.cons_inv;cases es with
    | nil=>cases k2.nil_inv
    | cons e es=>
     obtain⟨x',r',z,b1,b2⟩:=k2.cons_inv;cases z;simp only [kz,gu] at ho;have hs1:sizeOf d<n:=by simp only [g0i] at hs;lia
     have hs2:sizeOf ds<n:=by simp only [g0i] at hs;lia
     simp only [eqL,gu];exact⟨ih d e x hs1 ho.1 a1 b1,ihd es r hs2 ho.2 a2 b2⟩
  rcases qbz ok with⟨ds,es,rfl,rfl,ho⟩|⟨ds,es,rfl,rfl,ho⟩|⟨h1,h2⟩
  ·obtain⟨a,xs,rfl,k1,k2⟩:=rep_tup.mp r1
   obtain⟨b,ys,z,k3,k4⟩:=rep_tup.mp r2;cases z;cases I.tuple_inj (z9 fh k1) (z9 fh k3);simp only [eqD];exact seq ds es xs (by simp only [D.tup.sizeOf_spec] at hn;lia) ho k2 k4
  ·obtain⟨a,xs,rfl,k1,k2⟩:=rep_lst.mp r1
   obtain⟨b,ys,z,k3,k4⟩:=rep_lst.mp r2;cases z;cases I.list_inj (fh.seq k1) (fh.seq k3);simp only [eqD];exact seq ds es xs (by simp only [D.lst.sizeOf_spec] at hn;lia) ho k2 k4
  ·obtain⟨z1,_⟩:=qb6 h1 h2 r1 r2
   rw [qby h1 h2, <- z1];cases d <;> first|(cases h1;done)|skip
   ·cases rep_non.mp r1;rfl
   ·cases rep_bl.mp r1;simp [eqV]
   ·cases rep_int.mp r1;simp [eqV]
   ·cases rep_str.mp r1;simp [eqV]
theorem qi5 (I:Inv X pins σ H s) (fh:Same F H):∀ {d e:D} {x y:V} {u v:Value} (A:Around),okE d e=true->A.units+q97 d<cLine->Rep X.K F d x->Rep X.K F e y->RelV x u->RelV y v->SeqAt.EqAt A s u v (eqD d e):=by
 suffices hh:∀n,(∀d e x y u v (A:Around),sizeOf d<n->okE d e=true->A.units+q97 d<cLine->Rep X.K F d x->Rep X.K F e y->RelV x u->RelV y v->SeqAt.EqAt A s u v (eqD d e)) from
  fun {d e x y u v} A=>hh (sizeOf d+1) d e x y u v A (g2u _)
 intro n
 induction n with
 | zero=>intro d e x y u v A h;exact absurd h (tq _)
 | succ n ih=>
  intro d e x y u v A hn ok hu r1 r2 q1 q2;have seq:∀(ds es:List D) (xs ys:List V) (us vs:List Value) (A:Around),sizeOf ds<n->kz ds es=true->A.units+w6 ds<cLine->RepL X.K F ds xs->RepL X.K F es ys->Vals xs us->Vals ys vs ->
    ∀j (h1:j<us.length) (h2:j<vs.length),SeqAt.EqAt A s us[j] vs[j] (eqJ ds es j):=by
   intro ds
   induction ds with
   | nil=>
    intro es xs ys us vs A _ _ _ k1 _ w1 _ j h1;cases k1.nil_inv;cases w1;exact absurd h1 (tq _)
   | cons d ds ihd=>
    intro es xs ys us vs A hs ho hu k1 k2 w1 w2 j h1 h2;obtain⟨x,r,rfl,a1,a2⟩:=k1.cons_inv;cases w1 with
    | cons p1 p2=>
     cases es with
     | nil=>cases k2.nil_inv;cases w2;exact absurd h2 (tq _)
     | cons e es=>
      obtain⟨y,r',rfl,b1,b2⟩:=k2.cons_inv;cases w2 with
      | cons p3 p4=>
       simp only [kz,gu] at ho;have hs1:sizeOf d<n:=by simp only [g0i] at hs;lia
       have hs2:sizeOf ds<n:=by simp only [g0i] at hs;lia
       simp only [w6] at hu;cases j with
       | zero=>
        have e0:eqJ (d :: ds) (e :: es) 0=eqD d e:=by simp [eqJ]
        rw [e0];exact ih d e x y _ _ A hs1 ho.1 (by lia) a1 b1 p1 p3
       | succ j=>
        have e0:eqJ (d :: ds) (e :: es) (j+1)=eqJ ds es j:=by simp [eqJ]
        rw [e0];exact ihd es r r' _ _ A hs2 ho.2 (by lia) a2 b2 p2 p4 j (by simpa using h1) (by simpa using h2)
  rcases qbz ok with⟨ds,es,rfl,rfl,ho⟩|⟨ds,es,rfl,rfl,ho⟩|⟨h1,h2⟩
  ·have rr:=qeh I fh ok r1
   obtain⟨a,xs,rfl,k1,k2⟩:=rep_tup.mp r1;obtain⟨b,ys,rfl,k3,k4⟩:=rep_tup.mp r2;cases q1;cases q2
   by_cases hab:a=b
   ·subst hab
    rw [rr r2];exact g33 _
   ·obtain⟨i1,v1,t1,_⟩:=I.tuple (z9 fh k1)
    obtain⟨i2,v2,t2,_⟩:=I.tuple (z9 fh k3);simp only [q97] at hu;refine SeqAt.EqAt.of_refs hab ?_;have hq:=seq ds es xs ys i1 i2 A.in1 (by simp only [D.tup.sizeOf_spec] at hn;lia) ho (by show A.units+1+w6 ds<cLine;lia) k2 k4 v1 v2;have:=SeqAt.RcAt.tuples (A:=A) (e:=eqJ ds es) (show s.heap.IsTuple a i1.toArray from t1) (show s.heap.IsTuple b i2.toArray from t2) (by lia) (fun j h1 h2=>by simpa using hq j (by simpa using h1) (by simpa using h2));simp only [gh, <- v1.length, <- v2.length, <- k2.length, <- k4.length,vi] at this
    simpa only [eqD] using this
  ·have rr:=qeh I fh ok r1
   obtain⟨a,xs,rfl,k1,k2⟩:=rep_lst.mp r1;obtain⟨b,ys,rfl,k3,k4⟩:=rep_lst.mp r2;cases q1;cases q2
   by_cases hab:a=b
   ·subst hab
    rw [rr r2];exact g33 _
   ·obtain⟨i1,v1,t1,_⟩:=I.list (fh.seq k1)
    obtain⟨i2,v2,t2,_⟩:=I.list (fh.seq k3);simp only [q97] at hu;refine SeqAt.EqAt.of_refs hab ?_;have hq:=seq ds es xs ys i1 i2 A.in1 (by simp only [D.lst.sizeOf_spec] at hn;lia) ho (by show A.units+1+w6 ds<cLine;lia) k2 k4 v1 v2;have hl1:i1.length=ds.length:=by rw [<- v1.length, <- k2.length]
    have hl2:i2.length=es.length:=by rw [<- v2.length, <- k4.length]
    simp only [eqD]
    by_cases hl:ds.length=es.length
    ·have:=SeqAt.RcAt.lists (A:=A) (e:=eqJ ds es) t1.isList t2.isList (by rw [gh,gh,hl1,hl2];exact hl) (by lia) (fun j h1 h2=>by simpa using hq j (by simpa using h1) (by simpa using h2))
     have e1:(List.range i1.toArray.size).all (eqJ ds es)=eqL ds es:=by
      rw [<- vi,gh,hl1, <- hl,uz];simp
     rw [e1] at this;exact this
    ·have e1:eqL ds es=false:=by rw [<- vi];simp [hl]
     rw [e1];exact SeqAt.RcAt.lists_lengths t1.isList t2.isList (by rw [gh,gh,hl1,hl2];simpa using hl) (by lia)
  ·exact qi4 h1 h2 r1 r2 q1 q2
def qju:D->D->Option D
 | .tup ds,.tup es=>if kz ds es&&decide (w6 ds<=60) then some (.bl (eqL ds es)) else none
 | .lst ds,.lst es=>if kz ds es&&decide (w6 ds<=60) then some (.bl (eqL ds es)) else none
 | _,_=>none
theorem qon(hu:X.A.units+64<cLine): OpR X (compareOp .Eq) (rD X.K qju):=by
 intro pins s σ H x y v u Q I rx ry h;obtain⟨F,d1,d2,d,fh,r1,r2,ho,q⟩:=h;have part:∀ {ds es:List D} {xs ys:List V} {us vs:List Value},kz ds es=true->w6 ds<=60->RepL X.K F ds xs->RepL X.K F es ys->Vals xs us->Vals ys vs ->
   ∀j (h1:j<us.length) (h2:j<vs.length),SeqAt.EqAt X.A.in1 s us[j] vs[j] (eqJ ds es j):=by
  intro ds
  induction ds with
  | nil=>
   intro es xs ys us vs _ _ k1 _ w1 _ j h1;cases k1.nil_inv;cases w1;exact absurd h1 (tq _)
  | cons d ds ihd=>
   intro es xs ys us vs ho hd k1 k2 w1 w2 j h1 h2;obtain⟨x,r,rfl,a1,a2⟩:=k1.cons_inv;cases w1 with
   | cons p1 p2=>
    cases es with
    | nil=>cases k2.nil_inv;cases w2;exact absurd h2 (tq _)
    | cons e es=>
     obtain⟨y,r',rfl,b1,b2⟩:=k2.cons_inv;cases w2 with
     | cons p3 p4=>
      simp only [kz,gu] at ho;simp only [w6] at hd;cases j with
      | zero=>
       have e0:eqJ (d :: ds) (e :: es) 0=eqD d e:=by simp [eqJ]
       rw [e0];exact qi5 I fh _ ho.1 (by show X.A.units+1+q97 d<cLine;lia) a1 b1 p1 p3
      | succ j=>
       have e0:eqJ (d :: ds) (e :: es) (j+1)=eqJ ds es j:=by simp [eqJ]
       rw [e0];exact ihd ho.2 (by lia) a2 b2 p2 p4 j (by simpa using h1) (by simpa using h2)
 unfold qju at ho
 split at ho
 ·rename_i ds es
  split at ho
  ·rename_i hc
   cases ho;rw [gu] at hc;obtain⟨a,xs,rfl,k1,k2⟩:=rep_tup.mp r1;obtain⟨b,ys,rfl,k3,k4⟩:=rep_tup.mp r2;cases rx;cases ry;obtain⟨i1,v1,t1,_⟩:=I.tuple (z9 fh k1);obtain⟨i2,v2,t2,_⟩:=I.tuple (z9 fh k3);have hq:=part hc.1 (u7 hc.2) k2 k4 v1 v2;refine SeqAt.eq_tupleAt (e:=eqJ ds es) (show s.heap.IsTuple a i1.toArray from t1) (show s.heap.IsTuple b i2.toArray from t2) (by lia) (fun j h1 h2=>by simpa using hq j (by simpa using h1) (by simpa using h2)) ?_;simp only [gh, <- v1.length, <- v2.length, <- k2.length, <- k4.length,vi];exact⟨.bl _,H,I,rfl,q _ F H (.refl fh) (rep_bl.mpr rfl)⟩
  ·cases ho
 ·rename_i ds es
  split at ho
  ·rename_i hc
   cases ho;rw [gu] at hc;obtain⟨a,xs,rfl,k1,k2⟩:=rep_lst.mp r1;obtain⟨b,ys,rfl,k3,k4⟩:=rep_lst.mp r2;cases rx;cases ry;obtain⟨i1,v1,t1,_⟩:=I.list (fh.seq k1);obtain⟨i2,v2,t2,_⟩:=I.list (fh.seq k3);have hq:=part hc.1 (u7 hc.2) k2 k4 v1 v2;have hl1:i1.length=ds.length:=by rw [<- v1.length, <- k2.length]
   have hl2:i2.length=es.length:=by rw [<- v2.length, <- k4.length]
   by_cases hl:ds.length=es.length
   ·refine SeqAt.eq_listAt (e:=eqJ ds es) t1.isList t2.isList (by rw [gh,gh,hl1,hl2];exact hl) (by lia) (fun j h1 h2=>by simpa using hq j (by simpa using h1) (by simpa using h2)) ?_
    have e1:(List.range i1.toArray.size).all (eqJ ds es)=eqL ds es:=by
     rw [<- vi,gh,hl1, <- hl,uz];simp
    rw [e1];exact⟨.bl _,H,I,rfl,q _ F H (.refl fh) (rep_bl.mpr rfl)⟩
   ·have e1:eqL ds es=false:=by rw [<- vi];simp [hl]
    rw [e1] at q;exact SeqAt.eq_list_lengthsAt t1.isList t2.isList (by rw [gh,gh,hl1,hl2];simpa using hl) (by lia) ⟨.bl _,H,I,rfl,q _ F H (.refl fh) (rep_bl.mpr rfl)⟩
  ·cases ho
 ·cases ho
abbrev oEq:D->D->Option D:=fun x y=>(qft x y).or (qju x y)
theorem q0u(hu:X.A.units+64<cLine): OpR X (compareOp .Eq) (rD X.K oEq):=q5e qoe (qon hu)
end
section
variable{prog:Program}{w:World}{A:Around}{E:Value->Shared->Prop}{s:Shared}
end
section
variable{X:Cx}{pins:List (Addr×Obj)}{σ : St}{H:Hp}{s:Shared}{h':Heap}
end
def qoo(xs ys:List D): List D:=List.zipWith (fun a b=>.tup [a,b]) xs ys
section
variable{X:Cx}{pos:Pos}{elts:List Expr}{x1:Nat}{tp:Pos}
def qop(fa:FA): FA:=fun ρ =>(fa ρ).bind fun ds=>match ds with
 | [x,y]=>(q4g x).bind fun xs=>(q4g y).map fun ys=>qoo xs ys
 | _=>none
end
section
variable{X:Cx}{e:Expr}{es:List Expr}{kws:List Keyword}{pos:Pos}{f g:FE}{fa fk:FA}
def qjv(n m:Nat)(fa fk:FA): FA:=fun ρ =>(fa ρ).bind fun ds=>(fk ρ).bind fun es=>if ds.length=n/\es.length=m then some (ds++es) else none
def qfx(ar:Nat)(op:List D->Option D): List D->Option D:=fun ds=>if ds.length=ar then op ds else none
end
structure Cal(P:Program)(w:World)(K:Frag)(mg:Str->Option Value)(base:Heap)(x:Str)(k:Nat)(ps:List Str)(ar:Nat)(op:List D->Option D)(fn:Addr)(fd:FuncData): Prop where
 ok:FnOk P w K mg base CX0 k fn fd ps (spD K ar op)
 mg:mg x=some (.ref fn)
 kp:PySem.W.keepIn K (.ref fn)=true
section
variable{X:Cx}{e:Expr}{es:List Expr}{kws:List Keyword}{pos p:Pos}{fa fk:FA}{k ar k':Nat}{fn:Addr}{fd:FuncData}{ps ks:List Str}{op:List D->Option D}{x:Str}
theorem z5(C:Cal X.prog X.w X.K X.mg X.base x k ps ar op fn fd)(b:Binds X.K fd ps [])(hr:Room k' X.A)(hk:k<=k')(hg:Gl X x)(ha:PA X (e :: es) (tDA X.K fa))(hdb:(x==("__debug__" : Str))=false:=by decide)
  (he:starEach (e :: es) X.env=(false,eval e X.env) :: starEach es X.env:=by rfl) (hpl:(backTo pos (starEach es X.env)).any (·.1)=false:=by rfl):PE X (.Call (.Name x p) (e :: es) [] pos) (tD X.K (qk (qq ar [] op) fa)):=
 qm2 C.ok (hr.mono hk) hg C.mg C.kp b .nil (fun H=>.nil) ha hdb he hpl
theorem ym{i:Int}(hg:Gl X x)(hm:∃t,X.mg x=some (.int i t))(hdb:(x==("__debug__" : Str))=false:=by decide): PE X (.Name x p) (tD X.K (eC (.int i))):=by
 obtain⟨t,hm⟩:=hm;exact q1c (q93 hg hm (v:=.int i) ⟨t,rfl⟩ hdb) fun _=>rep_int.mpr rfl
def q98:D->Option D
 | .int i=>some (.int (-i))
 | _=>none
theorem qc0{f:FE}(ha:PE X e (tD X.K f)): PE X (.UnaryOp .USub e pos) (tD X.K (eUn q98 f)):=by
 intro pins s σ H Q I h;obtain⟨F0,H0,F, ρ,d,r,hf,q⟩:=h;obtain⟨d',h1,h2⟩:=g0.mp hf;cases d' <;> simp only [q98] at h2 <;> first|(cases h2;done)|skip
 cases h2;refine UnaryOp_ (thn (ha pins s σ H (fun v H'=>∃F',Grow F H F' H'/\Rep X.K F' (.int _) v) I ⟨F0,H0,F, ρ,_,r,h1,fun v F' H' g' r'=>⟨F',g',r'⟩⟩) fun v s1 ⟨x,H1,I1,r1,F',g',r'⟩=>?_);cases rep_int.mp r';obtain⟨t,rfl⟩:=r1;exact neg_int ⟨.int _,H1,I1.tok _,⟨_,rfl⟩,q _ F' H1 g' (rep_int.mpr rfl)⟩
end
structure Fun2(K:Frag)(x qual:Str)(st:Stmt)(dV:Value)(f:Addr)(fd:FuncData): Prop where
 ex:∃(oc:Value) (od:Option Addr) (kV doc pm:Value) (an:Option Addr) (cdv ct:Value) (osl:Array (Option Value)),
  fd=PySem.W.fnOf x qual (q2m st) (za st) (qj st) dV kV doc pm an cdv ct/\K.lookup f=some ⟨oc,od,.func fd,osl⟩/\PySem.W.codeIn K cdv qual=true
 kp:PySem.W.keepIn K (.ref f)=true
section
variable{P:Program}{w:World}{K:Frag}{mg:Str->Option Value}{base:Heap}{x qual:Str}{st:Stmt}{dV:Value}{f:Addr}{fd:FuncData}{N ps:List Str}
theorem Fun2.ok{k:Nat}{u:FS}(F:Fun2 K x qual st dV f fd)(S:FnScope N ps (qj st))
  (hb:∀(cdv:Value) (A:Around) (outer:List Env) (s:Shared) (H:Hp) (E:XK),Room k (A.deeper (envOfC qual (qj st) s.heap.objs.size f cdv))->PSs (qv CX0 P w K mg base N qual (qj st) f cdv A outer s H E).nox (za st) (tDS K u)) :
  FnOk P w K mg base CX0 (k+1) f fd ps (spD K ps.length (j6 N.length u)):=by
 obtain⟨oc,od,kV,doc,pm,an,cdv,ct,osl,rfl,lk,hcd⟩:=F.ex;exact qqf lk hcd S fun A outer s H E hr=>hb cdv A outer s H E hr
theorem Fun2.okn{k n ar k1:Nat}{u:FS}(F:Fun2 K x qual st dV f fd)(S:FnScope N ps (qj st))(hn:N.length=n)(ha:ps.length=ar)(hk:k+1=k1)
  (hb:∀(cdv:Value) (A:Around) (outer:List Env) (s:Shared) (H:Hp) (E:XK),Room k (A.deeper (envOfC qual (qj st) s.heap.objs.size f cdv))->PSs (qv CX0 P w K mg base N qual (qj st) f cdv A outer s H E).nox (za st) (tDS K u)) :
  FnOk P w K mg base CX0 k1 f fd ps (spD K ar (j6 n u)):=by
 subst hn ha hk;exact F.ok S hb
theorem qei{oc:Value}{od an:Option Addr}{osl:Array (Option Value)}{kV doc pm cdv ct:Value}(l:K.lookup f=some ⟨oc,od,.func (PySem.W.fnOf x qual (q2m st) (za st) (qj st) dV kV doc pm an cdv ct),osl⟩)
  (c:PySem.W.codeIn K cdv qual=true) (k:PySem.W.keepIn K (.ref f)=true):Fun2 K x qual st dV f (PySem.W.fnOf x qual (q2m st) (za st) (qj st) dV kV doc pm an cdv ct):=⟨⟨oc,od,kV,doc,pm,an,cdv,ct,osl,rfl,l,c⟩,k⟩
theorem Fun2.bindsTo(F:Fun2 K x qual st dV f fd){P:FuncData->Prop}(h:∀(kV doc pm:Value) (an:Option Addr) (cdv ct:Value),P (PySem.W.fnOf x qual (q2m st) (za st) (qj st) dV kV doc pm an cdv ct)): P fd:=by
 obtain⟨oc,od,kV,doc,pm,an,cdv,ct,osl,rfl,lk,hcd⟩:=F.ex;exact h kV doc pm an cdv ct
end
def qb7(K:Frag): Sp:=fun vs H Q _=>∃(a:Addr) (ns:List Int) (F:Hp),vs=[.ref a]/\SameT F H/\SqL K F a (ns.map V.int)/\ns.length<=63/\∀H',Q (.bl true) H'
theorem qoq{P:Program}{w:World}{K:Frag}{mg:Str->Option Value}{base:Heap}{k:Nat}{f:Addr}{fd:FuncData}{x:Str}{op:List D->Option D}(F:FnOk P w K mg base CX0 k f fd [x] (spD K 1 op))(h:∀ns:List Int,ns.length<=63->op [.lst (ns.map .int)]=some (.bl true)):
  FnOk P w K mg base CX0 k f fd [x] (qb7 K):=F.imp fun vs H Q E ⟨a,ns,Fz,e,fz,hS,hl,q⟩=>by
 subst e;exact⟨Fz,[.lst (ns.map .int)],.bl true,fz,.cons (rep_lst.mpr ⟨a,_,rfl,hS,RepL.ints.mpr rfl⟩) .nil,rfl,h ns hl,fun v F' H' g' r'=>by rw [rep_bl.mp r'];exact q H'⟩
theorem qor(ht:Lam.tab=[]){l:PySem.W.OpenLaw}{k:Nat}{x:Str}{q:Program}{loose:List Str}{XP:(Str->Option Value)->Heap->Prop}{YP:World->Heap->Prop}{d:DefRec}{K:Params->Frag}(hn:l.most=some 63)(hdf:d.params.defaults=[])(hk:Room k callerA)
  (hY:∀(w:World) (h:Heap),YP w h->(K w.params).In h)
  (F:∀(w:World) (mg:Str->Option Value) (fa:Addr) (h:Heap),(K w.params).In h->h.Ns mainGlobals mg->mg d.name=some (.ref fa) ->
   ∃fd:FuncData,(∀(s:Shared) (u:Value),BindsTo s fd ⟨[u],[]⟩ [(x,u)])/\∀base:Heap,(K w.params).In base->base.Ns mainGlobals mg->FnOk l.prog w (K w.params) mg base CX0 k fa fd [x] (qb7 (K w.params))) :
  PySem.W.WalkO q loose XP YP l.row.toRowW d [] (fun f vs=>PySem.call f vs):=
 L2.qlw (n:=63) (k:=k) (x:=x) (CX:=fun _=>CX0) (sp:=fun w=>qb7 (K w.params)) hn (by decide) hdf hk hY F (fun _ H a ns hl _ hS=>⟨a,ns,H,rfl,⟨.refl _,fun p hp=>(by rw [ht] at hp;cases hp),fun p hp=>(by rw [ht] at hp;cases hp)⟩,hS,hl,fun _=>rfl⟩) fun _ _ _ _ _ z=>z
section
variable{X:Cx}{pos:Pos}{f g:FE}{a b:Expr}
abbrev oLt':=oLt
end
section
variable{X:Cx}{pos:Pos}{f g k:FE}{a b c:Expr}
theorem qej{pins:List (Addr×Obj)}{σ : St}{H:Hp}{s:Shared}(I:Inv X pins σ H s): sysModules<s.heap.objs.size:=
 Nat.lt_trans (by decide) (I.mod.glob.keeps I.bk).lt
def qos:FE:=fun _=>some (.dct [] [])
theorem qot:PE X (.Dict [] [] pos) (tD X.K qos):=fun pins s σ H Q I ⟨F0,H0,F, ρ,d,r,hf,q⟩=>by
 cases hf;refine wpAny_Dict_empty ⟨.ref s.heap.objs.size,_,I.laid (a:=s.heap.objs.size) (o:=.dK []) (t':=s.toks) (fun _ _ z=>gb _ z) (gw _)
  ⟨pz _,g02.mpr (m4 (mj (qej I))),[],.nil,Heap.DictOf.new s.heap⟩,rfl,?_⟩
 have hn:H s.heap.objs.size=none:=I.hok.fresh (gw _);exact q _ _ _ (Grow.new r.fh hn) (rep_dct.mpr ⟨_,[],rfl,z7,rfl,.nil⟩)
def q22(o1 o2:D->D->Option D)(a b c:FE): FE:=fun ρ =>(a ρ).bind fun x=>(b ρ).bind fun y=>(o1 x y).bind fun r=>(isB r).bind fun q=>if q then(c ρ).bind fun z=>o2 y z else some (.bl false)
def q3x(o1 o2:D->D->Option D)(a b c:FE): FT:=fun ρ =>(q22 o1 o2 a b c ρ).bind isB
theorem qek{o1 o2:D->D->Option D}{σ : St}{H:Hp}{Q:VK}(h:tD X.K (q22 o1 o2 f g k) σ H Q): qbf (rD X.K o1) (rD X.K o2) (tD X.K f) (tD X.K g) (tD X.K k) σ H Q:=by
 obtain⟨F0,H0,F, ρ,d,r,hf,q⟩:=h;obtain⟨x,e1,hf1⟩:=g0.mp hf;obtain⟨y,e2,hf2⟩:=g0.mp hf1;obtain⟨z,e3,hf3⟩:=g0.mp hf2;obtain⟨kq,e4,hf4⟩:=g0.mp hf3;refine⟨F0,H0,F, ρ,x,r,e1,fun v F1 H1 g1 r1=>⟨F0,H0,F1, ρ,y,r.grow g1,e2,fun u F2 H2 g2 r2=>⟨F2,x,y,z,g2.fh,r1.mono g2.ff,r2,e3,fun w F3 H3 g3 r3=>?_⟩⟩⟩;have ez:=q7g e4;subst ez;refine⟨kq,rep_bl.mp r3,?_⟩;cases kq with
 | false=>
  rw [ma m5] at hf4 ⊢;cases hf4;exact q _ F3 H3 (g1.trans (g2.trans g3)) (rep_bl.mpr rfl)
 | true=>
  rw [gy rfl] at hf4 ⊢;obtain⟨zz,e5,e6⟩:=g0.mp hf4;exact⟨F0,H0,F3, ρ,zz,r.grow (g1.trans (g2.trans g3)),e5,fun w' F4 H4 g4 r4=>⟨F4,y,zz,d,g4.fh,(r2.mono g3.ff).mono g4.ff,r4,e6,fun w5 F5 H5 g5 r5=>q w5 F5 H5 ((g1.trans (g2.trans g3)).trans (g4.trans g5)) r5⟩⟩
theorem qjw{op op':CmpOp}{o1 o2:D->D->Option D}(h1:OpR X (compareOp op) (rD X.K o1))(h2:OpR X (compareOp op') (rD X.K o2))(ha:PE X a (tD X.K f))(hb:PE X b (tD X.K g))(hc:PE X c (tD X.K k))
  (hm:lastMarks [op,op'] [b,c]=false:=by with_unfolding_all rfl):PE X (.Compare a [op,op'] [b,c] pos) (tD X.K (q22 o1 o2 f g k)):=
 j3 (qj7 h1 h2 ha hb hc hm) fun σ H Q h=>qek h
theorem qjx{op op':CmpOp}{o1 o2:D->D->Option D}(h1:OpR X (compareOp op) (rD X.K o1))(h2:OpR X (compareOp op') (rD X.K o2))(ha:PE X a (tD X.K f))(hb:PE X b (tD X.K g))(hc:PE X c (tD X.K k))
  (hm:lastMarks [op,op'] [b,c]=false:=by with_unfolding_all rfl):PT X (.Compare a [op,op'] [b,c] pos) (tDT X.K (q3x o1 o2 f g k)):=
 q85 (qj8 h1 h2 ha hb hc hm) fun σ H Q ⟨F0,H0,F, ρ,d,r,hf,q⟩=>by
  obtain⟨x,e1,e2⟩:=g0.mp hf;have ex:=q7g e2;subst ex;refine qek ⟨F0,H0,F, ρ,_,r,e1,fun v F1 H1 g1 r1=>⟨d,rep_bl.mp r1,q F1 H1 g1⟩⟩
end
theorem q99:fillsNumberSlot (.type "tuple") "mul" = pure false:=
 PySem.fillsNumberSlot_seq (id:="tuple.__mul__") (r:=some (.builtin "tuple.__rmul__")) g0r.lookup (by decide +kernel) F.slot_tuple_rmul.lookup (by decide +kernel)
theorem qfy:seqRepeat? (.type "tuple")=pure (some (.builtin "tuple.__mul__")):=by
 unfold seqRepeat?;rw [PySem.seqSlot_of (T:="tuple") (name:="__mul__") g0r.lookup (by decide +kernel),PySem.seqSlot_of (T:="tuple") (name:="__rmul__") F.slot_tuple_rmul.lookup (by decide +kernel)]
 rfl
theorem qjy(i:Int)(t:Tok)(l:Addr)(xs:Array Value)(n:Nat)(dd:Option Addr)(sl:Array (Option Value)):
  Meets (Builtin.«int.__rmul__» ⟨[.int i t,.ref l],[]⟩) (fun _ R s=>s.heap.get? l=some {cls:=.type "tuple",dict:=dd,data:=.seq xs n,slots:=sl}/\R (.ok (.ret Value.notImplemented)) s):=
 .of_wp fun prog w A R s h=>by
  obtain⟨hp,g,d,tk,os⟩:=s;obtain⟨hl,h⟩:=h
  wp_walk
  exact⟨_,rfl,h⟩
theorem qc1(i:Int)(t:Tok)(l:Addr)(xs:Array Value)(n:Nat)(dd:Option Addr)(sl:Array (Option Value))(h0:¬(decide (i < -(2 ^ 63)) || decide (i>=2 ^ 63))=true)(h1:(xs.isEmpty || i==1)=true):
  Meets (Builtin.«tuple.__mul__» ⟨[.ref l,.int i t],[]⟩) (fun _ R s=>s.heap.get? l=some {cls:=.type "tuple",dict:=dd,data:=.seq xs n,slots:=sl}/\R (.ok (.ret (.ref l))) s):=
 .of_wp fun prog w A R s h=>by
  obtain⟨hp,g,d,tk,os⟩:=s;obtain⟨hl,h⟩:=h;have f1:=g2v;have f2:=g18
  wp_walk using p9 hl
  refine g24 (gq h0) ?_
  wp_walk using p9 hl
  exact⟨_,rfl,h⟩
theorem qc2(i:Int)(t:Tok)(l:Addr)(xs:Array Value)(n:Nat)(dd:Option Addr)(sl:Array (Option Value))(h0:¬(decide (i < -(2 ^ 63)) || decide (i>=2 ^ 63))=true)(h1:¬(xs.isEmpty || i==1)=true)(h2:(decide (i<=0) || xs.isEmpty)=true):
  Meets (Builtin.«tuple.__mul__» ⟨[.ref l,.int i t],[]⟩) (fun _ R s=>s.heap.get? l=some {cls:=.type "tuple",dict:=dd,data:=.seq xs n,slots:=sl}/\R (.ok (.ret (.ref s.heap.objs.size))) {s with heap:=s.heap.push {cls:=.type "tuple",data:=.seq #[]} }):=
 .of_wp fun prog w A R s h=>by
  obtain⟨hp,g,d,tk,os⟩:=s;obtain⟨hl,h⟩:=h;have f1:=g2v;have f2:=g18
  wp_walk using p9 hl
  refine g24 (gq h0) ?_
  wp_walk using p9 hl
  exact⟨_,rfl,h⟩
theorem qc3(i:Int)(t:Tok)(l:Addr)(xs:Array Value)(n:Nat)(dd:Option Addr)(sl:Array (Option Value))(h0:¬(decide (i < -(2 ^ 63)) || decide (i>=2 ^ 63))=true)(h1:¬(xs.isEmpty || i==1)=true)(h2:¬(decide (i<=0) || xs.isEmpty)=true)
  (h3:¬((xs.size:Int)*i>(2 ^ 63-1) / 8)) (h4:¬Builtin.Tuple.tupleTooMany ((xs.size:Int)*i)=true) (h5:((List.replicate i.toNat xs).foldl (· ++ ·) #[]).size<=sizeLine) :
  Meets (Builtin.«tuple.__mul__» ⟨[.ref l,.int i t],[]⟩) (fun _ R s=>s.heap.get? l=some {cls:=.type "tuple",dict:=dd,data:=.seq xs n,slots:=sl}/\R (.ok (.ret (.ref s.heap.objs.size))) {s with heap:=s.heap.push {cls:=.type "tuple",data:=.seq ((List.replicate i.toNat xs).foldl (· ++ ·) #[])} }):=
 .of_wp fun prog w A R s h=>by
  obtain⟨hp,g,d,tk,os⟩:=s;obtain⟨hl,h⟩:=h;have f1:=g2v;have f2:=g18
  wp_walk using p9 hl
  refine g24 (gq h0) ?_
  wp_walk using p9 hl
  refine g24 (gq h3) ?_
  wp_walk using p9 hl
  exact⟨_,rfl,h⟩
theorem qc4(xs:Array Value): ∀(n:Nat) (acc:Array Value),((List.replicate n xs).foldl (· ++ ·) acc).toList=acc.toList++(List.replicate n xs.toList).flatten
 | 0,acc=>by simp
 | n+1,acc=>by
  rw [u9,uh,qc4 xs n (acc++xs),u9,p6,Array.toList_append,mn]
theorem qab(xs:List Value)(n:Nat): (List.replicate n xs.toArray).foldl (· ++ ·) #[]=(List.replicate n xs).flatten.toArray:=by
 apply Array.toList_inj.mp;rw [qc4];simp
section
variable{prog:Program}{w:World}{A:Around}{E:Value->Shared->Prop}{s:Shared}
theorem qm6{t:Addr}{vs:List Value}{i:Int}{u:Tok}{Q:Value->Shared->Prop}(ht:IsTup s.heap t vs.toArray)(h0 : -(2 ^ 62)<i)(h1:i<2 ^ 62)(hz:vs.length*i.toNat<=1000000)
  (q1:(vs=[]\/i=1)->Q (.ref t) s) (q2:¬(vs=[]\/i=1)->Q (.ref s.heap.objs.size) {s with heap:=s.heap.push {cls:=.type "tuple",data:=.seq (List.replicate i.toNat vs).flatten.toArray} }) :
  wpAny (model prog w) A (binaryOp .Mult (.ref t) (.int i u)) Q E s:=by
 obtain⟨⟨cls,dd,data,sl⟩,ho,hc,n,hd⟩:=id ht;simp only at hc hd;subst hc hd;have ty:s.TypeIs (.ref t) "tuple" :=⟨_,ho,rfl⟩
 have b0:¬(decide (i < -(2 ^ 63)) || decide (i>=2 ^ 63))=true:=by
  simp only [g0z,g2h,not_or]
  constructor <;> lia
 refine wpAny_binaryOp_repeat_ref (T:="tuple") (U:="int") (by decide) ty (fun s'=>typeIs_int s' i u) q99 F.fills_int_mul F.slot_int_rmul qfy F.slot_int_index.lookup
  (g0p F.slot_int_rmul (typeIs_int s i u) F.entry_int_rmul (F.args_int_rmul_2 _ _) (qjy i u t vs.toArray n dd sl) ⟨ho,rfl,ty,?_⟩)
 have em:vs.toArray.isEmpty=true↔vs=[]:=by simp
 by_cases c1:(vs.toArray.isEmpty || i==1)=true
 ·have c1':vs=[]\/i=1:=by simpa using c1
  exact g0p g0r ty g2i (g2d _ _) (qc1 i u t vs.toArray n dd sl b0 c1) ⟨ho,q1 c1'⟩
 ·have c1':¬(vs=[]\/i=1):=by simpa using c1
  have q:=q2 c1'
  by_cases c2:(decide (i<=0) || vs.toArray.isEmpty)=true
  ·have i0:i<=0:=by
    rcases g0z _ _ ▸ c2 with z|z
    ·exact u7 z
    ·exact absurd (.inl (em.mp z)) c1'
   have e:(List.replicate i.toNat vs).flatten.toArray = #[]:=by
    rw [show i.toNat=0 by lia];rfl
   rw [e] at q;exact g0p g0r ty g2i (g2d _ _) (qc2 i u t vs.toArray n dd sl b0 c1 c2) ⟨ho,q⟩
  ·have c2':0<i:=by
    have:¬i<=0:=fun z=>c2 (by rw [gm z];rfl);lia
   have ei:(vs.toArray.size:Int)*i=((vs.length*i.toNat:Nat):Int):=by
    rw [Int.natCast_mul,g05 (by lia),gh]
   have el:(List.replicate i.toNat vs).flatten.length=vs.length*i.toNat:=by
    rw [List.length_flatten,List.map_replicate,g38,Nat.mul_comm]
   rw [<- qab] at q;refine g0p g0r ty g2i (g2d _ _) (qc3 i u t vs.toArray n dd sl b0 c1 c2 ?_ ?_ ?_) ⟨ho,q⟩
   ·rw [ei];lia
   ·rw [ei]
    unfold Builtin.Tuple.tupleTooMany;have:sizeLine=16777216:=uc;rw [this,g2h];lia
   ·rw [qab,gh,el]
    exact yt hz
end
section
variable{X:Cx}
def qjz:D->D->Option D
 | .tup xs,.int n=>if decide (-(2 ^ 62)<n)&&decide (n<2 ^ 62)&&decide (xs.length*n.toNat<=lim) then some (.tup (List.replicate n.toNat xs).flatten) else none
 | _,_=>none
theorem qc5{xs:List V}{us:List Value}(r:Vals xs us): ∀n:Nat,Vals (List.replicate n xs).flatten (List.replicate n us).flatten
 | 0=>.nil
 | n+1=>by rw [u9,u9,p6,p6];exact r.append (qc5 r n)
theorem qc6{K:Frag}{H:Hp}{ds:List D}{xs:List V}(r:RepL K H ds xs): ∀n:Nat,RepL K H (List.replicate n ds).flatten (List.replicate n xs).flatten
 | 0=>.nil
 | n+1=>by rw [u9,u9,p6,p6];exact r.append (qc6 r n)
theorem qou:OpR X (binaryOp .Mult) (rD X.K qjz):=fun pins s σ H x y v u Q I rx ry ⟨F,d1,d2,d,q1,q2,q3,q4,q5⟩=>by
 unfold qjz at q4
 split at q4
 ·rename_i ds n
  split at q4
  ·rename_i hc
   cases q4;simp only [gu,g2h] at hc;obtain⟨⟨c1,c2⟩,c3⟩:=hc;obtain⟨p,xs,rfl,z1,z2⟩:=rep_tup.mp q2;cases rep_int.mp q3;cases rx;obtain⟨t,rfl⟩:=ry;obtain⟨its,r1,p1,hz⟩:=I.tuple (z9 q1 z1);have lx:=r1.length;have ld:=z2.length;refine qm6 p1 c1 c2 (by rw [<- lx, <- ld];exact c3) (fun hq=>?_) fun hq=>?_
   ·have e:(List.replicate n.toNat ds).flatten=ds:=by
     rcases hq with z|z
     ·have:ds=[]:=List.length_eq_zero_iff.mp (by rw [ld,lx,z];rfl)
      subst this;simp
     ·subst z;simp [List.replicate]
    rw [e] at q5;exact⟨.ref p,H,I,rfl,q5 _ F H (.refl q1) q2⟩
   ·have hn:H s.heap.objs.size=none:=I.hok.fresh (gw _)
    have rr:=qc5 r1 n.toNat;have el:(List.replicate n.toNat xs).flatten.length=ds.length*n.toNat:=by
     rw [List.length_flatten,List.map_replicate,g38,Nat.mul_comm,ld]
    refine⟨.ref s.heap.objs.size,_,I.laid (t':=s.toks) (o:=.tup (List.replicate n.toNat xs).flatten) (fun b ob q=>gb _ q) (gw _) ⟨by rw [el];exact yt c3,_,rr,TupX.new _ _⟩,rfl,?_⟩;have gn:=Grow.new (o:=.tup (List.replicate n.toNat xs).flatten) q1 hn;exact q5 _ _ _ gn (rep_tup.mpr ⟨_,_,rfl,SqT.of z7,(qc6 z2 n.toNat).mono gn.ff⟩)
  ·cases q4
 ·cases q4
def xi:D->D->Option D:=fun x y=>(oMul x y).or (qjz x y)
theorem xt:OpR X (binaryOp .Mult) (rD X.K xi):=q5e qoc qou
end
section
variable{prog:Program}{w:World}{A:Around}{E:Value->Shared->Prop}{s:Shared}
end
section
variable{X:Cx}{pos:Pos}{elts:List Expr}{x1:Nat}{tp:Pos}
end
section
variable{X:Cx}{st:Stmt}
def q02:FS:=fun _=>none
theorem w8:PS X st (tDS X.K q02):=fun pins s σ H D I ⟨F0,H0,F, ρ,fl, ρ',r,hf,q⟩=>by cases hf
def insI(x:Int): List Int->List Int
 | []=>[x]
 | y :: r=>if x<=y then x :: y :: r else y :: insI x r
def sortI:List Int->List Int
 | []=>[]
 | x :: r=>insI x (sortI r)
theorem insI_perm(x:Int): ∀l,(insI x l).Perm (x :: l)
 | []=>.refl _
 | y :: r=>by
  unfold insI
  split
  ·exact .refl _
  ·exact((insI_perm x r).cons y).trans (.swap x y r)
theorem sortI_perm:∀l,(sortI l).Perm l
 | []=>.refl _
 | x :: r=>(insI_perm x _).trans ((sortI_perm r).cons x)
theorem qac(x:Int): ∀ {l:List Int},l.Pairwise (· <= ·)->(insI x l).Pairwise (· <= ·)
 | [],_=>.cons (fun _ h=>by cases h) .nil
 | y :: r,.cons h1 h2=>by
  unfold insI
  split
  ·rename_i hxy
   refine .cons (fun z hz=>?_) (.cons h1 h2);rcases gx.mp hz with rfl|hz
   ·exact hxy
   ·exact Int.le_trans hxy (h1 z hz)
  ·rename_i hxy
   refine .cons (fun z hz=>?_) (qac x h2);rcases gx.mp ((insI_perm x r).mem_iff.mp hz) with rfl|hz
   ·omega
   ·exact h1 z hz
theorem q8e:∀l,(sortI l).Pairwise (· <= ·)
 | []=>.nil
 | x :: r=>qac x (q8e r)
theorem q5h:∀ {l m:List Int},l.Perm m->l.Pairwise (· <= ·)->m.Pairwise (· <= ·)->l=m
 | [],m,p,_,_=>(p.nil_eq).symm ▸ rfl
 | x :: l,[],p,_,_=>by cases p.length_eq
 | x :: l,y :: m,p,.cons h1 h2,.cons k1 k2=>by
  have e:x=y:=by
   have hx:x∈y :: m:=p.mem_iff.mp gd;have hy:y∈x :: l:=p.mem_iff.mpr gd;rcases gx.mp hx with e|hx
   ·exact e
   ·rcases gx.mp hy with e|hy
    ·exact e.symm
    ·exact Int.le_antisymm (h1 y hy) (k1 x hx)
  subst e;rw [q5h (List.perm_cons _ |>.mp p) h2 k2]
theorem qk0{l m:List Int}(p:m.Perm l)(h:m.Pairwise (· <= ·)): m=sortI l:=q5h (p.trans (sortI_perm l).symm) h (q8e l)
def q1e:List D->Option (List D)
 | [.lst ds]=>(q6h ds).bind fun ns=>if ns.length<64 then some ((sortI ns).map .int) else none
 | _=>none
theorem q1x:∀ {us:List Value} {ns:List Int},IntsAre us ns->Vals (ns.map V.int) us
 | _,_,.nil=>.nil
 | _,_,.cons n t h=>.cons ⟨t,rfl⟩ (q1x h)
theorem boot_sorted:bootBuiltins "sorted" = some (.builtin "sorted"):=by decide +kernel
theorem qi6(_hc:X.calm=true): ji X (.builtin "sorted") (rCL X.K q1e):=fun pins s σ H xs us Q I rv ⟨F,ds,es,fh,rl,ho,q⟩=>by
 unfold q1e at ho
 split at ho
 ·obtain⟨ns,h1,h2⟩:=g0.mp ho
  split at h2
  ·rename_i h64
   cases h2;obtain⟨x,rfl,rx⟩:=rep1 rl;obtain⟨a,ys,rfl,k1,k2⟩:=rep_lst.mp rx;obtain⟨u,rfl,ru⟩:=vals1 rv;cases ru;cases q8b h1;have ey:=RepL.ints.mp k2;subst ey;obtain⟨its,r1,p1,_⟩:=I.list (fh.seq k1);have i1:IntsAre its ns:=intsAre_of r1;have li:its.length=ns.length:=i1.length;refine sorted_ints p1.isList i1 (by rw [li];exact h64) fun out ns' a1 a2 a3=>?_;obtain⟨e,he⟩:=sortedAll_at s.heap its out;have en:=qk0 a2 a3;subst en;have hn:H (s.heap.objs.size+1)=none:=I.hok.fresh (g0u _);have ll:(sortI ns).length=ns.length:=(sortI_perm ns).length_eq;have vo:Vals ((sortI ns).map V.int) out.toList:=q1x a1;refine⟨.ref (s.heap.objs.size+1),_,I.laid (t':=s.toks) (a:=s.heap.objs.size+1) (o:=.lst ((sortI ns).map V.int)) (fun b ob q=>sortedAll_old q) (g0u _) ⟨by rw [g7,ll];exact yt (g13 (m8 h64 (by decide))),out.toList,e,vo,?_⟩,rfl,?_⟩
   ·rw [Array.toArray_toList];exact he
   ·exact q _ _ F _ (Grow.own fh hn) (fh.free hn) hn z7 (RepL.ints.mpr rfl)
  ·cases h2
 ·cases ho
end
end DL
namespace Srt
end Srt
namespace DL
open PySem PySem.Spec PyProof.Rows L2 Srt PySem.W
variable[Lam][Pin]
section
variable{X:Cx}
end
end DL
namespace DL
open PySem PySem.Spec PyProof.Rows L2
variable[Lam][Pin]
section
variable{X:Cx}
end
end DL
namespace DL
open PySem PySem.Spec PyProof.Rows L2
section
variable{prog:Program}{w:World}{A:Around}{E:Value->Shared->Prop}
end
variable[Lam][Pin]
section
variable{X:Cx}{es:List Expr}{pos:Pos}
end
end DL
namespace DL
open PySem PySem.Spec PyProof.Rows L2
variable[Lam][Pin]
section
variable{X:Cx}{pins:List (Addr×Obj)}{σ : St}{F H:Hp}{s:Shared}
theorem q4k(I:Inv X pins σ H s)(fh:Same F H)(A:Around): ∀ {ds es:List D} {xs ys:List V} {us vs:List Value},kz ds es=true->A.units+w6 ds<cLine->RepL X.K F ds xs->RepL X.K F es ys->Vals xs us->Vals ys vs ->
   ∀j (h1:j<us.length) (h2:j<vs.length),SeqAt.EqAt A s us[j] vs[j] (eqJ ds es j)
 | [],es,xs,ys,us,vs,_,_,k1,_,w1,_,j,h1,_=>by
  cases k1.nil_inv;cases w1;exact absurd h1 (tq _)
 | d :: ds,es,xs,ys,us,vs,ho,hd,k1,k2,w1,w2,j,h1,h2=>by
  obtain⟨x,r,rfl,a1,a2⟩:=k1.cons_inv;cases w1 with
  | cons p1 p2=>
   cases es with
   | nil=>cases k2.nil_inv;cases w2;exact absurd h2 (tq _)
   | cons e es=>
    obtain⟨y,r',rfl,b1,b2⟩:=k2.cons_inv;cases w2 with
    | cons p3 p4=>
     simp only [kz,gu] at ho;simp only [w6] at hd;cases j with
     | zero=>
      have e0:eqJ (d :: ds) (e :: es) 0=eqD d e:=by simp [eqJ]
      rw [e0];exact qi5 I fh A ho.1 (by lia) a1 b1 p1 p3
     | succ j=>
      have e0:eqJ (d :: ds) (e :: es) (j+1)=eqJ ds es j:=by simp [eqJ]
      rw [e0];exact q4k I fh A ho.2 (by lia) a2 b2 p2 p4 j (by simpa using h1) (by simpa using h2)
def qk1:D->D->Option D
 | .tup ds,.tup es=>if kz ds es&&decide (w6 ds<=60) then some (.bl (!eqL ds es)) else none
 | _,_=>none
theorem qov(hu:X.A.units+64<cLine): OpR X (compareOp .NotEq) (rD X.K qk1):=by
 intro pins s σ H x y v u Q I rx ry h;obtain⟨F,d1,d2,d,fh,r1,r2,ho,q⟩:=h;unfold qk1 at ho
 split at ho
 ·rename_i ds es
  split at ho
  ·rename_i hc
   cases ho;rw [gu] at hc;obtain⟨a,xs,rfl,k1,k2⟩:=rep_tup.mp r1;obtain⟨b,ys,rfl,k3,k4⟩:=rep_tup.mp r2;cases rx;cases ry;obtain⟨i1,v1,t1,_⟩:=I.tuple (z9 fh k1);obtain⟨i2,v2,t2,_⟩:=I.tuple (z9 fh k3);have hq:=q4k I fh X.A.in1 hc.1 (by have:=u7 hc.2;show X.A.units+1+w6 ds<cLine;lia) k2 k4 v1 v2;have:=SeqAt.RcNeAt.tuples (A:=X.A) (e:=eqJ ds es) (show s.heap.IsTuple a i1.toArray from t1) (show s.heap.IsTuple b i2.toArray from t2) (by lia) (fun j h1 h2=>by simpa using hq j (by simpa using h1) (by simpa using h2));simp only [gh, <- v1.length, <- v2.length, <- k2.length, <- k4.length,vi] at this;exact this X.prog X.w _ _ ⟨.bl _,H,I,rfl,q _ F H (.refl fh) (rep_bl.mpr rfl)⟩
  ·cases ho
 ·cases ho
abbrev qow:D->D->Option D:=fun x y=>(qbn x y).or (qk1 x y)
theorem qox(hu:X.A.units+64<cLine): OpR X (compareOp .NotEq) (rD X.K qow):=q5e qht (qov hu)
end
end DL
namespace Rv
open PySem PyProof.Rows
section
variable{prog:Program}{w:World}{A:Around}{E:Value->Shared->Prop}{s:Shared}{r:Addr}{a b c:Int}{t u v:Tok}{n:Nat}
end
end Rv
namespace DL
open PySem PySem.Spec PyProof.Rows L2
variable[Lam][Pin]
section
variable{X:Cx}{e:Expr}{pos:Pos}{f:FE}
def qk2:D->D->Option D
 | .lst ds,.lst es=>if kz ds es&&decide (w6 ds<=60) then some (.bl (!eqL ds es)) else none
 | _,_=>none
theorem qoy(hu:X.A.units+64<cLine): OpR X (compareOp .NotEq) (rD X.K qk2):=by
 intro pins s σ H x y v u Q I rx ry h;obtain⟨F,d1,d2,d,fh,r1,r2,ho,q⟩:=h;unfold qk2 at ho
 split at ho
 ·rename_i ds es
  split at ho
  ·rename_i hc
   cases ho;rw [gu] at hc;obtain⟨a,xs,rfl,k1,k2⟩:=rep_lst.mp r1;obtain⟨b,ys,rfl,k3,k4⟩:=rep_lst.mp r2;cases rx;cases ry;obtain⟨i1,v1,t1,_⟩:=I.list (fh.seq k1);obtain⟨i2,v2,t2,_⟩:=I.list (fh.seq k3);have hq:=q4k I fh X.A.in1 hc.1 (by have:=u7 hc.2;show X.A.units+1+w6 ds<cLine;lia) k2 k4 v1 v2;have hl1:i1.length=ds.length:=by rw [<- v1.length, <- k2.length]
   have hl2:i2.length=es.length:=by rw [<- v2.length, <- k4.length]
   by_cases hl:ds.length=es.length
   ·have:=SeqAt.RcNeAt.lists (A:=X.A) (e:=eqJ ds es) t1.isList t2.isList (by rw [gh,gh,hl1,hl2];exact hl) (by lia) (fun j h1 h2=>by simpa using hq j (by simpa using h1) (by simpa using h2))
    have e1:(List.range i1.toArray.size).all (eqJ ds es)=eqL ds es:=by
     rw [<- vi,gh,hl1, <- hl,uz];simp
    rw [e1] at this;exact this X.prog X.w _ _ ⟨.bl _,H,I,rfl,q _ F H (.refl fh) (rep_bl.mpr rfl)⟩
   ·have e1:eqL ds es=false:=by rw [<- vi];simp [hl]
    rw [e1] at q;have:=SeqAt.RcNeAt.lists_lengths (A:=X.A) t1.isList t2.isList (by rw [gh,gh,hl1,hl2];simpa using hl) (by lia);exact this X.prog X.w _ _ ⟨.bl _,H,I,rfl,q _ F H (.refl fh) (rep_bl.mpr rfl)⟩
  ·cases ho
 ·cases ho
abbrev q5i:D->D->Option D:=fun x y=>(qow x y).or (qk2 x y)
theorem q5j(hu:X.A.units+64<cLine): OpR X (compareOp .NotEq) (rD X.K q5i):=q5e (qox hu) (qoy hu)
end
section
variable{X:Cx}{e ie:Expr}{pos:Pos}{f g:FE}
end
section
variable{X:Cx}{pos:Pos}{f g:FE}
end
end DL
namespace Fl
open PySem
def Stable(P:Obj->Prop): Prop:=∀o x,P o->P (o.mapFields (·.setIfInBounds 1 x))
def Tr(h base:Heap)(e:Addr)(P:Obj->Prop)(fl:Value): Prop:=
 ∃ob ws T ot us,h.get? e=some ob/\P ob/\ob.data=.fields ws/\ws[1]? = some (.ref T)/\base.get? T=none/\T≠e/\h.get? T=some ot/\ot.data=.fields us/\us[3]? = some fl
def Fly(base:Heap)(l:List Env)(e:Addr)(P:Obj->Prop)(fl:Value)(h:Heap): Prop:=base.StaysIn h/\base.get? e=none/\h.FunFrames base l/\Tr h base e P fl
theorem Fly.there{base h:Heap}{l:List Env}{e:Addr}{P:Obj->Prop}{fl:Value}(x:Fly base l e P fl h): ∃ob ws,h.get? e=some ob/\P ob/\ob.data=.fields ws:=by
 obtain⟨_,_,_,ob,ws,_,_,_,h1,h2,h3,_⟩:=x;exact⟨ob,ws,h1,h2,h3⟩
section
variable{M:Model}{A:Around}{E:Value->Shared->Prop}{s:Shared}{base:Heap}{env:Env}{outer l:List Env}{L e:Addr}{P:Obj->Prop}{Q:Unit->Shared->Prop}{fl:Value}
theorem entry{ob:Obj}{ws:Array Value}{head:Value}{nx:Bool}(st:Stable P)(hfr:A.frames=some (env :: outer))(hl:s.heap.FunFrames base (env :: outer))(hf:env.frame=some L)
  (he:s.heap.get? e=some ob) (hkb:base.StaysIn s.heap) (hen:base.get? e=none) (hp:P ob) (hd:ob.data=.fields ws) (hz:1<ws.size)
  (k:∀h',Fly base (env :: outer) e P (rawInt L) h'->s.heap.UpToSlots h'->Q () {s with heap:=h'}) :
  wpAny M A (do let a <- frameOf env;let pl <- entryPlaceOf L nx;let b <- EntryCells.newEntry head a .none (rawInt L) .none pl;setField (.ref e) 1 b) Q E s:=by
 have nfr:e∉(env :: outer).filterMap (·.frame):=fun z=>by
  obtain⟨_,o,e1,e2⟩:=hl.mem z;rw [he] at e1;cases e1;exact e2 ws hd
 refine g8 (wpAny_frameOf_fun hfr hl hf fun h1 w1=>g8 (wpAny_entryPlaceOf fun pl hpl=>?_));unfold EntryCells.newEntry newFields;refine g8 (pj ?_ (hpl.sizeOk5 _ _ _ _ _));obtain⟨rec,hrec⟩:∃r:Obj,r = {cls:=.type "traceback",dict:=none,data:=.fields ([head,.ref L,.none,rawInt L,.none]++(if pl.isEmpty then List.replicate 6 Value.none else pl)).toArray}:=⟨_,rfl⟩
 rw [<- hrec];have e1:h1.get? e=some ob:=(w1.2.1 e nfr).trans he;have b1:base.StaysIn h1:=fun b o z=>(w1.2.1 b fun y=>by rw [(hl.mem y).1] at z;cases z).trans (hkb b o z);have e2:(h1.push rec).get? e=some ob:=gb _ e1;have nT:h1.objs.size≠e:=g0g (gv e1);have d3:=uf hd (·.setIfInBounds 1 (Value.ref h1.objs.size));refine g0j e2 hd hz (k _ ?_ ?_)
 ·have e3:=ui (Obj.mapFields (·.setIfInBounds 1 (Value.ref h1.objs.size))) e2 (uj d3)
  have oth:∀b o,b≠e->h1.get? b=some o->((h1.push rec).update e (Obj.mapFields (·.setIfInBounds 1 (Value.ref h1.objs.size)))).get? b=some o:=fun b o z q=>by
   rw [mw _ _ (m4 z)];exact gb _ q
  refine⟨fun b o z=>oth b o (fun y=>by rw [y,hen] at z;cases z) (b1 b o z),hen,hl.of_keeps fun b o z nf=>?_,_,_,h1.objs.size,rec,([head,.ref L,.none,rawInt L,.none]++(if pl.isEmpty then List.replicate 6 Value.none else pl)).toArray,e3,st ob _ hp,d3,by simp [hz],b1.fresh,nT,?_,by rw [hrec],?_⟩
  ·obtain⟨sl,q⟩:=w1.2.2 b o z
   exact⟨_,oth b _ (fun y=>by subst y;rw [he] at z;cases z;exact nf ws hd) q,rfl⟩
  ·rw [mw _ _ (m4 nT)]
   exact md h1 (by rw [hrec];rfl)
  ·rcases hpl with rfl|⟨_,_,_,_,_,_,_,rfl⟩ <;> simp
 ·intro b o z nf
  obtain⟨sl,q⟩:=w1.2.2 b o z;refine⟨sl,?_⟩;rw [mw _ _ (fun y=>by subst y;rw [he] at z;cases z;exact nf ws hd)];exact gb _ q
theorem off(x:Fly base l e P fl s.heap)(k:∀h',Fly base l e P .none h'->s.heap.UpToSlots h'->Q () {s with heap:=h'}): wpAny M A (setFlight (.ref e) none) Q E s:=by
 obtain⟨hkb,hen,hl,ob,ws,T,ot,us,e1,hp,hd,e2,e3,e4,e5,e6,e7⟩:=x;have z3:3<us.size:=(n4.mp e7).1;unfold setFlight;refine g8 (td e1 hd e2 ?_);rw [gy (show(Value.ref T != Value.none)=true by simp)];have oth:∀b,b≠T->(s.heap.update T (Obj.mapFields (·.setIfInBounds 3 ((none:Option Addr).elim Value.none fun f=>rawInt f)))).get? b=s.heap.get? b:=fun b z=>mw _ _ (m4 z);have nT:∀b o,s.heap.get? b=some o->(∀vs,o.data ≠ .fields vs)->b≠T:=fun b o z nf y=>by subst y;rw [e5] at z;cases z;exact nf us e6
 refine g0j e5 e6 z3 (k _ ⟨fun b o z=>(oth b fun y=>by rw [y,e3] at z;cases z).trans (hkb b o z),hen,hl.of_keeps fun b o z nf=>⟨o,(oth b (nT b o z nf)).trans z,rfl⟩,ob,ws,T,_,_,(oth e (m4 e4)).trans e1,hp,hd,e2,e3,e4,
  ui _ e5 (uj (uf e6 _)),uf e6 _,by simp [z3]⟩ fun b o z nf=>⟨o.slots,(oth b (nT b o z nf)).trans z⟩)
theorem first{ob:Obj}{ws:Array Value}(st:Stable P)(hfr:A.frames=some (env :: outer))(hl:s.heap.FunFrames base (env :: outer))(hf:env.frame=some L)(he:s.heap.get? e=some ob)(hkb:base.StaysIn s.heap)(hen:base.get? e=none)(hp:P ob)(hd:ob.data=.fields ws)(h1:ws[1]? = some .none)
  (k:∀h',Fly base outer e P .none h'->s.heap.UpToSlots h'->Q () {s with heap:=h'}):wpAny M A (leaving env (.ref e)) Q E s:=by
 unfold leaving noteFrame;simp only [hf];refine g8 (g8 (td he hd h1 ?_));rw [ma (by decide)];refine entry st hfr hl hf he hkb hen hp hd (n4.mp h1).1 fun h' x u=>off x fun h2 y u2=>?_;obtain⟨y1,y2,⟨_,_,y3⟩,y4⟩:=y;exact k h2 ⟨y1,y2,y3,y4⟩ (u.trans u2)
theorem note(st:Stable P)(hfr:A.frames=some (env :: outer))(hf:env.frame=some L)(x:Fly base (env :: outer) e P .none s.heap)
  (k:∀h',Fly base (env :: outer) e P (rawInt L) h'->s.heap.UpToSlots h'->Q () {s with heap:=h'}):wpAny M A (noteFrame (.ref e) env) Q E s:=by
 obtain⟨hkb,hen,hl,ob,ws,T,ot,us,e1,hp,hd,e2,e3,e4,e5,e6,e7⟩:=x;unfold noteFrame;simp only [hf];refine g8 (td e1 hd e2 ?_);rw [gy (show(Value.ref T != Value.none)=true by simp)];refine g8 (td e5 e6 e7 ?_);rw [ma (show ¬((Value.none==rawInt L)=true) by simp [rawInt])];refine g8 (g0j e5 e6 (n4.mp e7).1 ?_);have oth:∀b,b≠T->(s.heap.update T (Obj.mapFields (·.setIfInBounds 3 Value.none))).get? b=s.heap.get? b:=fun b z=>mw _ _ (m4 z);have nT:∀b o,s.heap.get? b=some o->(∀vs,o.data ≠ .fields vs)->b≠T:=fun b o z nf y=>by subst y;rw [e5] at z;cases z;exact nf us e6
 refine entry st hfr (hl.of_keeps fun b o z nf=>⟨o,(oth b (nT b o z nf)).trans z,rfl⟩) hf ((oth e (m4 e4)).trans e1) (fun b o z=>(oth b fun y=>by rw [y,e3] at z;cases z).trans (hkb b o z)) hen hp hd (n4.mp e2).1 fun h' y u=>k h' y fun b o z nf=>u b o ((oth b (nT b o z nf)).trans z) nf
theorem pass(st:Stable P)(hfr:A.frames=some (env :: outer))(hf:env.frame=some L)(x:Fly base (env :: outer) e P .none s.heap)
  (k:∀h',Fly base outer e P .none h'->s.heap.UpToSlots h'->Q () {s with heap:=h'}):wpAny M A (leaving env (.ref e)) Q E s:=by
 unfold leaving;refine g8 (note st hfr hf x fun h' y u=>off y fun h2 z u2=>?_);obtain⟨y1,y2,⟨_,_,y3⟩,y4⟩:=z;exact k h2 ⟨y1,y2,y3,y4⟩ (u.trans u2)
end
end Fl
namespace DL
open PySem PySem.Spec PyProof.Rows L2
def PX(C:Addr)(od:Option Addr): Obj->Prop:=fun o=>o.cls=.ref C/\o.dict=od
theorem PX.st{C:Addr}{od:Option Addr}: Fl.Stable (PX C od):=fun o x h=>by
 obtain⟨oc,odd,dt,sl⟩:=o;cases dt <;> exact h
def CXR(P:Program)(w:World): CXT:=fun outer H s E e s'=>s'.os=s.os/\AllBare s'.gens/\∃(B:Heap) (H':Hp) (a C:Addr) (od:Option Addr),e=.ref a /\
 Fl.Fly B outer a (PX C od) .none s'.heap/\(∀h6,B.StaysIn h6->s'.heap.UpToSlots h6->Un (frs outer) [] H H' s.heap h6/\HOk P w H' h6) /\
 s.heap.get? a=none/\H' a=none/\E (.ref C) od H'
theorem has_obj{P:Program}{w:World}{H:Hp}{h:Heap}{a:Addr}{o:HO}(x:ObjOk P w H h a o): ∃ob,h.get? a=some ob:=by
 cases o with
 | lst xs=>obtain⟨_,_,_,_,e⟩:=x;exact⟨_,e⟩
 | tup xs=>obtain⟨_,_,_,ob,e,_⟩:=x;exact⟨_,e⟩
 | dK kvs=>obtain⟨_,_,_,_,o,_,_,e,_⟩:=x;exact⟨_,e⟩
 | dT kvs=>obtain⟨_,_,_,_,o,_,_,e,_⟩:=x;exact⟨_,e⟩
 | set S n=>obtain⟨o,_,_,_,e,_⟩:=x;exact⟨_,e⟩
 | ins C dx fs=>obtain⟨_,_,_,e,_⟩:=x;exact⟨_,e⟩
 | own y=>obtain⟨_,e⟩:=x;exact⟨_,e⟩
 | xd fs=>obtain⟨_,⟨_,_,_,e,_⟩,_⟩:=x;exact⟨_,e⟩
 | rng lo hi=>obtain⟨_,_,_,e⟩:=x;exact⟨_,e⟩
 | frz ob u=>obtain⟨e,_⟩:=x;exact⟨_,e⟩
 | tbl ps=>exact⟨_,(show h.get? a=some _ from x)⟩
 | met f y=>exact⟨_,(show h.get? a=some _ from x)⟩
 | ext φ =>obtain⟨_,⟨_,e⟩,_⟩:=x;exact⟨_,e⟩
section
variable{P:Program}{w:World}{K:Frag}{mg:Str->Option Value}{base:Heap}{N:List Str}{qual:Str}{scope:Scope}{f:Addr}{cd:Value}{A:Around}{outer:List Env}{s0:Shared}{H0:Hp}{E:XK}
variable{pins:List (Addr×Obj)}{σ : St}{H:Hp}{s:Shared}
theorem q9a{l:List Env}: (envOfC qual scope s0.heap.objs.size f cd :: l).filterMap (·.frame)=s0.heap.objs.size :: l.filterMap (·.frame):=rfl
theorem qad{C e:Addr}{od:Option Addr}{ob:Obj}{ws:Array Value}(I:Inv (qv (CXR P w) P w K mg base N qual scope f cd A outer s0 H0 E) pins σ H s)(he:s.heap.get? e=some ob)(hp:PX C od ob)(hd:ob.data=.fields ws)(hw1:ws[1]? = some .none)(hH:H e=none)(hs0:s0.heap.get? e=none)(q:E (.ref C) od H):
  (qv (CXR P w) P w K mg base N qual scope f cd A outer s0 H0 E).xe (.ref e) s:=by
 have hfr:=I.ok.frames;have hst:=I.stack;obtain⟨hid,hhid⟩:∃l,l=e :: (envOfC qual scope s0.heap.objs.size f cd :: outer).filterMap (·.frame):=⟨_,rfl⟩
 have hin:∀env∈(envOfC qual scope s0.heap.objs.size f cd :: outer),∀b,env.frame=some b->b∈hid:=fun env he b hb=>by rw [hhid];exact gi _ (g2c.mpr ⟨env,he,hb⟩)
 have hen:(PySem.W.hideAll s.heap hid).get? e=none:=g1w _ (by rw [hhid];exact gd);refine Fl.first (base:=PySem.W.hideAll s.heap hid) PX.st hfr (PySem.W.funFrames_hide hst hin) rfl he (fun b o q=>g12 _ q) hen hp hd hw1 fun h2 x1 x4=>?_;have stays:∀h6,(PySem.W.hideAll s.heap hid).StaysIn h6->∀b o,s.heap.get? b=some o->b≠e->b∉(envOfC qual scope s0.heap.objs.size f cd :: outer).filterMap (·.frame)->h6.get? b=some o:=
  fun h6 st b o e1 ne n=>st b o (g28 _ e1 (by rw [hhid];intro z;exact(gx.mp z).elim ne n))
 have there0:∀b o,s0.heap.get? b=some o->∃o',s.heap.get? b=some o':=fun b o e=>I.base.there b o e (by intro z;cases z);have ne0:∀b o,s0.heap.get? b=some o->b≠e:=fun b o e1 z=>by subst z;rw [hs0] at e1;cases e1
 have any:∀h6,(PySem.W.hideAll s.heap hid).StaysIn h6->h2.UpToSlots h6->∀b o,s.heap.get? b=some o->b≠e->∃sl,h6.get? b=some {o with slots:=sl}:=fun h6 st u b o e1 ne=>by
  by_cases hb:b∈(envOfC qual scope s0.heap.objs.size f cd :: outer).filterMap (·.frame)
  ·obtain⟨_,o',e',nf⟩:=hst.mem hb
   rw [e1] at e';cases e';exact(x4.trans u) b o e1 nf
  ·exact⟨o.slots,stays h6 st b o e1 ne hb⟩
 refine⟨I.os,I.bare,_,H,e,C,od,rfl,x1,fun h6 st u=>⟨⟨fun b o e1 n hb _=>?_,fun b o e1 n hb _=>?_,fun b o e n _=>?_,fun b o e1 _=>?_,fun b xs e=>I.base.tups b xs e,fun b o xs e=>I.base.frzs b o xs e,fun b ps e=>I.base.tbls b ps e⟩,fun b o e1=>?_⟩,hs0,hH,q⟩
 ·have e2:=I.base.keep b o e1 n hb (by intro z;cases z)
  refine stays h6 st b o e2 (ne0 b o e1) fun z=>?_;rw [q9a] at z;rcases gx.mp z with z|z
  ·rw [z] at e1;exact absurd (gv e1) (p8 _)
  ·exact hb z
 ·obtain⟨sl,e2⟩:=I.base.slot b o e1 n hb (by intro z;cases z)
  obtain⟨sl',e3⟩:=any h6 st u b _ e2 (ne0 b o e1);exact⟨sl',e3⟩
 ·exact I.base.free b o e n (by intro z;cases z)
 ·obtain⟨o',e2⟩:=there0 b o e1
  obtain⟨sl,e3⟩:=any h6 st u b o' e2 (ne0 b o e1);exact⟨_,e3⟩
 ·refine(I.hok b o e1).stay (fun c v hc r=>?_) (fun _ z=>z) fun _ _ z=>z
  have nc:c≠e:=fun z=>by
   subst z;rcases hc with hc|hc
   ·rw [hc,e1] at hH;cases hH
   ·rw [hH] at hc;cases hc
  refine stays h6 st c v r nc fun z=>?_;have n:=I.stkFree c z;rcases hc with hc|hc
  ·rw [hc,e1] at n;cases n
  ·rw [n] at hc;cases hc
theorem qds{C e:Addr}{vs:List Value}{h':Heap}(I:Inv (qv (CXR P w) P w K mg base N qual scope f cd A outer s0 H0 E) pins σ H s)(hx:Heap.MadeExcOf s.heap h' e (.ref C) vs)(q:E (.ref C) none H):
  (qv (CXR P w) P w K mg base N qual scope f cd A outer s0 H0 E).xe (.ref e) {s with heap:=h'}:=by
 obtain⟨t,he,_⟩:=hx.there;refine qad (I.kept (t':=s.toks) hx.keeps) he ⟨rfl,rfl⟩ rfl rfl ?_ ?_ q
 ·cases z:H e with
  | none=>rfl
  | some o=>
   obtain⟨ob,e1⟩:=has_obj (I.hok e o z);rw [hx.new] at e1;cases e1
 ·cases z:s0.heap.get? e with
  | none=>rfl
  | some o=>
   obtain⟨o',e1⟩:=I.base.there e o z (by intro z;cases z);rw [hx.new] at e1;cases e1
end
abbrev vB:List Value:=[.type "ValueError",.type "Exception",.type "BaseException",.type "object"]
theorem qel:vB.contains (.type "BaseException")=true:=um.hasBase
abbrev q5k(K:Frag)(C:Addr): Prop:=PySem.W.excIn K C vB "ValueError.__new__" = true
theorem qm7{K:Frag}{h:Heap}{C:Addr}(X:K.In h)(q:q5k K C): ∃bm N nm q bs hdct sn sub ab col dd k0 k1 k2 k3 k5 mN,h.get? C=some (excClassObj nm q C N bs bm hdct sn sub ab col dd k0 k1 k2 k3 k5 "ValueError.__new__")/\h.Ns N mN/\mN "__init__" = none/\OwnTail h vB bm:=by
 unfold q5k PySem.W.excIn at q
 split at q
 ·rename_i dd cd sl ho
  split at q
  ·rename_i C' bm k0 k1 k2 k3 n k5 hm hs
   simp only [gu,t5,g1h] at q;obtain⟨⟨⟨⟨⟨rfl,rfl⟩,hdel⟩,ht⟩,hok⟩,hni⟩:=q;obtain⟨nm,bs,mro,ns,qn,hd,sn,sub,ab,col,del⟩:=cd;dsimp only at hm hdel hok hni;subst hm hdel;have hsl:sl = #[k0,k1,k2,k3,some (.builtin "ValueError.__new__"),k5]:=by
    obtain⟨l⟩:=sl;simp only at hs;rw [hs]
   subst hsl;exact⟨bm,ns,nm,qn,bs,hd,sn,sub,ab,col,dd,k0,k1,k2,k3,k5,_,X _ _ ho,.of_isNs (PySem.W.isNs_of_in X hok),PySem.W.nsMap_none_of_in X hok hni,PySem.W.tail_of_in X ht⟩
  ·cases q
 ·cases q
section
variable{P:Program}{w:World}{K:Frag}{mg:Str->Option Value}{base:Heap}{N:List Str}{qual:Str}{scope:Scope}{f:Addr}{cd:Value}{A:Around}{outer:List Env}{s0:Shared}{H0:Hp}{E:XK}
theorem qk3{C:Addr}{x m:Str}{np p2 cpos pos:Pos}{j}(hC:q5k K C)(hg:Gl (qv (CXR P w) P w K mg base N qual scope f cd A outer s0 H0 E) x)(hm:mg x=some (.ref C))(hd:(x==("__debug__" : Str))=false:=by decide):
  PS (qv (CXR P w) P w K mg base N qual scope f cd A outer s0 H0 E) (.Raise (some (.Call (.Name x np) [.Constant (.str m) j p2] [] cpos)) none pos) (fun _ _ H=>E (.ref C) none H):=by
 intro pins s σ H D I q;obtain⟨tl,N,nm,qn,bs,hdct,sn,sub,ab,col,dd,k0,k1,k2,k3,k5,mN,hC,hN,hni,T⟩:=qm7 I.kIn hC;refine wpAny_Raise_call_subT (C:=C) (nm:=nm) (q:=qn) (N:=N) (bs:=bs) (bm:=tl) (hdct:=hdct) (sn:=sn) (sub:=sub) (ab:=ab) (col:=col) (dd:=dd) (k0:=k0) (k1:=k1) (k2:=k2) (k3:=k3) (k5:=k5)
  um (mN:=mN) (T.hasType qel) (I.ok.hd rfl) rfl hni (wk I hg hm ⟨rfl,?_⟩ hd)
 refine Calls.evalArgs_plain (Calls.spliced_cons ?_);show wpAny _ _ (eval (Expr.Constant (Const.str m) j p2) _) _ _ _;refine g14 ?_;show wpAny _ _ (spliced []) _ _ _;refine Calls.spliced_nil ⟨rfl,(by show 1<=sizeLine;decide),hC,hN,T,fun h' e hx=>?_⟩;exact qds (I.tok _) hx q
end
section
variable{X:Cx}{pins:List (Addr×Obj)}{σ σ1:St}{H H1:Hp}{s s1:Shared}
theorem qc7{p:Addr}{o:HO}(I0:Inv X pins σ H s)(hp0:s.heap.get? p=none)(I:Inv X pins σ1 H1 s1)(hp:H1 p=none)(new:ObjOk X.prog X.w (upd H1 p o) s1.heap p o): Inv X pins σ1 (upd H1 p o) s1:=by
 have ne:∀ {b:Addr} {u:HO},H1 b=some u->upd H1 p o b=some u:=fun {b u} e=>by rw [qu (xx e hp)];exact e
 have nz:∀b ob,s.heap.get? b=some ob->b≠p:=fun b ob e z=>by subst z;rw [hp0] at e;cases e
 refine⟨I.ok,I.os,I.bare,⟨I.base.keep,I.base.slot,fun b ob e n hx=>?_,I.base.there,fun b xs e=>ne (I.base.tups b xs e),fun b ob xs e=>ne (I.base.frzs b ob xs e),fun b ps e=>?_⟩,I.loc,I.cell,?_,fun y c e=>?_,fun q hq=>?_,fun b u e=>?_,I.len⟩
 ·obtain⟨o',e1⟩:=I0.base.there b ob e hx
  rw [qu (nz b o' e1)];exact I.base.free b ob e n hx
 ·obtain⟨more,e1⟩:=I.base.tbls b ps e
  exact⟨more,ne e1⟩
 ·obtain⟨m,⟨ob,_,_,ho,_⟩,_⟩:=I0.loc
  rw [qu (nz _ ob ho)];exact I.free
 ·obtain⟨v,ob,ho,_⟩:=I0.cell y c e
  rw [qu (nz _ ob ho)];exact I.freeC y c e
 ·obtain⟨e1,e2,e3⟩:=I.pin q hq
  obtain⟨f1,_⟩:=I0.pin q hq;exact⟨e1,by rw [qu (nz _ _ f1)];exact e2,e3⟩
 ·by_cases hb:b=p
  ·subst hb;rw [z7] at e;cases e;exact new
  ·rw [qu hb] at e
   exact(I.hok b u e).stay (fun c v _ q=>q) (fun c q=>ne q) fun c xs q=>ne q
abbrev inX(X:Cx)(a:Addr): Cx:={X with A:=X.A.mark (some (.ref a)),calm:=false,xe:=fun _ _=>False}
theorem qoz{a:Addr}(ok:X.Ok): (inX X a).Ok:=
 ⟨ok.mod,ok.kind,ok.glob,ok.blt,ok.above,ok.inj,ok.has,ok.cab,(fun z=>by cases z),ok.frames,ok.stk,ok.exf,ok.bs,ok.bsz,ok.noex,ok.exfs,ok.funs,ok.frf⟩
theorem q9b{a:Addr}(I:Inv X pins σ H s): Inv (inX X a) pins σ H s:=⟨qoz I.ok,I.os,I.bare,I.base,I.loc,I.cell,I.free,I.freeC,I.pin,I.hok,I.len⟩
theorem q4l{a:Addr}(ok:X.Ok)(I:Inv (inX X a) pins σ H s): Inv X pins σ H s:=⟨ok,I.os,I.bare,I.base,I.loc,I.cell,I.free,I.freeC,I.pin,I.hok,I.len⟩
end
def qk4(i:Nat)(D:Ends): Ends:={nx:=fun σ H=>D.nx (σ.set i none) H,rt:=D.rt,bk:=fun σ H=>D.bk (σ.set i none) H,ct:=fun σ H=>D.ct (σ.set i none) H}
section
variable{X:Cx}{pins:List (Addr×Obj)}{σ : St}{H:Hp}{s:Shared}
theorem name_goes{M:Model}{A:Around}{E:Value->Shared->Prop}{i:Nat}{n:Str}{pos:Pos}{Q:Unit->Shared->Prop}(I:Inv X pins σ H s)(hN:X.N.Nodup)(hi:X.N[i]? = some n)(hx:X.env.scope.names.lookup n=some .local)
  (h:∀s',Inv X pins (σ.set i none) H s'->Q () s'):wpAny M A (do bindName X.env n .none;unbindBehindTheSuite X.env n pos) Q E s:=by
 obtain⟨m,hn,hl⟩:=id I.loc;have hcls:(X.env.scope.kind == .class || (X.env.scope.kind == .module&&X.env.locals != X.env.globals))=false:=by rw [I.ok.kind];rfl
 refine wpAny_nameGoes_keeps hx hn hcls fun h' v hn' hs=>h _ ?_;have same:∀b o,b≠X.env.locals->s.heap.get? b=some o->h'.get? b=some o:=fun b o q e=>(hs.2 b q).trans e;have l0:∀b o,X.s₀.heap.get? b=some o->b≠X.env.locals:=fun b o e=>mj (m8 (gv e) I.ok.above);refine⟨I.ok,I.os,I.bare,⟨fun b o e n hb hx=>?_,fun b o e n hb hx=>?_,I.base.free,fun b o e hx=>?_,I.base.tups,I.base.frzs,I.base.tbls⟩,⟨_,hn',fun j y v' e1 e2 e3=>?_⟩,fun y c e=>?_,I.free,I.freeC,fun p hp=>?_,fun b u e=>?_,by simpa using I.len⟩
 ·exact same b o (l0 b o e) (I.base.keep b o e n hb hx)
 ·obtain⟨sl,e1⟩:=I.base.slot b o e n hb hx
  exact⟨sl,same b _ (l0 b o e) e1⟩
 ·obtain⟨o',e1⟩:=I.base.there b o e hx
  exact⟨o',same b _ (l0 b o e) e1⟩
 ·by_cases hj:j=i
  ·subst hj
   rw [g0d] at e2;simp only [pd] at e2
   split at e2 <;> cases e2
  ·rw [g9 (m4 hj)] at e2
   obtain⟨u,r,l⟩:=hl j y v' e1 e2 e3;have hy:y≠n:=fun z=>by
    subst z;exact hj ((List.getElem?_inj (n8.mp e1).1 hN).mp (e1.trans hi.symm))
   refine⟨u,r,?_⟩;rcases l with⟨k,l⟩|⟨k,c,e,z⟩
   ·exact .inl ⟨k,(show(if y=n then v else m y)=m y from ma hy).trans l⟩
   ·obtain⟨o,ho,hd⟩:=z
    exact .inr ⟨k,c,e,o,same c o (I.cne y c e) ho,hd⟩
 ·obtain⟨v',o,ho,hd⟩:=I.cell y c e
  exact⟨v',o,same c o (I.cne y c e) ho,hd⟩
 ·obtain⟨e1,e2,e3,e4,e5⟩:=I.pin p hp
  exact⟨same _ _ e3 e1,e2,e3,e4,e5⟩
 ·refine(I.hok b u e).stay (fun c w' hc q=>same c _ ?_ q) (fun _ q=>q) fun _ _ q=>q
  rintro rfl
  rcases hc with hc|hc
  ·rw [<- hc,I.free] at e;cases e
  ·rw [I.free] at hc;cases hc
theorem qp0{D:Ends}{f:Flow}{s':Shared}{a:Addr}{i:Nat}{n:Str}{pos:Pos}{M:Model}{A:Around}{E:Value->Shared->Prop}(ok:X.Ok)(hN:X.N.Nodup)(hi:X.N[i]? = some n)(hx:X.env.scope.names.lookup n=some .local)(h:SP (inX X a) pins (qk4 i D) f s'):
  wpAny M A (do bindName X.env n .none;unbindBehindTheSuite X.env n pos) (fun _ s5=>SP X pins D f s5) E s':=by
 cases f with
 | next=>obtain⟨σ',H',I,q⟩:=h;exact name_goes (q4l ok I) hN hi hx fun s5 I5=>⟨_,H',I5,q⟩
 | brk=>obtain⟨σ',H',I,q⟩:=h;exact name_goes (q4l ok I) hN hi hx fun s5 I5=>⟨_,H',I5,q⟩
 | cont=>obtain⟨σ',H',I,q⟩:=h;exact name_goes (q4l ok I) hN hi hx fun s5 I5=>⟨_,H',I5,q⟩
 | ret u=>obtain⟨v, σ',H',I,r,q⟩:=h;exact name_goes (q4l ok I) hN hi hx fun s5 I5=>⟨v,_,H',I5,r,q⟩
end
end DL
namespace DL
open PySem PySem.Spec PyProof.Rows L2
variable[Lam][Pin]
def q5l(n:Nat)(ds:List D): Rho:=ds.map (fun d=>some (.fz d))++List.replicate (n-ds.length) none
theorem qk5{K:Frag}{F H:Hp}{N:List Str}{ds:List D}{vs:List V}(fh:SameT F H)(rl:RepL K F ds vs)(hl:ds.length<=N.length): RS K F H F H (L2.start N vs) (q5l N.length ds):=by
 have hlen:=rl.length;have no:∀ {i:Nat} {b:B},(q5l N.length ds)[i]? = some (some b)->∃d,ds[i]? = some d/\b=.fz d:=fun {i b} h1=>by
  unfold q5l at h1
  by_cases hi:i<ds.length
  ·rw [nh (by simpa using hi),gz] at h1
   cases z:ds[i]? with
   | none=>rw [z] at h1;cases h1
   | some d'=>rw [z] at h1;cases h1;exact⟨d',rfl,rfl⟩
  ·rw [nq (by simpa using hi),pb] at h1
   split at h1 <;> cases h1
 exact {
  t0:=⟨fh.t,fh.f⟩
  g:=.refl fh.s
  len:=by unfold L2.start q5l;simp only [gc,g7,g1t];lia
  fz:=fun i e h1=>by
   obtain⟨d,z,e1⟩:=no h1;cases e1;obtain⟨v,e1,e2⟩:=rl.get z;exact⟨v,qa7 e1,e2⟩
  ow:=fun i es h1=>by obtain⟨d,z,e1⟩:=no h1;cases e1
  dj:=fun i j us es a _ h1=>by obtain⟨d,z,e1⟩:=no h1;cases e1
  od:=fun i us h1=>by obtain⟨d,z,e1⟩:=no h1;cases e1
  o1:=fun i j us es h1=>by obtain⟨d,z,e1⟩:=no h1;cases e1}
section
variable{X:Cx}{K:Frag}{F0 H0 F H:Hp}{σ : St}{ρ : Rho}
theorem RS.unset(r:RS K F0 H0 F H σ ρ)(i:Nat): RS K F0 H0 F H (σ.set i none) (ρ.set i none):=by
 have back:∀ {j:Nat} {b:B},(ρ.set i none)[j]? = some (some b)->j≠i /\ ρ[j]? = some (some b):=fun {j b} h=>by
  by_cases q:j=i
  ·subst q;obtain⟨z,_⟩:=z0 h;cases z
  ·rw [g9 (m4 q)] at h;exact⟨q,h⟩
 exact {
  t0:=r.t0
  g:=r.g
  len:=by rw [n9,n9];exact r.len
  fz:=fun j e h=>by
   obtain⟨q,h⟩:=back h;rw [g9 (m4 q)];exact r.fz j e h
  ow:=fun j e h=>by
   obtain⟨q,h⟩:=back h;rw [g9 (m4 q)];exact r.ow j e h
  dj:=fun j k ds es a hjk h1 h2 h3=>by
   obtain⟨q1,h1⟩:=back h1;obtain⟨q2,h2⟩:=back h2;rw [g9 (m4 q1)] at h3;rw [g9 (m4 q2)];exact r.dj j k ds es a hjk h1 h2 h3
  od:=fun j kvs h=>by
   obtain⟨q,h⟩:=back h;obtain⟨a,bs,e1,e2,e3⟩:=r.od j kvs h;rw [g9 (m4 q)];refine⟨a,bs,e1,e2,fun k es b h2 h3=>?_⟩;obtain⟨q2,h2⟩:=back h2;rw [g9 (m4 q2)];exact e3 k es b h2 h3
  o1:=fun j k k1 k2 h1 h2=>by
   obtain⟨q1,h1⟩:=back h1;obtain⟨q2,h2⟩:=back h2;exact r.o1 j k k1 k2 h1 h2}
def isX(x:Str)(b:Bool): D->Option D
 | .exc y _=>if x=y then some (.bl b) else none
 | _=>none
theorem qc8{x:Str}{b:Bool}{d d':D}(h:isX x b d=some d'): ∃f,d=.exc x f/\d'=.bl b:=by
 unfold isX at h
 split at h
 ·split at h
  ·rename_i e;subst e;cases h;exact⟨_,rfl,rfl⟩
  ·cases h
 ·cases h
theorem qc9{x:Str}{b:Bool}{C:Addr}{v2:V}{c:Value}(hns:PySem.W.nsIn X.K mainGlobals x=some (some (.ref C)))(hv:∀u,RelV v2 u->u=c)(hk:PySem.W.kitOne X.K (.ref C) c=some b):
  ji X (.builtin "isinstance") (fun xs H Q=>∃y F f,xs=[y,v2]/\Same F H/\Rep X.K F (.exc x f) y/\Q (.bl b) H):=by
 intro pins s σ H xs us Q I r h;obtain⟨y,F,fx,rfl,fh,rd,q⟩:=h;obtain⟨u,w',rfl,rx,rt⟩:=r.two;obtain rfl:=hv _ rt;obtain⟨a,C',rfl,⟨od',h1,_⟩,h2,c1,c2⟩:=rep_exc.mp rd;rw [hns] at h2;cases h2;cases rx;obtain⟨J,_,_⟩:=(show ObjOk X.prog X.w H s.heap a _ from I.hok a _ (fh _ _ h1))
 exact g23 (qbm c1) I.kIn J hk (fun z=>nomatch z) (fun tk=>⟨.bl _,H,I.tok _,rfl,q⟩)
variable{e:Expr}{pos:Pos}{f:FE}
theorem zb{x y:Str}{b:Bool}{C C2:Addr}{p px:Pos}(hns:PySem.W.nsIn X.K mainGlobals x=some (some (.ref C)))(hk:PySem.W.kitOne X.K (.ref C) (.ref C2)=some b)(hg:Gl X "isinstance")(hm:X.mg "isinstance" = none)(hgT:Gl X y)(hmT:X.mg y=some (.ref C2))(ha:PE X e (tD X.K f))
  (hdT:(y==("__debug__" : Str))=false:=by decide) (he2:starEach [e,.Name y px] X.env=(false,eval e X.env) :: starEach [.Name y px] X.env:=by rfl) :
  PE X (.Call (.Name "isinstance" p) [e,.Name y px] [] pos) (tD X.K (eUn (isX x b) f)):=
 j3 (q0e (qc9 (v2:=.ref C2) hns (fun u h=>by cases h;rfl) hk) hg hm q7i (jj ha (jj (q93 (v:=.ref C2) hgT hmT rfl hdT) y6) he2) (by decide) (by decide) he2 rfl) fun σ H Q ⟨F0,H0,F, ρ,d,r,hf,q⟩=>by
  obtain⟨d',h1,h2⟩:=g0.mp hf;obtain⟨fx,rfl,rfl⟩:=qc8 h2;exact⟨F0,H0,F, ρ,_,r,h1,fun v F' H' g' r'=>⟨v,F',fx,rfl,g'.fh,r',q _ F' H' g' (rep_bl.mpr rfl)⟩⟩
theorem q6i{x y:Str}{b:Bool}{C:Addr}{T:String}{p px:Pos}(hns:PySem.W.nsIn X.K mainGlobals x=some (some (.ref C)))(hk:PySem.W.kitOne X.K (.ref C) (.type T)=some b)(hg:Gl X "isinstance")(hm:X.mg "isinstance" = none)(hgT:Gl X y)(hmT:X.mg y=none)(hvT:bootBuiltins y=some (.type T))(ha:PE X e (tD X.K f))
  (hnT:y≠"__name__" :=by decide) (hdT:(y==("__debug__" : Str))=false:=by decide) (he2:starEach [e,.Name y px] X.env=(false,eval e X.env) :: starEach [.Name y px] X.env:=by rfl) :
  PE X (.Call (.Name "isinstance" p) [e,.Name y px] [] pos) (tD X.K (eUn (isX x b) f)):=
 j3 (q0e (qc9 (v2:=.ty T) hns (fun u h=>by cases h;rfl) hk) hg hm q7i (jj ha (jj (qe5 (v:=.ty T) hgT hmT hvT rfl hnT hdT) y6) he2) (by decide) (by decide) he2 rfl) fun σ H Q ⟨F0,H0,F, ρ,d,r,hf,q⟩=>by
  obtain⟨d',h1,h2⟩:=g0.mp hf;obtain⟨fx,rfl,rfl⟩:=qc8 h2;exact⟨F0,H0,F, ρ,_,r,h1,fun v F' H' g' r'=>⟨v,F',fx,rfl,g'.fh,r',q _ F' H' g' (rep_bl.mpr rfl)⟩⟩
end
end DL
namespace DL
open PySem
theorem q9c{K:Frag}{C:Addr}(h1:PySem.W.kitOne K (.ref C) (.type "int")=some false)(h2:PySem.W.kitOne K (.ref C) (.type "bool")=some false)(h3:PySem.W.kitOne K (.ref C) (.type "tuple")=some false)(h4:PySem.W.kitOne K (.ref C) (.type "list")=some false)
  (h5:PySem.W.kitOne K (.ref C) (.type "str")=some false) (h6:PySem.W.kitOne K (.ref C) (.type "dict")=some false):∀T:String,T∈["int","bool","tuple","list","str","dict"]->PySem.W.kitOne K (.ref C) (.type T)=some false:=by
 intro T hT;simp only [gx,g00,g1r] at hT;rcases hT with rfl|rfl|rfl|rfl|rfl|rfl <;> assumption
end DL
namespace DL
open PySem PySem.Spec PyProof.Rows L2
variable[Lam][Pin]
section
variable{P:Program}{w:World}{K:Frag}{mg:Str->Option Value}{base:Heap}{N:List Str}{qual:Str}{scope:Scope}{f:Addr}{cd:Value}{A:Around}{outer:List Env}{s0:Shared}{H0:Hp}{E:XK}
theorem qqj:q80 (CXR P w) (qv (CXR P w) P w K mg base N qual scope f cd A outer s0 H0 E) E:=by
 intro pins σ H s e s' I h;obtain⟨os,bare,B,H2,a,C,od,rfl,hfl,hun,hna,hH2,q⟩:=h;refine Fl.pass PX.st I.ok.frames rfl hfl fun h' x1 x2=>?_;have nl:∀b o,s0.heap.get? b=some o->b∉frs outer->b∉frs (envOfC qual scope s0.heap.objs.size f cd :: outer):=fun b o e n z=>by
  unfold frs at z;rw [q9a] at z;rcases gx.mp z with z|z
  ·rw [z] at e;exact absurd (gv e) (p8 _)
  ·exact n z
 have nx:∀ {b:Addr},b∉([]:List Addr):=fun {b} z=>by cases z
 refine⟨os.trans I.os,bare,B,H2,a,C,od,rfl,x1,fun h6 st u=>?_,?_,hH2,q⟩
 ·obtain⟨un,hok⟩:=hun h6 st (x2.trans u)
  refine⟨⟨fun b o e n hb _=>?_,fun b o e n hb _=>?_,fun b o e n _=>?_,fun b o e _=>?_,fun b xs e=>un.tups b xs (I.base.tups b xs e),fun b o xs e=>un.frzs b o xs (I.base.frzs b o xs e),fun b ps e=>?_⟩,hok⟩
  ·exact un.keep b o (I.base.keep b o e n hb nx) (I.base.free b o e n nx) (nl b o e hb) nx
  ·obtain⟨sl,e1⟩:=I.base.slot b o e n hb nx
   obtain⟨sl',e2⟩:=un.any e1 (I.base.free b o e n nx) nx;exact⟨sl',e2⟩
  ·obtain⟨o',e1⟩:=I.base.there b o e nx
   exact un.free b o' e1 (I.base.free b o e n nx) nx
  ·obtain⟨o',e1⟩:=I.base.there b o e nx
   exact un.there b o' e1 nx
  ·obtain⟨m1,e1⟩:=I.base.tbls b ps e
   obtain⟨m2,e2⟩:=un.tbls b _ e1;exact⟨m1++m2,by rw [e2,g11]⟩
 ·cases z:s0.heap.get? a with
  | none=>rfl
  | some o=>
   obtain⟨o',e1⟩:=I.base.there a o z nx;rw [hna] at e1;cases e1
end
abbrev Flds:=List (Str×D)
section
omit [Lam] [Pin]
variable{K:Frag}{F:Hp}
end
def less(H:Hp)(a:Addr): Hp:=fun b=>if b=a then none else H b
section
omit [Lam] [Pin]
theorem qi7{H:Hp}{a b:Addr}{o:HO}(h:less H a b=some o): H b=some o/\b≠a:=by
 unfold less at h
 split at h
 ·cases h
 ·exact⟨h,by assumption⟩
theorem qk6{H:Hp}{a b:Addr}(h:b≠a): less H a b=H b:=ma h
end
structure OB0(K:Frag)(F H H0:Hp)(a:Addr)(o:Str×Flds): Prop where
 ex:∃C dx vs,H a=some (.ins C dx vs)/\PySem.W.nsIn K mainGlobals o.1=some (some (.ref C))/\FsR K F o.2 vs
 f:F a=none
 z:H0 a=none
section
variable{K:Frag}{F0 H0 F H F' H':Hp}{σ : St}{ρ : Rho}
end
section
variable{X:Cx}{st:Stmt}{e o:Expr}{es:List Expr}{pos apos p px:Pos}{f g:FE}{fa:FA}
abbrev FM:=Rho->Option (D×Rho)
abbrev FAM:=Rho->Option (List D×Rho)
abbrev FTM:=Rho->Option (Bool×Rho)
variable{rest:List Expr}{a b:Expr}{t u:FTM}
end
end DL
namespace L2
open PySem PySem.Spec PyProof.Rows
section
variable{X:Cx}{CX:CXT}{k:Nat}{f C:Addr}{fd:FuncData}{ps ks:List Str}{sp:Sp}{E:XK}{x:Str}{p pos:Pos}{e:Expr}{es:List Expr}{kws:List Keyword}{t tk:TA}{g:List Value->List Value->List Value}{gV:List V->List V->List V}
end
end L2
namespace DL
open PySem PySem.Spec PyProof.Rows L2
variable[Lam][Pin]
section
variable{K:Frag}{F0 H0 F H F' H':Hp}{σ : St}{ρ : Rho}
end
section
variable{X:Cx}{e:Expr}{es:List Expr}{kws:List Keyword}{pos p px spos:Pos}{fa fk:FA}
end
abbrev XV:=Str×Option (Str×Int)
abbrev FX:=Rho->Option (XV×Rho)
def xOk(K:Frag)(F0 H0:Hp)(C:Addr)(p:XV)(ρ':Rho)(E:XK): Prop:=∀F' H' σ' od,RS K F0 H0 F' H' σ' ρ'->XF F' od p.2->E (.ref C) od H'
def tXS(K:Frag)(v:FX)(E:XK): TS:=fun _ σ H=>∃F0 H0 F ρ p ρ' C,RS K F0 H0 F H σ ρ /\ v ρ = some (p, ρ')/\PySem.W.nsIn K mainGlobals p.1=some (some (.ref C))/\xOk K F0 H0 C p ρ' E
def tXE(K:Frag)(v:FX)(E:XK): TE:=fun σ H _=>∃F0 H0 F ρ p ρ' C,RS K F0 H0 F H σ ρ /\ v ρ = some (p, ρ')/\PySem.W.nsIn K mainGlobals p.1=some (some (.ref C))/\xOk K F0 H0 C p ρ' E
def spR(K:Frag)(ar:Nat)(op:List D->Option XV): Sp:=fun vs H _ E=>∃F ds p C,SameT F H/\RepL K F ds vs/\ds.length=ar/\op ds=some p/\PySem.W.nsIn K mainGlobals p.1=some (some (.ref C))/\∀F' H' od,Grow F H F' H'->XF F' od p.2->E (.ref C) od H'
def xj:FX:=fun _=>none
def q5m(x:Str): FX:=fun ρ =>some ((x,none), ρ)
def xIf(t:FT)(a b:FX): FX:=fun ρ =>(t ρ).bind fun c=>if c then a ρ else b ρ
def v9(u:FS)(a b:FX): FX:=fun ρ =>(a ρ).or (match u ρ with|some (.nx, ρ')=>b ρ'|_=>none)
def ya(ar:Nat)(op:List D->Option XV)(fa:FA): FX:=fun ρ =>(fa ρ).bind fun ds=>if ds.length=ar then(op ds).map fun p=>(p, ρ) else none
theorem PS.nox{X:Cx}{st:Stmt}{t:TS}(h:PS X.nox st t): PS X st t:=fun pins s σ H D I hw=>
 me (h pins s σ H D (I.wish _) hw) (fun _ _ q=>q.unwish) fun _ _ z=>False.elim z
theorem PA.nox'{X:Cx}{es:List Expr}{t:TA}(h:PA X.nox es t): PA X es t:=fun pos pins s σ H Q I hw=>
 me (h pos pins s σ H Q (I.wish _) hw) (fun _ _ ⟨v,H',I',r,q⟩=>⟨v,H',I'.unwish,r,q⟩) fun _ _ z=>False.elim z
theorem PE.nox'{X:Cx}{e:Expr}{t:TE}(h:PE X.nox e t): PE X e t:=fun pins s σ H Q I hw=>
 me (h pins s σ H Q (I.wish _) hw) (fun _ _ ⟨v,H',I',r,q⟩=>⟨v,H',I'.unwish,r,q⟩) fun _ _ z=>False.elim z
section
variable{P:Program}{w:World}{K:Frag}{mg:Str->Option Value}{base:Heap}{N:List Str}{qual:Str}{scope:Scope}{f:Addr}{cd:Value}{A:Around}{outer:List Env}{s0:Shared}{H0:Hp}{E:XK}
variable{st:Stmt}{rest:List Stmt}{u:FS}{v v':FX}{t:FT}{pos:Pos}
theorem q4m{X:Cx}: PS X st (tXS K xj E):=fun _ _ _ _ _ _ ⟨_,_,_,_,_,_,_,_,h,_⟩=>by cases h
theorem q0k{X:Cx}{sts:List Stmt}: PSs X sts (tXS K xj E):=fun _ _ _ _ _ _ ⟨_,_,_,_,_,_,_,_,h,_⟩=>by cases h
theorem qca{C:Addr}{x m:Str}{np p2 cpos:Pos}{j}(hC:q5k K C)(hg:Gl (qv (CXR P w) P w K mg base N qual scope f cd A outer s0 H0 E) x)(hm:mg x=some (.ref C))(hns:PySem.W.nsIn K mainGlobals x=some (some (.ref C)))(hd:(x==("__debug__" : Str))=false:=by decide):
  PS (qv (CXR P w) P w K mg base N qual scope f cd A outer s0 H0 E) (.Raise (some (.Call (.Name x np) [.Constant (.str m) j p2] [] cpos)) none pos) (tXS K (q5m x) E):=y8 (qk3 hC hg hm hd) fun D σ H ⟨F0,H0,F, ρ,y, ρ',C',r,hv,hn,hE⟩=>by
 cases hv;rw [hns] at hn;cases hn;exact hE _ _ _ none r trivial
theorem q5n{X:Cx}(h:PS X st (tXS K v E)): PSs X [st] (tXS K v E):=q3t h
theorem q0v{X:Cx}(h1:PS X st (tDS K u))(h1x:PS X st (tXS K v E))(h2x:PSs X rest (tXS K v' E)): PSs X (st :: rest) (tXS K (v9 u v v') E):=by
 intro pins s σ H D I ⟨F0,H0,F, ρ,x, ρ',C,r,hv,hn,hE⟩;unfold v9 at hv;cases h:v ρ with
 | some y=>
  rw [h,g1a] at hv;cases hv;refine g0o (thn (h1x pins s σ H {nx:=fun _ _=>False,rt:=fun _ _=>False} I ⟨F0,H0,F, ρ,x, ρ',C,r,h,hn,hE⟩) fun fl s1 q=>?_);cases fl with
  | next=>obtain⟨_,_,_,q⟩:=q;exact q.elim
  | brk=>obtain⟨_,_,_,q⟩:=q;exact q.elim
  | cont=>obtain⟨_,_,_,q⟩:=q;exact q.elim
  | ret z=>obtain⟨_,_,_,_,_,q⟩:=q;exact q.elim
 | none=>
  rw [h,t7] at hv
  split at hv
  ·rename_i ρ1 hu
   refine g0o (thn (h1 pins s σ H {D with nx:=fun σ' H'=>tXS K v' E D σ' H'} I ⟨F0,H0,F, ρ,.nx, ρ1,r,hu,fun σ' F' H' s' r'=>⟨F0,H0,F', ρ1,x, ρ',C,r',hv,hn,hE⟩⟩) fun fl s1 q=>?_);cases fl with
   | next=>obtain⟨σ',H',I',q⟩:=q;exact h2x pins s1 σ' H' D I' q
   | brk=>exact q
   | cont=>exact q
   | ret z=>exact q
  ·cases hv
theorem qb8{X:Cx}{c:Expr}{a b:List Stmt}(hc:PT X c (tDT K t))(ha:PSs X a (tXS K v E))(hb:PSs X b (tXS K v' E)): PS X (.If c a b pos) (tXS K (xIf t v v') E):=y8 (ql3 hc ha hb) fun D σ H ⟨F0,H0,F, ρ,x, ρ',C,r,hv,hn,hE⟩=>by
 obtain⟨d,h1,h2⟩:=g0.mp hv;refine⟨F0,H0,F, ρ,d,r,h1,fun F' H' g=>?_⟩;cases d with
 | true=>exact qje ⟨F0,H0,F', ρ,x, ρ',C,r.grow g,h2,hn,hE⟩
 | false=>exact qo7 ⟨F0,H0,F', ρ,x, ρ',C,r.grow g,h2,hn,hE⟩
theorem qm8{k k' ar:Nat}{fn:Addr}{fd:FuncData}{ps:List Str}{op:List D->Option XV}{x:Str}{p:Pos}{e:Expr}{es:List Expr}{fa:FA}(G:FnOk P w K mg base (CXR P w) k fn fd ps (spR K ar op))(hr:Room k' (qv (CXR P w) P w K mg base N qual scope f cd A outer s0 H0 E).A)(hk':k<=k')(hg:Gl (qv (CXR P w) P w K mg base N qual scope f cd A outer s0 H0 E) x)(hm:mg x=some (.ref fn))(hk:PySem.W.keepIn K (.ref fn)=true)(hb:Binds K fd ps [])
  (ha:PA (qv (CXR P w) P w K mg base N qual scope f cd A outer s0 H0 E).nox (e :: es) (tDA K fa)) (hdb:(x==("__debug__" : Str))=false:=by decide) (he:starEach (e :: es) (qv (CXR P w) P w K mg base N qual scope f cd A outer s0 H0 E).env=(false,eval e (qv (CXR P w) P w K mg base N qual scope f cd A outer s0 H0 E).env) :: starEach es (qv (CXR P w) P w K mg base N qual scope f cd A outer s0 H0 E).env:=by rfl) (hpl:(backTo pos (starEach es (qv (CXR P w) P w K mg base N qual scope f cd A outer s0 H0 E).env)).any (·.1)=false:=by rfl) :
  PE (qv (CXR P w) P w K mg base N qual scope f cd A outer s0 H0 E) (.Call (.Name x p) (e :: es) [] pos) (tXE K (ya ar op fa) E):=
 j3 (qe9 (X:=(qv (CXR P w) P w K mg base N qual scope f cd A outer s0 H0 E)) G (hr.mono hk') hg hm hk hb .nil qqj (PA.nox' ha) hdb he hpl) fun σ H Q ⟨F0,H0,F, ρ,y, ρ',C,r,hv,hn,hE⟩=>by
  obtain⟨ds,h1,h2⟩:=g0.mp hv
  split at h2
  ·rename_i hl
   obtain⟨p',h3,h4⟩:=gr.mp h2;cases h4;refine⟨F0,H0,F, ρ,ds,r,h1,fun vs F1 H1 g rl=>⟨F1,ds,y,C,r.sameT g,by rw [my];exact rl,hl,h3,hn,fun F2 H2 od g2 xf=>hE F2 H2 σ od ((r.grow g).grow g2) xf⟩⟩
  ·cases h2
theorem qp1{X:Cx}{e:Expr}(h:PE X e (tXE K v E)): PS X (.Return (some e) pos) (tXS K v E):=y8 (qh7 h) fun D σ H q=>q
theorem qp2{X:Cx}{e:Expr}{i:Nat}{x:Str}{px:Pos}(hN:X.N.Nodup)(hi:X.N[i]? = some x)(hx:Loc X.env.scope x)(h:PE X e (tXE K v E))(hs:swapsWith e (some (.Name x px)) pos.line X.env=pure false:=by rfl)(hf:X.fn x=true\/X.env.scope.names.lookup x=some .local:=by first|exact .inl rfl|exact .inr rfl|assumption):
  PS X (.Assign [.Name x px] e pos) (tXS K v E):=y8 (q7y hN hi hx h hs hf) fun D σ H q=>q
end
section
variable{P:Program}{w:World}{K:Frag}{mg:Str->Option Value}{base:Heap}{x qual:Str}{st:Stmt}{dV:Value}{f:Addr}{fd:FuncData}{N ps:List Str}
theorem q5o{k n ar k1:Nat}{v:FX}(F:Fun2 K x qual st dV f fd)(S:FnScope N ps (qj st))(hn:N.length=n)(ha:ps.length=ar)(hk:k+1=k1)
  (hb:∀(cdv:Value) (A:Around) (outer:List Env) (s:Shared) (H:Hp) (E:XK),Room k (A.deeper (envOfC qual (qj st) s.heap.objs.size f cdv))->PSs (qv (CXR P w) P w K mg base N qual (qj st) f cdv A outer s H E) (za st) (tXS K v E)) :
  FnOk P w K mg base (CXR P w) k1 f fd ps (spR K ar fun ds=>(v (q5l n ds)).map (·.1)):=by
 subst hn ha hk;obtain⟨oc,od,kV,doc,pm,an,cdv,ct,osl,rfl,lk,hcd⟩:=F.ex;have hpl:ps.length<=N.length:=by have:=n6 List.length S.pre;rw [mf] at this;lia
 refine qfo lk hcd S (fun vs H Q E h=>?_) fun A outer s H vs Q E hr hsp=>?_
 ·obtain⟨F,ds,_,_,_,rl,el,_⟩:=h
  rw [<- rl.length];exact el
 ·obtain⟨F1,ds,y,C,fh,rl,el,hp,hn,q⟩:=hsp
  obtain⟨⟨y', ρ'⟩,h1,rfl⟩:=gr.mp hp;exact⟨_,hb cdv A outer s H E hr,⟨_,_,_,_,y', ρ',C,qk5 fh rl (by lia),h1,hn,fun F' H' σ' od r' xf=>q F' H' od r'.g xf⟩⟩
end
section
variable{P:Program}{w:World}{K:Frag}{mg:Str->Option Value}{base:Heap}{CX:CXT}{k:Nat}{f:Addr}{fd:FuncData}{ps:List Str}{sp sp':Sp}
end
section
variable{M:Model}{A:Around}{E:Value->Shared->Prop}{s:Shared}{K:Frag}{a C C2:Addr}{od:Option Addr}
open PySem.W in
theorem qdt{b:Bool}{Q:Bool->Shared->Prop}(X:K.In s.heap)(e:XE a C od s.heap)(c2:ExcC K C2)(ht:typeIn K (.ref C2)=some (.type "type"))(hs:mroIn K C (.ref C2)=some b)(hq:Q b s): wpAny M A (excMatches (.ref a) (.ref C2)) Q E s:=by
 obtain⟨hh,g,d,t,os⟩:=s;have L0:Looks M hh (isInstance (.ref C2) (.type "tuple")) false:=(looks_typeIn X ht).andThen (Looks.of_pure tc_notTuple);have L1:Looks M hh (isType (.ref C2)) true:=by
  obtain⟨cdD,hcD⟩:=uy.mp (q96 c2);unfold PySem.W.clsIn at hcD
  split at hcD
  ·rename_i c' d' cd' sl' ho
   intro A' Q' E' s' k q;unfold isType loadHead;exact g8 (wpAny_loadPart (k _ _ (X _ _ ho)) (gf q))
  ·cases hcD
 have L2:Looks M hh (isExcClass (.ref C2)) true:=by
  refine L1.andThen ?_;rw [gy rfl];exact looks_mroIn X c2.cb
 have L3:=q2n (M:=M) e;have L4:=looks_mroIn (M:=M) X hs;unfold excMatches;refine g8 (L0.at ?_);simp only [nr,ua];refine g8 (gf ?_);simp only [g34,List.forIn_nil,bind_assoc,pure_bind];refine g8 (L2.at ?_);simp only [g3d,nr,ua,pure_bind];refine g8 (L3.at ?_);refine g8 (L4.at ?_);cases b with
 | true=>
  simp only [pd,pure_bind];exact gf hq
 | false=>
  simp only [nr,ua,pure_bind];exact gf hq
end
section
variable{X:Cx}
def Handles(X:Cx)(C:Addr)(hs:List ExceptHandler)(th:Addr->Option Addr->TS): Prop:=∀(pins:List (Addr×Obj)) (σ : St) (H H2:Hp) (s s':Shared) (B:Heap) (a:Addr) (od:Option Addr) (D:Ends),Inv X pins σ H s->s.heap.get? a=none->H2 a=none ->
 (∀h6,B.StaysIn h6->s'.heap.UpToSlots h6->Inv X pins σ H2 {s' with heap:=h6})->Fl.Fly B (X.env :: X.outer) a (PX C od) .none s'.heap->th a od D σ H2 ->
 wpAny (model X.prog X.w) X.A (handleBy (.ref a) X.env hs) (SP X pins D) X.xe s'
theorem qm9{pins:List (Addr×Obj)}{σ : St}{H2:Hp}{s':Shared}{B:Heap}(inv:∀h6,B.StaysIn h6->s'.heap.UpToSlots h6->Inv X pins σ H2 {s' with heap:=h6})(st:B.StaysIn s'.heap): Inv X pins σ H2 s':=inv s'.heap st (Heap.UpToSlots.refl _)
variable{C C2:Addr}{cx n:Str}{np hpos:Pos}{b₀:Stmt}{suite:List Stmt}{rest:List ExceptHandler}{ts:TS}{th:Addr->Option Addr->TS}{i:Nat}
theorem qla{B h:Heap}{l:List Env}{a:Addr}{od:Option Addr}{fl:Value}(x:Fl.Fly B l a (PX C od) fl h): XE a C od h:=by
 obtain⟨oe,ws,hoe,hoec,hoed⟩:=x.there;exact⟨oe,ws,hoe,hoec.1,hoec.2,hoed⟩
theorem qfz(c2:ExcC X.K C2)(ht:PySem.W.typeIn X.K (.ref C2)=some (.type "type"))(hs:PySem.W.mroIn X.K C (.ref C2)=some true)(hg:Gl X cx)(hm:X.mg cx=some (.ref C2))(hN:X.N.Nodup)(hi:X.N[i]? = some n)(hx:X.env.scope.names.lookup n=some .local)
  (hb:∀a,PSs (inX X a) (b₀ :: suite) ts) (hdb:(cx==("__debug__" : Str))=false:=by decide) :
  Handles X C (.ExceptHandler (some (.Name cx np)) (some n) (b₀ :: suite) hpos :: rest) (fun a od D σ H2=>ts (qk4 i D) (σ.set i (some (.ref a))) (upd H2 a (.ext (XE a C od)))):=by
 intro pins σ H H2 s s' B a od D I hna hH2 inv hfl q;have I5:=qm9 inv hfl.1;refine wpAny_handleBy_cons (codeAny_handlers_test (wk (q9b (a:=a) I5) hg hm ?_ hdb)) (by intro q;cases q);refine qdt I5.kIn (qla hfl) c2 ht hs ?_;refine codeAny_handlers_suite_as (Fl.off hfl fun h6 fl6 sm6=>?_);have I6:=inv h6 fl6.1 sm6;obtain⟨oe,ws,hoe,hoec,hodd,hoed⟩:=qla fl6;have I7:Inv X pins σ (upd H2 a (.ext (XE a C od))) {s' with heap:=h6}:=qc7 I hna I6 hH2 ⟨⟨oe,ws,hoe,hoec,hodd,hoed⟩,⟨oe,hoe⟩,fun h1 h2 ⟨o,vs,e1,e2,e3⟩ k=>⟨o,vs,k o e1,e2,e3⟩⟩;refine q4b (X:=X) I7 hN hi (Or.inl hx) (v:=.ref a) rfl (fun s8 I8=>?_) (.inr hx);exact me (hb a pins s8 _ _ (qk4 i D) (q9b I8) q) (fun f s9 z=>qp0 I.ok hN hi hx z) fun _ _ z=>z.elim
end
section
variable{X:Cx}
abbrev pnX(X:Cx)(pins:List (Addr×Obj)): Cx:={X with pn:=X.pn++pins}
abbrev XT(X:Cx)(pins:List (Addr×Obj))(σ0:St)(Ex:XK): Cx:=(pnX X pins).wish fun e s1=>∃p H1 s,Inv (pnX X pins) p σ0 H1 s/\CXR X.prog X.w X.stack H1 s Ex e s1
theorem qqk{pins:List (Addr×Obj)}(ok:X.Ok): (pnX X pins).Ok:=
 ⟨ok.mod,ok.kind,ok.glob,ok.blt,ok.above,ok.inj,ok.has,ok.cab,ok.hd,ok.frames,ok.stk,ok.exf,ok.bs,ok.bsz,ok.noex,ok.exfs,ok.funs,ok.frf⟩
theorem qma{pins:List (Addr×Obj)}(ok:(pnX X pins).Ok): X.Ok:=
 ⟨ok.mod,ok.kind,ok.glob,ok.blt,ok.above,ok.inj,ok.has,ok.cab,ok.hd,ok.frames,ok.stk,ok.exf,ok.bs,ok.bsz,ok.noex,ok.exfs,ok.funs,ok.frf⟩
theorem qp3{pins:List (Addr×Obj)}{σ : St}{H:Hp}{s:Shared}(I:Inv X pins σ H s): Inv (pnX X pins) [] σ H s:=
 ⟨qqk I.ok,I.os,I.bare,I.base,I.loc,I.cell,I.free,I.freeC,fun p hp=>I.pin p (by rw [my] at hp;exact hp),I.hok,I.len⟩
theorem q35{pins p:List (Addr×Obj)}{σ : St}{H:Hp}{s:Shared}(I:Inv (pnX X pins) p σ H s): Inv X pins σ H s:=
 ⟨qma I.ok,I.os,I.bare,I.base,I.loc,I.cell,I.free,I.freeC,fun q hq=>I.pin q (ur _ hq),I.hok,I.len⟩
theorem qmb{pins p:List (Addr×Obj)}{D:Ends}{f:Flow}{s':Shared}(h:SP (pnX X pins) p D f s'): SP X pins D f s':=by
 cases f with
 | next=>obtain⟨σ',H',I,q⟩:=h;exact⟨σ',H',q35 I,q⟩
 | brk=>obtain⟨σ',H',I,q⟩:=h;exact⟨σ',H',q35 I,q⟩
 | cont=>obtain⟨σ',H',I,q⟩:=h;exact⟨σ',H',q35 I,q⟩
 | ret u=>obtain⟨v, σ',H',I,r,q⟩:=h;exact⟨v, σ',H',q35 I,r,q⟩
def exT(okC:Addr->Prop)(th:Addr->Addr->Option Addr->TS)(D:Ends)(σ : St): XK:=fun c od H2=>∃C,c=.ref C/\okC C/\∀a,H2 a=none->th C a od D σ H2
theorem qmc{body:List Stmt}{h0:ExceptHandler}{hs:List ExceptHandler}{pos:Pos}{tb:St->XK->TS}{okC:Addr->Prop}{th:Addr->Addr->Option Addr->TS}(hst:X.stack=X.env :: X.outer/\X.env.frame=some X.env.locals)
  (hbody:∀(pins:List (Addr×Obj)) (σ0:St) (Ex:XK),PSs (XT X pins σ0 Ex) body (tb σ0 Ex)) (hh:∀C,okC C->Handles X C (h0 :: hs) (th C)):PS X (.Try body (h0 :: hs) [] [] pos) (fun D σ H=>tb σ (exT okC th D σ) D σ H):=by
 intro pins s σ H D I h;refine wpAny_Try_except ?_;refine me (hbody pins σ (exT okC th D σ) [] s σ H D ((qp3 I).wish _) h) (fun f s1 q=>?_) fun e s1 q=>?_
 ·have q':SP X pins D f s1:=qmb (SP.unwish q)
  cases f with
  | next=>exact g1x q'
  | brk=>exact q'
  | cont=>exact q'
  | ret u=>exact q'
 ·obtain⟨p,H1,s2,I2,os,bare,B,H2,a,C',od,rfl,hfl,hun,hna,hH2,C,hc,hok,hq⟩:=q
  cases hc;have I3:Inv X pins σ H1 s2:=q35 I2;rw [hst.1] at hfl;have hfr:X.A.frames=some (X.env :: X.outer):=by rw [I.ok.frames,hst.1]
  refine Fl.note PX.st hfr hst.2 hfl fun h4 held4 sm4=>?_;refine Fl.off held4 fun h5 held sm5=>?_;exact hh C' hok pins σ H1 H2 s2 {s1 with heap:=h5} B a od D I3 hna hH2 (fun h6 st u=>I3.call' (s':={s1 with heap:=h6}) (ch:=[]) os (hun h6 st ((sm4.trans sm5).trans u)).1 (hun h6 st ((sm4.trans sm5).trans u)).2 bare fun b z=>absurd z (by simp)) held (hq a hH2)
end
def qp4(K:Frag)(F0 H0 F:Hp)(C:Addr)(p:XV)(σ0:St)(ρ':Rho)(E:XK): Prop:=∀F' H' od,Same F F'->RS K F0 H0 F' H' σ0 ρ'->XF F' od p.2->E (.ref C) od H'
def tXC(K:Frag)(v:FX)(σ0:St)(E:XK): TS:=fun _ σ H=> σ = σ0/\∃F0 H0 F ρ p ρ' C,RS K F0 H0 F H σ ρ /\ v ρ = some (p, ρ')/\PySem.W.nsIn K mainGlobals p.1=some (some (.ref C))/\qp4 K F0 H0 F C p σ0 ρ' E
def qp5(K:Frag)(v:FX)(σ0:St)(E:XK): TE:=fun σ H _=> σ = σ0/\∃F0 H0 F ρ p ρ' C,RS K F0 H0 F H σ ρ /\ v ρ = some (p, ρ')/\PySem.W.nsIn K mainGlobals p.1=some (some (.ref C))/\qp4 K F0 H0 F C p σ0 ρ' E
section
variable{X:Cx}{K:Frag}{st:Stmt}{v v':FX}{t:FT}{pos:Pos}{σ0:St}{E:XK}{pins:List (Addr×Obj)}
theorem qmd{e:Expr}(h:PE X e (qp5 K v σ0 E))(hs:swapsWith e none pos.line X.env=pure false:=by rfl): PS X (.Expr e pos) (tXC K v σ0 E):=y8 (q6a h hs) fun D σ H q=>q
theorem qme{k:Nat}{fn:Addr}{fd:FuncData}{ps:List Str}{sp:Sp}{p0:List (Addr×Obj)}{H:Hp}{s:Shared}{Q:VK}{us:List Value}{vs:List V}(G:FnOk X.prog X.w X.K X.mg X.base (CXR X.prog X.w) k fn fd ps sp)(hr:Room k X.A)(hb:Binds X.K fd ps [])
  (I:Inv (XT X pins σ0 E) p0 σ0 H s) (rv:Vals vs us) (q:sp vs H Q E):wpAny (model X.prog X.w) X.A (call (.ref fn) us) (EP (XT X pins σ0 E) p0 σ0 Q) (XT X pins σ0 E).xe s:=by
 have hlu:us.length=ps.length:=by rw [<- rv.length];exact G.len _ _ _ _ q
 have hl':(us++[]).length=ps.length:=by rw [my];exact hlu
 have hb':=hb s us I.kIn hl';rw [my] at hb';refine ud (tf (G.run X.A X.stack s H ⟨us,[]⟩ us vs _ _ hr I.env0 hb' rv q) fun rr s' hq=>?_);cases rr with
 | error e1=>exact⟨p0,H,s,I.unwish,hq⟩
 | ok fl=>
  cases fl with
  | ret u=>exact I.after hq
  | next=>exact False.elim hq
  | brk=>exact False.elim hq
  | cont=>exact False.elim hq
theorem qmf{k k' ar:Nat}{fn:Addr}{fd:FuncData}{ps:List Str}{op:List D->Option XV}{x:Str}{p:Pos}{e:Expr}{es:List Expr}{fa:FA}(G:FnOk X.prog X.w X.K X.mg X.base (CXR X.prog X.w) k fn fd ps (spR X.K ar op))(hr:Room k' X.A)(hk':k<=k')(hg:Gl X x)(hm:X.mg x=some (.ref fn))(hk:PySem.W.keepIn X.K (.ref fn)=true)(hb:Binds X.K fd ps [])
  (ha:PA (XT X pins σ0 E).nox (e :: es) (tDA X.K fa)) (hdb:(x==("__debug__" : Str))=false:=by decide) (he:starEach (e :: es) X.env=(false,eval e X.env) :: starEach es X.env:=by rfl) (hpl:(backTo pos (starEach es X.env)).any (·.1)=false:=by rfl) :
  PE (XT X pins σ0 E) (.Call (.Name x p) (e :: es) [] pos) (qp5 X.K (ya ar op fa) σ0 E):=by
 intro q0 s σ H Q I ⟨e0,F0,H0,F, ρ,y, ρ',C,r,hv,hn,hE⟩;subst e0;obtain⟨ds,h1,h2⟩:=g0.mp hv
 split at h2
 ·rename_i hl
  obtain⟨p',h3,h4⟩:=gr.mp h2;cases h4;refine t6 (wk I hg hm ?_ hdb);refine g09 (h₀:=X.base) I.ok.mod.kin hk (me (ha pos q0 s σ H (fun vs H1=>spR X.K ar op vs H1 Q E) (I.wish _) ⟨F0,H0,F, ρ,ds,r,h1,fun vs F1 H1 g rl=>⟨F1,ds,y,C,r.sameT g,rl,hl,h3,hn,fun F2 H2 od g2 xf=>hE F2 H2 od (g.ff.trans g2.ff) ((r.grow g).grow g2) xf⟩⟩) (fun us s1 ⟨vs,H1,I1,rv,q⟩=>⟨I1.kIn,?_⟩) fun _ _ z=>False.elim z) he hpl;exact qme G (hr.mono hk') hb (I1.unwish) rv q
 ·cases h2
end
def sAs(i:Nat)(x:Str)(us:FS)(f:Option (Str×Int)): FS:=fun ρ =>(us (ρ.set i (some (.fz (.exc x f))))).map fun r=>(r.1,r.2.set i none)
def q2f(ub:FS)(vb:FX)(xs:List Str)(hd:Str->Option (Str×Int)->FS): FS:=fun ρ =>match vb ρ with
 | some (p, ρ')=>if p.1∈xs then hd p.1 p.2 ρ' else none
 | none=>ub ρ
def qk7(K:Frag)(hd:Option (Str×Int)->FS)(od:Option Addr): TS:=fun D σ H=>∃F0 H0 F ρ f fl ρ',RS K F0 H0 F H σ ρ /\ XF F od f/\hd f ρ = some (fl, ρ')/\q6e K F0 H0 F D fl ρ'
section
variable{X:Cx}
theorem Handles.imp{C:Addr}{hs:List ExceptHandler}{th th':Addr->Option Addr->TS}(k:Handles X C hs th)(i:∀a od D σ H,H a=none->th' a od D σ H->th a od D σ H): Handles X C hs th':=
 fun pins σ H H2 s s' B a od D I hna hH2 inv hfl q=>k pins σ H H2 s s' B a od D I hna hH2 inv hfl (i a od D σ H2 hH2 q)
variable{C C2:Addr}{cx n x:Str}{np hpos:Pos}{b₀:Stmt}{suite:List Stmt}{rest:List ExceptHandler}{us:FS}{i:Nat}
theorem qlb(c2:ExcC X.K C2)(ht:PySem.W.typeIn X.K (.ref C2)=some (.type "type"))(hs:PySem.W.mroIn X.K C (.ref C2)=some true)(hns:PySem.W.nsIn X.K mainGlobals x=some (some (.ref C)))(hcx:yk X.K C)(hg:Gl X cx)(hm:X.mg cx=some (.ref C2))(hN:X.N.Nodup)(hi:X.N[i]? = some n)(hx:X.env.scope.names.lookup n=some .local)
  (hb:∀a,PSs (inX X a) (b₀ :: suite) (tDS X.K us)) (hdb:(cx==("__debug__" : Str))=false:=by decide) :
  Handles X C (.ExceptHandler (some (.Name cx np)) (some n) (b₀ :: suite) hpos :: rest) (fun _ od=>qk7 X.K (sAs i x us) od):=
 (qfz c2 ht hs hg hm hN hi hx hb hdb).imp fun a od D σ H hna ⟨F0,H0,F, ρ,f,fl, ρ',r,xf,hf,q⟩=>by
  obtain⟨⟨fl1, ρ1⟩,h5,h6⟩:=gr.mp hf;cases h6;have g3:Grow F H (upd F a (.ext (XE a C od))) (upd H a (.ext (XE a C od))):=Grow.new r.fh hna;have r4:=(r.grow g3).set i (rep_exc.mpr ⟨a,C,rfl,⟨od,z7,xf.mono g3.ff⟩,hns,hcx⟩:Rep X.K (upd F a (.ext (XE a C od))) (.exc x f) (.ref a));refine⟨F0,H0,_,_,_, ρ1,r4,h5,?_⟩;cases fl1 with
  | nx=>exact fun σ' F' H' s' r'=>q _ F' H' (g3.ff.trans s') (r'.unset i)
  | bk=>exact fun σ' F' H' s' r'=>q _ F' H' (g3.ff.trans s') (r'.unset i)
  | ct=>exact fun σ' F' H' s' r'=>q _ F' H' (g3.ff.trans s') (r'.unset i)
  | rt d=>exact fun v σ' F' H' r' rv=>q v _ F' H' (r'.unset i) rv
theorem qmg{body:List Stmt}{h0:ExceptHandler}{hs:List ExceptHandler}{pos:Pos}{ub:FS}{vb:FX}{xs:List Str}{hd:Str->Option (Str×Int)->FS}(hst:X.stack=X.env :: X.outer/\X.env.frame=some X.env.locals)
  (hb:∀(pins:List (Addr×Obj)) (σ0:St) (Ex:XK),PSs (XT X pins σ0 Ex) body (tDS X.K ub)) (hx:∀(pins:List (Addr×Obj)) (σ0:St) (Ex:XK),PSs (XT X pins σ0 Ex) body (tXC X.K vb σ0 Ex))
  (hh:∀x C,x∈xs->PySem.W.nsIn X.K mainGlobals x=some (some (.ref C))->Handles X C (h0 :: hs) (fun _ od=>qk7 X.K (hd x) od)) (hn:∀x,x∈xs->∃C,PySem.W.nsIn X.K mainGlobals x=some (some (.ref C))) :
  PS X (.Try body (h0 :: hs) [] [] pos) (tDS X.K (q2f ub vb xs hd)):=by
 refine y8 (qmc (tb:=fun σ0 Ex D σ H=>tXC X.K vb σ0 Ex D σ H\/tDS X.K ub D σ H) (okC:=fun C=>∃x,x∈xs/\PySem.W.nsIn X.K mainGlobals x=some (some (.ref C)))
  (th:=fun C _ od D σ H=>∃x,x∈xs/\PySem.W.nsIn X.K mainGlobals x=some (some (.ref C))/\qk7 X.K (hd x) od D σ H) hst (fun pins σ0 Ex p s σ H D I h=>h.elim (hx pins σ0 Ex p s σ H D I) (hb pins σ0 Ex p s σ H D I))
  fun C _ pins σ H H2 s s' B a od D I hna hH2 inv hfl ⟨x,h1,h2,q⟩=>hh x C h1 h2 pins σ H H2 s s' B a od D I hna hH2 inv hfl q) fun D σ H ⟨F0,H0,F, ρ,fl, ρ',r,hf,q⟩=>?_
 unfold q2f at hf
 split at hf
 ·rename_i p ρ1 hv
  split at hf
  ·rename_i hxs
   obtain⟨C,hC⟩:=hn p.1 hxs;refine .inl ⟨rfl,F0,H0,F, ρ,p, ρ1,C,r,hv,hC,fun F' H' od s' r' xf=>⟨C,rfl,⟨p.1,hxs,hC⟩,fun a _=>⟨p.1,hxs,hC,F0,H0,F', ρ1,p.2,fl, ρ',r',xf,hf,q2w s' q⟩⟩⟩
  ·cases hf
 ·exact .inr ⟨F0,H0,F, ρ,fl, ρ',r,hf,q⟩
end
theorem qk8{X:Cx}{K:Frag}{st:Stmt}{rest:List Stmt}{v:FX}{σ0:St}{E:XK}(h:PS X st (tXC K v σ0 E)): PSs X (st :: rest) (tXC K v σ0 E):=by
 intro pins s σ H D I q;refine g0o (thn (h pins s σ H {nx:=fun _ _=>False,rt:=fun _ _=>False} I q) fun fl s1 q=>?_);cases fl with
 | next=>obtain⟨_,_,_,q⟩:=q;exact q.elim
 | brk=>obtain⟨_,_,_,q⟩:=q;exact q.elim
 | cont=>obtain⟨_,_,_,q⟩:=q;exact q.elim
 | ret z=>obtain⟨_,_,_,_,_,q⟩:=q;exact q.elim
def qrb(l:List (Str×(Option (Str×Int)->FS)))(x:Str): Option (Str×Int)->FS:=(l.lookup x).getD fun _=>q02
end DL
namespace DL
open PySem PySem.Spec PyProof.Rows L2
section
variable{prog:Program}{w:World}{A:Around}{E:Value->Shared->Prop}{h:Heap}{g:Array GenState}{d:Drawn}{t:Nat}{os:OsState}
variable{nm q:Str}{C N:Addr}{bs bm:List Value}{hdct:Bool}{sn:List Str}{sub:List Value}{ab:Bool}{col:Option Bool}{dd:Option Addr}{k0 k1 k2 k3 k5:Option Value}
theorem qi8{mN:Str->Option Value}{rest:List Value}{fI:Addr}{oI:Obj}{Q:Fin->Shared->Prop}(T:OwnTail h vB bm)(hC:h.get? C=some (excClassObj nm q C N bs bm hdct sn sub ab col dd k0 k1 k2 k3 k5 "ValueError.__new__"))(hn:h.Ns N mN)(hi:mN "__init__" = some (.ref fI))
  (hfI:h.get? fI=some oI) (hfc:oI.cls=.type "function") (hrest:rest.length<=sizeLine)
  (hq:∀h' e,Heap.MadeExcOf h h' e (.ref C) rest->wpAny (model prog w) A (call (.ref fI) (.ref e :: rest)) (fun r s'=>r=.none/\Q (.done (.ret (.ref e))) s') E ⟨h',g,d,t,os⟩) :
  wpAny (model prog w) A (Builtin.«type.__call__» ⟨.ref C :: rest,[]⟩) Q E ⟨h,g,d,t,os⟩:=by
 have F:=um
 repeat (first|with_reducible refine g0e hC ?_|with_reducible refine wpAny_madeBy_exc hC ?_|wp_step)
 refine codeAny_call_builtin_code (g17 _ F.quiet) (wpAny_check_new_subT F T hC (codeAny_exc_new_subT F T hC ?_ hrest));show wpAny _ _ _ _ _ _;obtain⟨h2,eh⟩:∃h2,h2=(h.push {cls:=.type "tuple",data:=.seq rest.toArray}).push {cls:=.ref C,data:=.fields #[.ref h.objs.size,.none,.none,.none,.bool false,.none]}:=⟨_,rfl⟩
 have keep:∀b o,h.get? b=some o->h2.get? b=some o:=fun b o e=>by rw [eh];exact gb _ (gb _ e)
 have hget:h2.get? (h.objs.size+1)=some {cls:=.ref C,data:=.fields #[.ref h.objs.size,.none,.none,.none,.bool false,.none]}:=by rw [eh];heap_get
 have hm:Heap.MadeExcOf h h2 (h.objs.size+1) (.ref C) rest:=⟨keep,uq (g0u _),h.objs.size,hget,uq (gw _),by rw [eh];exact gb _ (Heap.get?_push_at rfl rfl)⟩
 rw [<- eh];have hcC:(Value.ref C :: bm).contains (.ref C)=true:=by simp
 unfold isInstance
 repeat (first|with_reducible refine g0e hget ?_|(with_reducible refine wpAny_isSubtype_exc (keep _ _ hC) ?_;rw [hcC])|wp_step)
 show wpAny _ _ (typeLookup (.ref C) _) _ _ _;refine wpAny_typeLookup_tail (keep _ _ hC) (hn.keeps keep) (T.keeps keep) F.mroIs F.init.lookup ?_;rw [hi];refine t4 (g8 ?_);unfold bindSpecial;refine g8 (g21 (T:="function") ⟨_,keep _ _ hfI,hfc⟩ ?_);rw [gy (by decide)];refine gf (g8 (me (hq h2 _ hm) (fun r s' hr=>?_) fun _ _ x=>x));obtain⟨rfl,hQ⟩:=hr
 wp_walk
 exact hQ
theorem qi9{mN:Str->Option Value}{rest:List Value}{fI:Addr}{oI:Obj}{Q:Value->Shared->Prop}(T:OwnTail h vB bm)(hC:h.get? C=some (excClassObj nm q C N bs bm hdct sn sub ab col dd k0 k1 k2 k3 k5 "ValueError.__new__"))(hn:h.Ns N mN)(hi:mN "__init__" = some (.ref fI))
  (hfI:h.get? fI=some oI) (hfc:oI.cls=.type "function") (hrest:rest.length<=sizeLine)
  (hq:∀h' e,Heap.MadeExcOf h h' e (.ref C) rest->wpAny (model prog w) (A.under (.builtin "type.__call__" ⟨.ref C :: rest,[]⟩)) (call (.ref fI) (.ref e :: rest)) (fun r s'=>r=.none/\Q (.ref e) s') E ⟨h',g,d,t,os⟩) :
  wpAny (model prog w) A (call (.ref C) rest) Q E ⟨h,g,d,t,os⟩:=by
 have f1:=tc_lookup;have f2:=tc_bind (.ref C);have hT:(⟨h,g,d,t,os⟩:Shared).TypeIs (.ref C) "type" :=⟨_,hC,rfl⟩
 refine ud (g35 ?_);show wpAny _ _ (callAny (.ref C) _) _ _ _
 repeat (any_goals (first|assumption|with_reducible refine g0e hC ?_|wp_step))
 exact⟨rfl,codeAny_call_builtin_at (g17 _ (by decide +kernel)) entry_typeCall (wpAny_check_type_call_sub hC (qi8 T hC hn hi hfI hfc hrest fun h' e hm=>hq h' e hm))⟩
theorem qia{e:Addr}{oe:Obj}{vs:Array Value}{x:Value}{Q:Value->Shared->Prop}(T:OwnTail h vB bm)(hC:h.get? C=some (excClassObj nm q C N bs bm hdct sn sub ab col dd k0 k1 k2 k3 k5 "ValueError.__new__"))(he:h.get? e=some oe)(hcls:oe.cls=.ref C)(hd:oe.data=.fields vs){t1:Addr}(h0:vs[0]? = some (.ref t1))
  (hq:∀h' t0,(∀b o,b≠e->h.get? b=some o->h'.get? b=some o)->h.get? t0=none->t0≠e->h'.get? t0=some {cls:=.type "tuple",data:=.seq #[x]}->h'.get? e=some {oe with data:=.fields (vs.setIfInBounds 0 (.ref t0))}->Q .none ⟨h',g,d,t,os⟩) :
  wpAny (model prog w) A (call (.builtin "ValueError.__init__") [.ref e,x]) Q E ⟨h,g,d,t,os⟩:=by
 have F:=um;refine ud (tm F.init.plain F.initEntry (wpAny_check_init_subT F T hC he hcls ?_))
 wp_walk
 rw [hd];refine gf ?_;rw [h0];refine gf ?_;have he2:=gb (h:=h) {cls:=.type "tuple",data:=.seq #[x]} he;have hsz:0<vs.size:=(n4.mp h0).1;refine g8 (g0j he2 hd hsz ?_);have ne:h.objs.size≠e:=g0g (gv he);have hd3:=uf hd (·.setIfInBounds 0 (Value.ref h.objs.size));have fin:=hq ((h.push {cls:=.type "tuple",data:=.seq #[x]}).update e (Obj.mapFields (·.setIfInBounds 0 (Value.ref h.objs.size)))) h.objs.size (fun b o hb e1=>by rw [mw _ _ (m4 hb)];exact gb _ e1) (uq (gw _)) ne
  (by rw [mw _ _ (m4 ne)];exact md _ rfl)
  (by
   rw [ui _ he2 (uj hd3)];obtain⟨oc,od,dt,sl⟩:=oe;cases hd
   rfl)
 wp_walk
 exact fin
end
abbrev vBx:List Value:=[.type "ValueError",.type "Exception",.type "BaseException",.type "object"]
theorem qp6(self:Value): refuseLoop self "__setattr__" vBx=pure ():=by kernel_rfl
def qg0:List Value->Bool
 | .ref _ :: r=>qg0 r
 | r=>r==vBx
theorem qae(self:Value): ∀l:List Value,qg0 l=true->refuseLoop self "__setattr__" l=pure ()
 | [],e=>by cases e
 | c :: r,e=>by
  cases c with
  | ref a=>rw [refuseLoop_ref];exact qae self r e
  | type n=>
   have:(Value.type n :: r)=vBx:=t5.mp e;rw [this];exact qp6 self
  | _=>exact absurd (t5.mp e) (by intro z;cases z)
theorem qcb:∀l:List Value,qg0 l=true->l.contains (.type "object")=true
 | [],e=>by cases e
 | c :: r,e=>by
  cases c with
  | ref a=>rw [List.contains_cons,qcb r e,g3g]
  | type n=>
   have:(Value.type n :: r)=vBx:=t5.mp e;rw [this];decide
  | _=>exact absurd (t5.mp e) (by intro z;cases z)
def qg1(K:PySem.W.Frag)(C:Addr): Bool:=(PySem.W.clsIn K C).any fun cd=>qg0 cd.mro
section
variable{prog:Program}{w:World}{A:Around}{E:Value->Shared->Prop}{K:PySem.W.Frag}{s:Shared}{x D:Addr}{ox:Obj}{name:Str}{v:Value}
open PySem.W Builtin Builtin.ObjectAttr
theorem qk9{od:Obj}{ws:Array Value}{expr:Bool}{Q:Value->Shared->Prop}(c:ExcC K D)(X:K.In s.heap)(J:PySem.W.InstAt s.heap x ox D (some od))(hd:ox.data=.fields ws)
  (hf:findObj K D (some od) name=some (.value v)) (hh:handedIn v=true) (h:Q v {s with toks:=s.toks+1}):wpAny (model prog w) A (getAttr (.ref x) name expr) Q E s:=by
 have I:XE x D ox.dict s.heap:=⟨ox,ws,J.at_,J.cls,rfl,hd⟩
 obtain⟨hp,g,dr,t,os⟩:=s;have L0:=J.type (M:=model prog w);have L1:=looks_findIn (M:=model prog w) X c.ga;have L2:=looks_findIn (M:=model prog w) X c.gk;have L3:=looks_find (M:=model prog w) X J hf;have f3:=ue.ga.bind (.ref x);unfold getAttr getAttrBy;refine g8 (wpAny_mkText (t4 (g8 (L0.at (g8 (L1.at ?_))))));show wpAny _ _ (getAttrByItsOwn _ _ _ _ _ _) _ _ _;unfold getAttrByItsOwn hookBefore;rw [gy (show onTheHeap (Value.ref D)=true from rfl)];refine g8 (L2.at ?_);refine g8 (wpAny_attempt (t4 ?_));unfold callGetattribute boundAndCalled;rw [ma (by cases expr <;> decide)];rw [f3];refine g8 (gf ?_);refine ud (tm ue.ga.plain F.entry_bexc_ga (qbl c X I ?_));unfold Builtin.«object.__getattribute__»;refine g8 (gf (g8 (gf (g8 (L0.at (g8 (L3.at ?_)))))));refine gf ?_;dsimp only;exact handed_on hh h
theorem qka{ws:Array Value}{Q:Unit->Shared->Prop}(X:K.In s.heap)(hx:s.heap.get? x=some ox)(hcls:ox.cls=.ref D)(hdn:ox.dict=none)(hd:ox.data=.fields ws)
  (hs:findIn K (.ref D) "__setattr__" = some (some (.builtin "object.__setattr__"))) (ho:qg1 K D=true) (ha:findIn K (.ref D) name=some none) (hh:hasDictIn K D=true)
  (h:∀h' dx,(∀b o,b≠x->s.heap.get? b=some o->h'.get? b=some o)->s.heap.get? dx=none->h'.get? x=some {ox with dict:=some dx}->h'.Ns1 dx (fun y=>if y=name then some v else none)->Q () {s with heap:=h',toks:=s.toks+2}) :
  wpAny (model prog w) A (setAttr (.ref x) name v) Q E s:=by
 obtain⟨oc,odd,odt,osl⟩:=ox;dsimp only at hcls hdn hd;subst hcls hdn hd;have J:PySem.W.InstAt s.heap x ⟨.ref D,none,.fields ws,osl⟩ D none:=⟨hx,rfl,rfl,trivial⟩
 have SF:=PySem.F.store_object;obtain⟨cd,hc,hom⟩:=any_some ho;have ne:cd.mro.isEmpty=false:=by cases q:cd.mro with|nil=>rw [q] at hom;cases hom|cons _ _=>rfl
 have sub:Looks (model prog w) s.heap (isInstance (.ref x) (.type "object")) true:=J.type.andThen (looks_mroIn X (by unfold mroIn;rw [hc,g6,ma (by rw [ne];decide),qcb _ hom]));refine set_plain X J hs ?_;refine tm SF.slot.plain SF.entry (@check_slot (model prog w) _ _ {s with toks:=s.toks+1} "object.__setattr__" "object" "__setattr__" (.ref x) [.str name s.toks,v] [] _ SF.kind SF.split sub (SF.args (.ref x) (.str name s.toks) v) ?_);have hm:Looks (model prog w) s.heap (mroOf (.ref D)) cd.mro:=(looks_clsIn X hc).andThen .now;rw [osa_eq,refuse_eq];refine g8 (g8 (g0a (s:={s with toks:=s.toks+1}) J.type (g8 (g0a (s:={s with toks:=s.toks+1}) hm ?_))));rw [qae _ _ hom];refine gf (g8 (g0a (s:={s with toks:=s.toks+1}) J.type (g8 (g0a (s:={s with toks:=s.toks+1}) (looks_findIn X ha) (g8 (gf ?_))))));dsimp only;obtain⟨cd',hc',hd'⟩:=any_some hh;unfold storeInOwnDict;refine g8 (gf ?_);show wpAny _ _ (ownDictForStores (.ref x) >>= _) _ _ _;unfold ownDictForStores instanceDict;refine g8 (g8 (wpAny_loadPart hx (g8 (g0a (s:={s with toks:=s.toks+1}) (PySem.W.looks_clsIn X hc') ?_))));rw [hd'];have hdx:s.heap.get? s.heap.objs.size=none:=uq (gw _);have hxd:x≠s.heap.objs.size:=mj (gv hx);show wpAny _ _ (alloc {cls:=Value.type "dict",data:=Data.dict #[]} >>= fun d=>update x (fun o=>{o with dict:=some d}) >>= fun _=>dictMade (.ref D) x d) _ _ _;refine g8 (wpAny_alloc (g8 (wpAny_update (gb _ hx) ?_)));obtain⟨h2,eh⟩:∃h2,h2=(s.heap.push {cls:=Value.type "dict",data:=Data.dict #[]}).update x (fun o=>{o with dict:=some s.heap.objs.size}):=⟨_,rfl⟩
 have ex:h2.get? x=some ⟨.ref D,some s.heap.objs.size,.fields ws,osl⟩:=by
  rw [eh];exact ui (fun o=>{o with dict:=some s.heap.objs.size}) (gb _ hx) rfl
 have ed:h2.get? s.heap.objs.size=some {cls:=Value.type "dict",data:=Data.dict #[]}:=by
  rw [eh,mw _ _ hxd];exact md _ rfl
 have kp:∀b o,b≠x->s.heap.get? b=some o->h2.get? b=some o:=fun b o ne e=>by
  rw [eh,mw _ _ (m4 ne)];exact gb _ e
 dsimp only;rw [<- eh];have n0:h2.Ns s.heap.objs.size (fun _=>none):=⟨_, #[],_,ed,rfl,(fun e he=>absurd he (by simp)),fun _=>rfl⟩
 refine gf (a:=some s.heap.objs.size) ?_;show wpAny _ _ (storeInDict s.heap.objs.size (.str name s.toks) name v) _ _ _;unfold storeInDict;refine g8 (gf (g8 ?_));refine wpAny_nsSet1 (s:={s with heap:=h2,toks:=s.toks+1}) (Heap.Ns1.of_empty n0) fun h' hn2 hs2=>?_;obtain⟨oD,esD,epD,hoD,hdD,hcD⟩:=hn2.count (PySem.Within.cons name v (ns:=[]) (fun y hy=>absurd rfl hy));refine g8 (wpAny_lookBehind hoD (by rw [hdD];exact pastItsLine_dict (mm hcD (by rw [gs];decide))) ?_);exact gf (h h' s.heap.objs.size (fun b o ne e=>by
  have nb:b≠s.heap.objs.size:=fun z=>by rw [z,hdx] at e;cases e
  exact(hs2.2 b nb).trans (kp b o ne e)) hdx ((hs2.2 x hxd).trans ex) hn2)
end
def XG(e C:Addr)(h:Heap): Prop:=∃o ws t,h.get? e=some o/\o.cls=.ref C/\o.dict=none/\o.data=.fields ws/\ws[0]? = some (.ref t)/\ws[1]? = some .none
def XH(e C dx:Addr)(h:Heap): Prop:=∃o ws,h.get? e=some o/\o.cls=.ref C/\o.dict=some dx/\o.data=.fields ws/\ws[1]? = some .none
section
variable{X:Cx}{e:Expr}{pos jp p1 p2 fp:Pos}{j1 j2:Nat}
theorem qmh{s1 s2:Str}{te:TE}(he:PE X e te)(h1:s1.length<=1000)(h2:s2.length<=1000): PE X (.JoinedStr [.Constant (.str s1) j1 p1,.FormattedValue e (-1) none fp,.Constant (.str s2) j2 p2] jp)
  (fun σ H Q=>te σ H fun x H1=>∃i,x=.int i/\i.natAbs.log2<1920/\∀y,Q (.str y) H1):=by
 intro pins s σ H Q I h;have l0:(Str.empty++s1).length=s1.length:=by rw [strLen_append];show 0+_=_;omega
 refine JoinedStr_many (joinParts_cons (g14 ⟨by rw [l0,uc];omega,joinParts_cons (FormattedValue_plain (thn (he pins _ σ H _ (I.tok _) h) fun u s2 ⟨x,H1,I1,rx,i,ex,hd,q⟩=>?_))⟩));subst ex;obtain⟨t,rfl⟩:=(show ∃t,u=Value.int i t from rx)
 have li:=int_text_length_le (k:=1920) (by decide) hd;have l3:(Str.empty++s1++Str.ofString (toString i)).length<=1000+1922:=by rw [strLen_append,l0,PySem.ofString_length];omega
 refine formatField_int_small hd ⟨by rw [uc];omega,joinParts_cons (g14 ⟨?_,joinParts_nil ⟨.str _,H1,I1.tok _,⟨_,rfl⟩,q _⟩ ?_⟩)⟩ <;> (rw [strLen_append,uc];omega)
def q03(K:Frag)(C f:Addr): Bool:=match K.lookup C with
 | some ⟨.type "type",_,.cls cd,sl⟩=>(match cd.mro,sl.toList with
  | .ref C' :: bm,[_,_,_,_,some (.builtin n),_]=>C'==C&&n=="ValueError.__new__" && !cd.hasDel&&PySem.W.tailIn K vB bm&&PySem.W.nsOkIn K cd.ns&&PySem.W.nsIn K cd.ns "__init__" == some (some (.ref f))
  | _,_=>false)
 | _=>false
open PySem.W in
theorem qql{K:Frag}{h:Heap}{N:Addr}{mN:Str->Option Value}{y:Str}{v:Value}(X:K.In h)(G:h.Ns N mN)(hy:nsIn K N y=some (some v)): mN y=some v:=by
 obtain⟨ob,es,ep,g1,g2,_,g3⟩:=G;unfold nsIn at hy
 split at hy
 ·rename_i q
  cases g1.symm.trans (X _ _ q);cases g2
  split at hy
  ·rename_i he
   cases hy;refine(g3 y).symm.trans ?_;unfold nsFind findBy;rw [<- Array.find?_toList,he]
   rfl
  ·split at hy <;> cases hy
 ·cases hy
theorem q7j{K:Frag}{h:Heap}{C f:Addr}(X:K.In h)(q:q03 K C f=true): ∃bm N nm q bs hdct sn sub ab col dd k0 k1 k2 k3 k5 mN,h.get? C=some (excClassObj nm q C N bs bm hdct sn sub ab col dd k0 k1 k2 k3 k5 "ValueError.__new__")/\h.Ns N mN/\mN "__init__" = some (.ref f)/\OwnTail h vB bm:=by
 unfold q03 at q
 split at q
 ·rename_i dd cd sl ho
  split at q
  ·rename_i C' bm k0 k1 k2 k3 n k5 hm hs
   simp only [gu,t5,g1h] at q;obtain⟨⟨⟨⟨⟨rfl,rfl⟩,hdel⟩,ht⟩,hok⟩,hni⟩:=q;obtain⟨nm,bs,mro,ns,qn,hd,sn,sub,ab,col,del⟩:=cd;dsimp only at hm hdel hok hni;subst hm hdel;have hsl:sl = #[k0,k1,k2,k3,some (.builtin "ValueError.__new__"),k5]:=by
    obtain⟨l⟩:=sl;simp only at hs;rw [hs]
   subst hsl;have hN:=Heap.Ns.of_isNs (PySem.W.isNs_of_in X hok);exact⟨bm,ns,nm,qn,bs,hd,sn,sub,ab,col,dd,k0,k1,k2,k3,k5,_,X _ _ ho,hN,qql X hN hni,PySem.W.tail_of_in X ht⟩
  ·cases q
 ·cases q
variable{pins:List (Addr×Obj)}{σ : St}{H:Hp}{s:Shared}
theorem qp7{H:Hp}{a:Addr}{o:HO}(h:H a=some o): upd H a o=H:=by
 funext b
 by_cases z:b=a
 ·subst z;rw [z7,h]
 ·rw [qu z]
theorem qmi{B0 C f:Addr}{b slf m s1 s2:Str}{bp apos sp mp cpos epos:Pos}{pl:Sem Bool}(hg:Gl X b)(hm:X.mg b=some (.ref B0))(hsp:PySem.W.specialIn X.K (.ref B0) "__getattribute__" = some (some (.builtin "type.__getattribute__")))(hr:PySem.W.readsIn X.K B0 (.type "type")=true)
  (hf:PySem.W.findCls X.K (.ref B0) (.type "type") "__init__" = some (.val (.builtin "ValueError.__init__"))) (hC:q03 X.K C f=true) (hv0:PE X (.Name slf sp) (q2s 0)) (hv1:PE X (.Name m mp) (q2s 1)) (h1:s1.length<=1000) (h2:s2.length<=1000)
  (hdb:(b==("__debug__" : Str))=false:=by decide) (hst:starEach [.Name slf sp,.JoinedStr [.Constant (.str s1) j1 p1,.FormattedValue (.Name m mp) (-1) none fp,.Constant (.str s2) j2 p2] jp] X.env=(false,eval (.Name slf sp) X.env) :: starEach [.JoinedStr [.Constant (.str s1) j1 p1,.FormattedValue (.Name m mp) (-1) none fp,.Constant (.str s2) j2 p2] jp] X.env:=by rfl)
  (hpl:(backTo cpos (starEach [.JoinedStr [.Constant (.str s1) j1 p1,.FormattedValue (.Name m mp) (-1) none fp,.Constant (.str s2) j2 p2] jp] X.env)).any (·.1)=false:=by rfl)
  (hsw:swapsWith (.Call (.Attribute (.Name b bp) "__init__" apos) [.Name slf sp,.JoinedStr [.Constant (.str s1) j1 p1,.FormattedValue (.Name m mp) (-1) none fp,.Constant (.str s2) j2 p2] jp] [] cpos) none epos.line X.env=pure false:=by rfl)
  (ht:eval (.Call (.Attribute (.Name b bp) "__init__" apos) [.Name slf sp,.JoinedStr [.Constant (.str s1) j1 p1,.FormattedValue (.Name m mp) (-1) none fp,.Constant (.str s2) j2 p2] jp] [] cpos) X.env=(do
   let ov <- eval (.Name b bp) X.env
   standAt apos.atName
   let(fv,first) <- holding [ov] (getMethod ov "__init__" pl)
   callWith cpos fv first (backTo cpos (starEach [.Name slf sp,.JoinedStr [.Constant (.str s1) j1 p1,.FormattedValue (.Name m mp) (-1) none fp,.Constant (.str s2) j2 p2] jp] X.env)) (backToKw cpos (keywordEach [] X.env))):=by rfl) :
  PS X (.Expr (.Call (.Attribute (.Name b bp) "__init__" apos) [.Name slf sp,.JoinedStr [.Constant (.str s1) j1 p1,.FormattedValue (.Name m mp) (-1) none fp,.Constant (.str s2) j2 p2] jp] [] cpos) epos)
   (fun D σ H=>∃e i, σ[0]? = some (some (.ref e)) /\ σ[1]? = some (some (.int i))/\H e=some (.ext (XG e C))/\i.natAbs.log2<1920/\D.nx σ H):=by
 intro pins s σ H D I ⟨e,i,g1,g2,g3,hd,q⟩;refine wpAny_Expr_any ?_ I.quiet hsw;refine PySem.W.methodCall_KW (pl:=pl) (wk I hg hm ?_ hdb) ht;refine PySem.W.method_cls I.kIn hsp (PySem.W.cls_value I.kIn hr hf rfl ?_);refine g20 (thn ((jj hv0 (jj (qmh hv1 h1 h2) y6) hst) cpos pins _ σ H (fun vs H1=>∃y,vs=[.ref e,.str y]/\H1=H) (I.tok _) ⟨.ref e,g1,.int i,g2,i,rfl,hd,fun y=>⟨y,rfl,rfl⟩⟩) fun us s1 ⟨vs,H1,I1,rv,y,ev,eH⟩=>?_) hst hpl;subst ev eH;obtain⟨u1,u2,rfl,r1,r2⟩:=rv.two;obtain rfl:u1=Value.ref e:=r1;obtain⟨tl,N,nm,qn,bs,hdct,sn,sub,ab,col,dd,k0,k1,k2,k3,k5,mN,hCo,hNs,hni,T⟩:=q7j I1.kIn hC;obtain⟨⟨o,ws,t1,e1,e2,e3,e4,e5,e6⟩,_,_⟩:=(show ObjOk X.prog X.w H1 s1.heap e _ from I1.hok e _ g3)
 obtain⟨hp,gg,dr,tk,os⟩:=s1;refine qia T hCo e1 e2 e4 e5 fun h' t0 k1' n1 n2 x1 x2=>?_;have hz:0<ws.size:=(n4.mp e5).1;refine⟨σ,H1,?_,q⟩;have I2:=I1.write (x:=e) (e:=e) (o:=.ext (XG e C)) (h':=h') (t':=tk) (by rw [g3];exact True.intro) (.inl rfl) k1' ⟨_,x2⟩ ⟨⟨_,_,t0,x2,e2,e3,rfl,by simp [hz],by rw [Array.getElem?_setIfInBounds_ne (by decide)];exact e6⟩,⟨_,x2⟩,fun ha hb ⟨o',ws',t',f1,fr⟩ kk=>⟨o',ws',t',kk o' f1,fr⟩⟩;rw [qp7 g3] at I2;exact I2
structure ClsI(K:Frag)(C:Addr)(nm:Str): Prop where
 sa:PySem.W.findIn K (.ref C) "__setattr__" = some (some (.builtin "object.__setattr__"))
 ov:qg1 K C=true
 na:PySem.W.findIn K (.ref C) nm=some none
 hd:PySem.W.hasDictIn K C=true
theorem qmj{C:Addr}{slf m nm:Str}{sp mp apos:Pos}(c:ClsI X.K C nm)(hv0:PE X (.Name slf sp) (q2s 0))(hv1:PE X (.Name m mp) (q2s 1))(hs:swapsWith (.Name m mp) (some (.Attribute (.Name slf sp) nm apos)) pos.line X.env=pure false:=by rfl):
  PS X (.Assign [.Attribute (.Name slf sp) nm apos] (.Name m mp) pos) (fun D σ H=>∃e i, σ[0]? = some (some (.ref e)) /\ σ[1]? = some (some (.int i))/\H e=some (.ext (XG e C))/\∀dx,H dx=none->dx≠e->D.nx σ (upd (upd H e (.ext (XH e C dx))) dx (.xd [(nm,.int i)]))):=by
 intro pins s σ H D I ⟨e,i,g1,g2,g3,q⟩;refine plainObj_wpAny_Assign_Attribute (thn (hv1 pins s σ H (fun x H1=>x=.int i/\H1=H) I ⟨.int i,g2,rfl,rfl⟩) fun u s1 ⟨y,H1,I1,ry,ey,eH⟩=>thn (hv0 pins s1 σ H1 (fun x H2=>x=.ref e/\H2=H) I1 ⟨.ref e,g1,rfl,eH⟩) fun ov s2 ⟨x,H2,I2,rx,ex,eH2⟩=>?_) hs;subst ey ex eH2;obtain rfl:ov=Value.ref e:=rx;obtain⟨tu,rfl⟩:=(show ∃t,u=Value.int i t from ry)
 obtain⟨⟨o,ws,t1,e1,e2,e3,e4,e5,e6⟩,_,_⟩:=(show ObjOk X.prog X.w H2 s2.heap e _ from I2.hok e _ g3)
 refine qka I2.kIn e1 e2 e3 e4 c.sa c.ov c.na c.hd fun h' dx k n x2 ns=>?_;have hdx:H2 dx=none:=by
  cases z:H2 dx with
  | none=>rfl
  | some o'=>
   obtain⟨ob,z1⟩:=has_obj (I2.hok dx o' z);rw [n] at z1;cases z1
 have ne:dx≠e:=fun z=>by rw [z,e1] at n;cases n
 refine⟨σ,_,?_,q dx hdx ne⟩;have I3:=I2.write (x:=e) (e:=e) (o:=.ext (XH e C dx)) (h':=h') (t':=s2.toks+2) (by rw [g3];exact True.intro) (.inl rfl) k ⟨_,x2⟩ ⟨⟨_,ws,x2,e2,rfl,e4,e6⟩,⟨_,x2⟩,fun ha hb ⟨o',ws',f1,fr⟩ kk=>⟨o',ws',kk o' f1,fr⟩⟩;refine qc7 I2 n I3 (by rw [qu ne];exact hdx) ⟨_,ns,fun f=>?_⟩;show qfh (List.lookup f [(nm,V.int i)]) (if f=nm then some (Value.int i tu) else none);rw [mr]
 by_cases z:f=nm
 ·subst z
  rw [gy rfl,show(f==f)=true from g1p f];exact⟨tu,rfl⟩
 ·rw [ma z,show(f==nm)=false from g02.mpr z]
  exact True.intro
end
end DL
namespace DL
open PySem PySem.Spec PyProof.Rows L2
variable[Lam][Pin]
def tIn(C:Addr)(nm:Str): TS:=fun D σ H=>∃e i, σ[0]? = some (some (.ref e)) /\ σ[1]? = some (some (.int i))/\H e=some (.ext (XG e C))/\i.natAbs.log2<1920/\∀dx,H dx=none->dx≠e->D.nx σ (upd (upd H e (.ext (XH e C dx))) dx (.xd [(nm,.int i)]))
def spI(C:Addr)(nm:Str): Sp:=fun vs H Q _=>∃e i,vs=[.ref e,.int i]/\H e=some (.ext (XG e C))/\i.natAbs.log2<1920/\∀dx,H dx=none->dx≠e->Q .non (upd (upd H e (.ext (XH e C dx))) dx (.xd [(nm,.int i)]))
section
variable{X:Cx}
omit [Pin] in
theorem qkb{C:Addr}{nm:Str}{st1 st2:Stmt}(h1:PS X st1 (fun D σ H=>∃e i, σ[0]? = some (some (.ref e)) /\ σ[1]? = some (some (.int i))/\H e=some (.ext (XG e C))/\i.natAbs.log2<1920/\D.nx σ H))
  (h2:PS X st2 (fun D σ H=>∃e i, σ[0]? = some (some (.ref e)) /\ σ[1]? = some (some (.int i))/\H e=some (.ext (XG e C))/\∀dx,H dx=none->dx≠e->D.nx σ (upd (upd H e (.ext (XH e C dx))) dx (.xd [(nm,.int i)])))):PSs X [st1,st2] (tIn C nm):=
 q3u (q4c h1 (q3t h2)) fun D σ H ⟨e,i,a1,a2,a3,a4,a5⟩=>⟨e,i,a1,a2,a3,a4,⟨e,i,a1,a2,a3,a5⟩⟩
end
section
variable{P:Program}{w:World}{K:Frag}{mg:Str->Option Value}{base:Heap}{x qual:Str}{st:Stmt}{dV:Value}{f:Addr}{fd:FuncData}{N ps:List Str}
omit [Pin] in
theorem Fun2.okI{C:Addr}{nm:Str}{k k1:Nat}(F:Fun2 K x qual st dV f fd)(S:FnScope N ps (qj st))(hn:N.length=2)(ha:ps.length=2)(hk:k+1=k1)
  (hb:∀(cdv:Value) (A:Around) (outer:List Env) (s:Shared) (H:Hp) (E:XK),Room k (A.deeper (envOfC qual (qj st) s.heap.objs.size f cdv))->PSs (qv CX0 P w K mg base N qual (qj st) f cdv A outer s H E).nox (za st) (tIn C nm)) :
  FnOk P w K mg base CX0 k1 f fd ps (spI C nm):=by
 subst hk;obtain⟨oc,od,kV,doc,pm,an,cdv,ct,osl,rfl,lk,hcd⟩:=F.ex;refine qfo lk hcd S (fun vs H Q E h=>?_) fun A outer s H vs Q E hr hsp=>?_
 ·obtain⟨e,i,rfl,_⟩:=h
  exact ha.symm
 ·obtain⟨e,i,rfl,h1,h2,h3⟩:=hsp
  refine⟨_,(hb cdv A outer s H E hr).nox,e,i,?_,?_,h1,h2,fun dx a b=>h3 dx a b⟩ <;> (unfold L2.start;rw [hn];rfl)
end
def q9d(x nm:Str)(f:FE): FX:=fun ρ =>(f ρ).bind fun d=>match d with
 | .int i=>if i.natAbs.log2<1920 then some ((x,some (nm,i)), ρ) else none
 | _=>none
omit [Lam] [Pin] in
theorem Inv.dropX{X:Cx}{pins:List (Addr×Obj)}{σ : St}{H:Hp}{s:Shared}{e:Addr}{φ : Heap->Prop}(I:Inv X pins σ H s)(he:H e=some (.ext φ)): Inv X pins σ (less H e) s:=by
 have nn:∀ {b:Addr} {u:HO},H b=some u->(∀ φ,u ≠ .ext φ)->less H e b=some u:=fun {b u} e1 e2=>by
  rw [qk6,e1];intro z;subst z;rw [he] at e1;cases e1;exact e2 _ rfl
 have nz:∀ {b:Addr},H b=none->less H e b=none:=fun {b} e1=>by unfold less;split <;> first|rfl|exact e1
 refine⟨I.ok,I.os,I.bare,⟨I.base.keep,I.base.slot,fun b o e1 n hx=>nz (I.base.free b o e1 n hx),I.base.there,fun b xs e1=>nn (I.base.tups b xs e1) nofun,fun b o xs e1=>nn (I.base.frzs b o xs e1) nofun,fun b ps e1=>?_⟩,I.loc,I.cell,nz I.free,fun y c e1=>nz (I.freeC y c e1),fun p hp=>?_,fun b u e1=>?_,I.len⟩
 ·obtain⟨more,e2⟩:=I.base.tbls b ps e1
  exact⟨more,nn e2 nofun⟩
 ·obtain⟨a1,a2,a3⟩:=I.pin p hp
  exact⟨a1,nz a2,a3⟩
 ·obtain⟨e2,ne⟩:=qi7 e1
  exact(I.hok b u e2).stay (fun c v _ q=>q) (fun c q=>nn q nofun) fun c xs q=>nn q nofun
def qp8(s0:Heap)(C:Addr)(nm:Str)(te:TE): TE:=fun σ H Q=>te σ H fun x H1=>∃i,[x]=[V.int i]/\i.natAbs.log2<1920/\∀e dx,s0.get? e=none->H1 e=none->H1 dx=none->dx≠e->Q (.ref e) (upd (upd H1 e (.ext (XH e C dx))) dx (.xd [(nm,.int i)]))
section
variable{X:Cx}{pos:Pos}
omit [Lam] [Pin] in
theorem qrc{H:Hp}{a:Addr}{o o':HO}: upd (upd H a o) a o'=upd H a o':=by
 funext b
 unfold upd
 split <;> rfl
omit [Lam] [Pin] in
theorem qkc{C fI:Addr}{fdI:FuncData}{psI:List Str}{kI k':Nat}{x nm:Str}{np:Pos}{ea:Expr}{te:TE}(hC:q03 X.K C fI=true)(G:FnOk X.prog X.w X.K X.mg X.base CX0 kI fI fdI psI (spI C nm))(hbI:Binds X.K fdI psI [])(hfn:PySem.W.typeIn X.K (.ref fI)=some (.type "function"))(hkp:PySem.W.keepIn X.K (.ref C)=true)
  (hr:Room k' X.A) (hk:kI+1<=k') (hex:X.ex=[]) (hg:Gl X x) (hm:X.mg x=some (.ref C)) (ha:PE X ea te) (hd:(x==("__debug__" : Str))=false:=by decide)
  (hs:starEach [ea] X.env=(false,eval ea X.env) :: starEach [] X.env:=by rfl) (hpl:(backTo pos (starEach [] X.env)).any (·.1)=false:=by rfl) :
  PE X (.Call (.Name x np) [ea] [] pos) (qp8 X.s₀.heap C nm te):=by
 intro pins s σ H Q I h;refine t6 (wk I hg hm ?_ hd);refine g09 (h₀:=X.base) I.ok.mod.kin hkp (thn ((jj ha y6 hs) pos pins s σ H (fun vs H1=>∃i,vs=[.int i]/\i.natAbs.log2<1920/\∀e dx,X.s₀.heap.get? e=none->H1 e=none->H1 dx=none->dx≠e->Q (.ref e) (upd (upd H1 e (.ext (XH e C dx))) dx (.xd [(nm,.int i)]))) I ?_) fun us s1 ⟨vs,H1,I1,r,i,ev,hi,q⟩=>⟨I1.kIn,?_⟩) hs hpl
 ·exact h
 subst ev;obtain⟨tl,N,nm',qn,bs,hdct,sn,sub,ab,col,dd,k0,k1,k2,k3,k5,mN,hCo,hNs,hni,T⟩:=q7j I1.kIn hC;obtain⟨oI,f1,f2⟩:∃oI,s1.heap.get? fI=some oI/\oI.cls=.type "function" :=by
  obtain⟨o,ho,e⟩:=gr.mp hfn;exact⟨o,I1.kIn _ _ ho,e⟩
 obtain⟨u,rfl,ru⟩:=r.one;obtain⟨hp,g,dr,tk,os⟩:=s1;refine qi9 (rest:=[u]) T hCo hNs hni f1 f2 (by show 1<=sizeLine;decide) fun h' e hx=>?_;obtain⟨t,he,_,_⟩:=hx.there;have hH:H1 e=none:=by
  cases z:H1 e with
  | none=>rfl
  | some o=>
   obtain⟨ob,e1⟩:=has_obj (I1.hok e o z);rw [hx.new] at e1;cases e1
 have h0:X.s₀.heap.get? e=none:=by
  cases z:X.s₀.heap.get? e with
  | none=>rfl
  | some o=>
   obtain⟨o',e1⟩:=I1.base.there e o z (by rw [hex];intro z;cases z);rw [hx.new] at e1;cases e1
 have I2:Inv X pins σ (upd H1 e (.ext (XG e C))) ⟨h',g,dr,tk,os⟩:=qc7 I1 hx.new (I1.kept (t':=tk) hx.keeps) hH ⟨⟨_,_,t,he,rfl,rfl,rfl,rfl,rfl⟩,⟨_,he⟩,fun ha hb ⟨o',ws',t',e1,er⟩ kk=>⟨o',ws',t',kk o' e1,er⟩⟩;have hq:spI C nm [.ref e,.int i] (upd H1 e (.ext (XG e C))) (fun v H'=>v=.non/\Q (.ref e) H') E0:=⟨e,i,rfl,z7,hi,fun dx a b=>⟨rfl,by rw [qrc];exact q e dx h0 hH (by rw [qu b] at a;exact a) b⟩⟩
 have r2:Vals [.ref e,.int i] [Value.ref e,u]:=.cons rfl (.cons ru .nil);have hl:([Value.ref e,u]++([]:List Value)).length=psI.length:=by rw [<- G.len _ _ _ _ hq];rfl
 refine ud (tf (G.run _ X.stack _ _ ⟨[Value.ref e,u],[]⟩ [Value.ref e,u] _ _ E0 ((hr.mono hk).make C [u] []) (I2.env0.make C [u] []) (hbI _ [Value.ref e,u] I2.kIn hl) r2 hq) fun r s' hq'=>?_)
 ·cases r with
  | error e=>exact hq'.elim
  | ok fl=>
   cases fl with
   | ret v=>
    obtain⟨v',H',I',rv,rfl,q'⟩:=I2.after hq';exact⟨rv,.ref e,H',I',(rfl:RelV (.ref e) (Value.ref e)),q'⟩
   | next=>exact False.elim hq'
   | brk=>exact False.elim hq'
   | cont=>exact False.elim hq'
end
section
variable{M:Model}{A:Around}{Ex:Value->Shared->Prop}{env:Env}{nm q:Str}{C N:Addr}{bs bm:List Value}{hdct:Bool}{sn:List Str}{sub:List Value}{ab:Bool}{col:Option Bool}{dd:Option Addr}{k0 k1 k2 k3 k5:Option Value}{newId:String}
omit [Lam] [Pin] in
theorem qg2{s:Shared}{x:Sem Value}{Q:Flow->Shared->Prop}(hh:A.handled=none)
  (h:wpAny M A x (fun v s₁=>∃nm q N bs bm hdct sn sub ab col dd k0 k1 k2 k3 k5 newId e o ws,bm.contains (.type "BaseException")=true/\v=.ref e/\s₁.heap.get? C=some (excClassObj nm q C N bs bm hdct sn sub ab col dd k0 k1 k2 k3 k5 newId)/\s₁.heap.get? e=some o/\o.cls=.ref C/\o.data=.fields ws/\ws[1]? = some .none/\Ex (.ref e) s₁) Ex s) :
  wpAny M A (raiseStmt env (some x) none) Q Ex s:=by
 unfold raiseStmt;refine g8 (me h (fun v s₁ h₁=>?_) fun _ _ x=>x);obtain⟨nm,q,N,bs,bm,hdct,sn,sub,ab,col,dd,k0,k1,k2,k3,k5,newId,e,o,ws,hbase,rfl,hC,he,hc,hdt,hw,hE⟩:=h₁;have hcB:(Value.ref C :: bm).contains (.type "BaseException")=true:=by rw [List.contains_cons,hbase,g3g]
 obtain⟨hp,g,d,tk,os⟩:=s₁;obtain⟨oc,odd,odt,osl⟩:=o;dsimp only at hc hdt;subst hc hdt
 repeat (first|with_reducible refine g0e he ?_|with_reducible refine g0e hC ?_|(with_reducible refine wpAny_isSubtype_exc hC ?_;rw [hcB])|wp_step)
 rw [hw];refine gf ?_;rw [ma (by decide)];exact gf (wpAny_raiseNew_none hh hE)
end
section
variable{P:Program}{w:World}{K:Frag}{mg:Str->Option Value}{base:Heap}{N:List Str}{qual:Str}{scope:Scope}{f:Addr}{cd:Value}{A:Around}{outer:List Env}{s0:Shared}{H0:Hp}{E:XK}{pos:Pos}
theorem qaf{C fI:Addr}{fdI:FuncData}{psI:List Str}{kI k':Nat}{x nm:Str}{np cpos:Pos}{ea:Expr}{fe:FE}(hC:q03 K C fI=true)(G:FnOk P w K mg base CX0 kI fI fdI psI (spI C nm))(hbI:Binds K fdI psI [])(hfn:PySem.W.typeIn K (.ref fI)=some (.type "function"))(hkp:PySem.W.keepIn K (.ref C)=true)
  (hr:Room k' (qv (CXR P w) P w K mg base N qual scope f cd A outer s0 H0 E).A) (hk:kI+1<=k') (hg:Gl (qv (CXR P w) P w K mg base N qual scope f cd A outer s0 H0 E) x) (hm:mg x=some (.ref C)) (hns:PySem.W.nsIn K mainGlobals x=some (some (.ref C)))
  (ha:PE (qv (CXR P w) P w K mg base N qual scope f cd A outer s0 H0 E).nox ea (tD K fe)) (hd:(x==("__debug__" : Str))=false:=by decide)
  (hs:starEach [ea] (qv (CXR P w) P w K mg base N qual scope f cd A outer s0 H0 E).env=(false,eval ea (qv (CXR P w) P w K mg base N qual scope f cd A outer s0 H0 E).env) :: starEach [] (qv (CXR P w) P w K mg base N qual scope f cd A outer s0 H0 E).env:=by rfl) :
  PS (qv (CXR P w) P w K mg base N qual scope f cd A outer s0 H0 E) (.Raise (some (.Call (.Name x np) [ea] [] cpos)) none pos) (tXS K (q9d x nm fe) E):=by
 intro pins s σ H D I ⟨F0,H0',F, ρ,p, ρ',C',r,hv,hn,hE⟩;obtain⟨d,h1,h2⟩:=g0.mp hv
 split at h2
 ·rename_i i
  split at h2
  ·rename_i hi
   cases h2;rw [hns] at hn;cases hn;rw [arm_exec_Raise];refine g8 (g1o ?_);refine qg2 (C:=C) (I.ok.hd rfl) (g8 (thn ((qkc hC G hbI hfn hkp hr hk rfl hg hm (PE.nox' ha) hd hs) pins s σ H (fun v H'=>∃e dx F1 H1,s0.heap.get? e=none/\v=.ref e/\H1 e=none/\H1 dx=none/\dx≠e/\Grow F H F1 H1/\H'=upd (upd H1 e (.ext (XH e C dx))) dx (.xd [(nm,.int i)])) I ?_) fun v s1 ⟨v',H',I1,rv,e,dx,F1,H1,q0,ev,qe,qd,ne,g,eH⟩=>g8 (g1o (gf ?_))))
   ·refine⟨F0,H0',F, ρ,_,r,h1,fun v F1 H1 g rp=>?_⟩
    obtain rfl:v=V.int i:=rp;exact⟨i,rfl,hi,fun e dx q0 qe qd ne=>⟨e,dx,F1,H1,q0,rfl,qe,qd,ne,g,rfl⟩⟩
   subst ev eH;obtain rfl:v=Value.ref e:=rv;obtain⟨tl,N,nm',qn,bs,hdct,sn,sub,ab,col,dd,k0,k1,k2,k3,k5,mN,hCo,hNs,hni,T⟩:=q7j I1.kIn hC;have he':upd (upd H1 e (.ext (XH e C dx))) dx (.xd [(nm,.int i)]) e=some (.ext (XH e C dx)):=by rw [qu (m4 ne),z7]
   obtain⟨⟨o,ws,e1,e2,e3,e4,e5⟩,_,_⟩:=(show ObjOk _ _ _ s1.heap e _ from I1.hok e _ he')
   refine⟨_,_,_,_,_,_,_,_,_,_,_,_,_,_,_,_,_,e,o,ws,T.hasType qel,rfl,hCo,e1,e2,e4,e5,?_⟩;have hl:less (upd (upd H1 e (.ext (XH e C dx))) dx (.xd [(nm,.int i)])) e=upd H1 dx (.xd [(nm,.int i)]):=by
    funext b
    unfold less upd
    split
    ·rename_i z;subst z;rw [ma (m4 ne)];exact qe.symm
    ·rfl
   have I2:=Inv.dropX I1 he';rw [hl] at I2;refine qad I2 e1 ⟨e2,e3⟩ e4 e5 (by rw [qu (m4 ne)];exact qe) q0 ?_;exact hE (upd F1 dx (.xd [(nm,.int i)])) _ σ (some dx) ((r.grow g).grow (Grow.new g.fh qd)) (z7)
  ·cases h2
 ·cases h2
end
def eXF(x nm:Str)(f:FE): FE:=fun ρ =>(f ρ).bind fun d=>match d with
 | .exc y (some p)=>if y=x/\p.1=nm then some (.int p.2) else none
 | _=>none
section
variable{X:Cx}{pos:Pos}
theorem qem{x nm:Str}{C:Addr}{e:Expr}{f:FE}(hns:PySem.W.nsIn X.K mainGlobals x=some (some (.ref C)))(c:ClsI X.K C nm)(he:PE X e (tD X.K f))(hb:attributeBase e nm X.env (eval e X.env)=eval e X.env:=by rfl): PE X (.Attribute e nm pos) (tD X.K (eXF x nm f)):=by
 intro pins s σ H Q I ⟨F0,H0,F, ρ,d',r,hf,q⟩;obtain⟨d,h1,h2⟩:=g0.mp hf
 split at h2
 ·rename_i y p
  split at h2
  ·rename_i hc
   obtain⟨rfl,rfl⟩:=hc;cases h2;refine qlr hb (thn (he pins s σ H (fun v H1=>∃F1,Grow F H F1 H1/\Rep X.K F1 (.exc y (some p)) v) I ⟨F0,H0,F, ρ,_,r,h1,fun v F1 H1 g rv=>⟨F1,g,rv⟩⟩) fun u s1 ⟨v,H1,I1,rv,F1,g,rp⟩=>?_);obtain⟨a,C',rfl,⟨od,ea,xf⟩,hn,cx⟩:=rep_exc.mp rp;obtain rfl:u=Value.ref a:=rv;cases hns.symm.trans hn;cases od with
   | none=>exact xf.elim
   | some dx=>
    obtain⟨⟨o,vs,e1,e2,e3,e4⟩,_,_⟩:=(show ObjOk X.prog X.w H1 s1.heap a _ from I1.hok a _ (g.fh _ _ ea))
    obtain⟨mA,ns1,rl⟩:=(show ObjOk X.prog X.w H1 s1.heap dx _ from I1.hok dx _ (g.fh _ _ xf))
    have rl1:=rl p.1;rw [mr,show(p.1==p.1)=true from g1p p.1] at rl1;obtain⟨ob,ho,hl⟩:=q9z ns1;cases hm:mA p.1 with
    | none=>rw [hm] at rl1;exact rl1.elim
    | some u=>
     rw [hm] at rl1;obtain⟨t,rfl⟩:=(show ∃t,u=Value.int p.2 t from rl1)
     exact qk9 cx.1 I1.kIn ⟨e1,e2,by unfold PySem.W.notCls;rw [e4],by rw [e3];exact ho⟩ e4 (PySem.W.findObj_own c.hd c.na rfl (by rw [hl,hm])) rfl ⟨.int p.2,H1,I1.tok _,⟨t,rfl⟩,q _ F1 H1 g (by simp only [Rep])⟩
  ·cases h2
 ·cases h2
end
end DL
namespace DL
open PySem PySem.Spec PyProof.Rows L2
section
variable{K:Frag}{F:Hp}{a:Addr}{xs0:List V}{ds:List D}
end
variable[Lam][Pin]
open Classical in
section
variable{K:Frag}{F0 H0 F H F' H':Hp}{σ : St}{ρ ρ1:Rho}{i:Nat}{ds:List D}{a:Addr}{xs:List V}
end
section
variable{X:Cx}{e:Expr}{f:FE}{m:FM}
end
end DL
namespace DL
open PySem PySem.Spec PyProof.Rows L2
variable[Lam][Pin]
section
variable{X:Cx}{K:Frag}{st:Stmt}{rest:List Stmt}{u u1 u2:FS}{i:Nat}{pos p px:Pos}{x:Str}
end
section
variable{P:Program}{w:World}{K:Frag}{mg:Str->Option Value}{base:Heap}{x qual:Str}{st:Stmt}{dV:Value}{f:Addr}{fd:FuncData}{N ps:List Str}
end
def q0w(t:List (Str×Bool)): D->Option D
 | .exc y _=>(t.lookup y).map .bl
 | _=>none
section
variable{X:Cx}{e e':Expr}{f:FE}{y:Str}{b:Bool}{t:List (Str×Bool)}
theorem je:PE X e (tD X.K (eUn (q0w []) f)):=fun pins s σ H Q I ⟨F0,H0,F, ρ,d,r,hf,q⟩=>by
 obtain⟨d',h1,h2⟩:=g0.mp hf;cases d' <;> cases h2
theorem z6(h1:PE X e (tD X.K (eUn (isX y b) f)))(h2:PE X e (tD X.K (eUn (q0w t) f))): PE X e (tD X.K (eUn (q0w ((y,b) :: t)) f)):=fun pins s σ H Q I ⟨F0,H0,F, ρ,d,r,hf,q⟩=>by
 obtain⟨d',k1,k2⟩:=g0.mp hf;cases d' <;> first|(cases k2;done)|skip
 rename_i z fz;simp only [q0w,mr] at k2
 split at k2
 ·rename_i hz
  have hz:=t5.mp hz;subst hz;exact h1 pins s σ H Q I ⟨F0,H0,F, ρ,d,r,by unfold eUn;rw [k1,g6];simp only [isX,pd];exact k2,q⟩
 ·exact h2 pins s σ H Q I ⟨F0,H0,F, ρ,d,r,by unfold eUn;rw [k1,g6];exact k2,q⟩
end
section
variable{X:Cx}{pos p:Pos}{σ0:St}{E:XK}{pins:List (Addr×Obj)}
end
section
variable{X:Cx}{a b e:Expr}{es:List Expr}{pos p:Pos}{f g:FM}{fa:FAM}
end
end DL
namespace DL
open PySem PySem.Spec PyProof.Rows L2
open Builtin Builtin.Str
theorem qg3{prog:Program}{w:World}{A:Around}{E:Value->Shared->Prop}{s:Shared}{x y:Str}{t u:Tok}{Q:Value->Shared->Prop}(hy:(y.length==0)=false)
  (hq:∀(l:List (Str×Tok)) (k:Nat),l.map (·.1)=Txt.split x y->Q (.ref s.heap.objs.size) {s with toks:=k,heap:=s.heap.push {cls:=.type "list",data:=.seq (strValues l).toArray} })
  (hsz:x.length<=sizeLine) (hsz2:(partsBetween x (occurrences x y 0 x.length (x.length+1)) y.length).length<=sizeLine) :
  wpAny (model prog w) A (call (.builtin "str.split") [.str x t,.str y u]) Q E s:=by
 cases h1:(decide (x.length<y.length) || decide (strKind x<strKind y))
 ·cases hf:(occurrences x y 0 x.length (x.length+1)).isEmpty
  ·refine g0p g2w (g22 _ _ _) g2j (g2e _ _) (meets_str_split_sep x y t u h1 hy hf hsz hsz2) ?_
   show wants Q E _ {s with toks:=_,heap:=s.heap.push {cls:=.type "list",data:=.seq (strsFrom s.toks (partsBetween x (occurrences x y 0 x.length (x.length+1)) y.length)).toArray} };rw [strsFrom_eq];exact hq (numbered s.toks _) _ ((numbered_texts _ _).trans ((ma (g29 h1)).trans (ma (g29 hf))).symm)
  ·exact g0p g2w (g22 _ _ _) g2j (g2e _ _) (meets_str_split_not_found x y t u h1 hy hf)
    (hq [(x,t)] s.toks ((ma (g29 h1)).trans (gy hf)).symm)
 ·exact g0p g2w (g22 _ _ _) g2j (g2e _ _) (meets_str_split_cannot_occur x y t u h1)
   (hq [(x,t)] s.toks (gy h1).symm)
variable[Lam][Pin]
section
variable{X:Cx}{e o:Expr}{es:List Expr}{pos apos cpos:Pos}{f g:FE}{fa:FA}
theorem q5p:∀ {ys:List Str} {its:List Value},Vals (ys.map V.str) its->∃l:List (Str×Tok),its=strValues l/\l.map (·.1)=ys
 | [],its,h=>by cases h;exact⟨[],rfl,rfl⟩
 | y :: ys,its,h=>by
  cases h with
  | cons a b=>
   obtain⟨t,rfl⟩:=a;obtain⟨l,rfl,h2⟩:=q5p b;exact⟨(y,t) :: l,rfl,by rw [m7,h2]⟩
theorem qag:∀(l:List (Str×Tok)),Vals ((l.map (·.1)).map V.str) (strValues l)
 | []=>.nil
 | p :: l=>.cons ⟨p.2,rfl⟩ (qag l)
omit [Lam] [Pin] in
theorem q9e:lim<=sizeLine:=by rw [uc];decide
def rSplit:V->List V->Hp->VK->Prop:=fun x xs H Q=>∃i j,x=.str i/\xs=[.str j]/\(j.length==0)=false/\i.length<=sizeLine/\(partsBetween i (occurrences i j 0 i.length (i.length+1)) j.length).length<=sizeLine/\(Txt.split i j).length<=sizeLine/\∀a,H a=none->Q (.ref a) (upd H a (.lst ((Txt.split i j).map V.str)))
theorem qkd:MtR X "str.split" rSplit:=by
 intro pins s σ H x xs v us Q I rx rv h;obtain⟨i,j,rfl,rfl,h1,h2,h3,h4,q⟩:=h;obtain⟨t,rfl⟩:=rx;obtain⟨u0,rfl,ru⟩:=rv.one;obtain⟨u,rfl⟩:=ru;refine qg3 h1 (fun l k hl=>?_) h2 h3;refine⟨.ref s.heap.objs.size,upd H s.heap.objs.size (.lst ((Txt.split i j).map V.str)),I.laid (t':=k) (fun b o e=>gb _ e) (gw _) ?_,rfl,q _ (I.hok.fresh (gw _))⟩;refine⟨by rw [g7];exact h4,strValues l,0,?_,md _ rfl⟩;rw [<- hl];exact qag l
def kb(f g:FE): FA:=fun ρ =>(f ρ).bind fun d=>(g ρ).bind fun e=>match d,e with
 | .str i,.str j=>if(j.length==0)=false/\i.length<=lim/\(partsBetween i (occurrences i j 0 i.length (i.length+1)) j.length).length<=lim/\(Txt.split i j).length<=lim then some ((Txt.split i j).map D.str) else none
 | _,_=>none
theorem q5q{K:Frag}{H:Hp}: ∀(ys:List Str),RepL K H (ys.map D.str) (ys.map V.str)
 | []=>.nil
 | y :: ys=>.cons (rep_str.mpr rfl) (q5q ys)
theorem q4n{arg:Expr}(ho:PE X o (tD X.K f))(ha:PE X arg (tD X.K g))(hbase:attributeBase o "split" X.env (eval o X.env)=eval o X.env:=by rfl)
  (hfew:((backTo cpos (starEach [arg] X.env)).all (fun x=> !x.1)&&(backToKw cpos (keywordEach [] X.env)).all (fun x=>x.1.isSome)&&decide ([arg].length+([]:List Keyword).length+(if([]:List Keyword).isEmpty then 0 else 1)<30))=true:=by rfl)
  (hline:(apos.endLine==cpos.line)=true:=by rfl) (hs:starEach [arg] X.env=(false,eval arg X.env) :: starEach [] X.env:=by rfl) :
  PE X (.Call (.Attribute o "split" apos) [arg] [] cpos) (tL X.K (kb f g)):=j3 (q82 g1m PySem.F.slot_str_split PySem.F.type_str_split qkd ho (jj ha y6 hs) hbase hfew hline hs rfl) fun σ H Q ⟨F0,H0,F, ρ,ds,r,hf,q⟩=>by
 obtain⟨d,h1,hf⟩:=g0.mp hf;obtain⟨e,h2,h3⟩:=g0.mp hf
 split at h3
 ·rename_i i j
  split at h3
  ·rename_i hc
   cases h3;refine⟨F0,H0,F, ρ,_,r,h1,fun v F1 H1 g1 r1=>?_⟩;cases rep_str.mp r1;refine⟨rfl,F0,H0,F1, ρ,_,r.grow g1,h2,fun u F2 H2 g2 r2=>?_⟩;cases rep_str.mp r2;exact⟨i,j,rfl,rfl,hc.1,mm hc.2.1 q9e,mm hc.2.2.1 q9e,mm hc.2.2.2 q9e,fun a ha=>q a _ F2 _ ((g1.trans g2).trans (Grow.own g2.fh ha)) (g2.fh.free ha) ((g1.trans g2).hh.free ha) z7 (q5q _)⟩
  ·cases h3
 ·cases h3
def q0x:List D->Option (List Str)
 | []=>some []
 | .str x :: ds=>(q0x ds).map (x :: ·)
 | _=>none
omit [Lam] [Pin] in
theorem q5r{K:Frag}{H:Hp}: ∀ {ds:List D} {ys:List Str} {xs:List V},q0x ds=some ys->RepL K H ds xs->xs=ys.map V.str
 | [],ys,xs,h,r=>by cases h;exact r.nil_inv
 | .str x :: ds,ys,xs,h,r=>by
  obtain⟨ys',h1,rfl⟩:=gr.mp h;obtain⟨v,t,rfl,a1,a2⟩:=r.cons_inv;rw [rep_str.mp a1,q5r h1 a2];rfl
 | .non :: ds,ys,xs,h,r=>by cases h
 | .bl _ :: ds,ys,xs,h,r=>by cases h
 | .int _ :: ds,ys,xs,h,r=>by cases h
 | .tup _ :: ds,ys,xs,h,r=>by cases h
 | .lst _ :: ds,ys,xs,h,r=>by cases h
 | .dct _ _ :: ds,ys,xs,h,r=>by cases h
 | .dtt _ _ :: ds,ys,xs,h,r=>by cases h
 | .obj _ :: ds,ys,xs,h,r=>by cases h
 | .exc _ _ :: ds,ys,xs,h,r=>by cases h
def yw:D->D->Option D
 | .str x,.lst ds=>(q0x ds).bind fun ys=>if JoinOk x ys=true then some (.str (Txt.join x ys)) else none
 | _,_=>none
theorem qmk:MtR X "str.join" (fun x xs H Q=>∃i a ys,x=.str i/\xs=[.ref a]/\SqL X.K H a (ys.map V.str)/\JoinOk i ys=true/\Q (.str (Txt.join i ys)) H):=by
 intro pins s σ H x xs v us Q I rx rv h;obtain⟨i,a,ys,rfl,rfl,h1,h2,q⟩:=h;obtain⟨t,rfl⟩:=rx;obtain⟨u0,rfl,ru⟩:=rv.one;obtain rfl:u0=Value.ref a:=ru;obtain⟨its,w1,w2,_⟩:=I.list h1;obtain⟨l,rfl,hl⟩:=q5p w1;exact SC.join w2.isList hl h2 fun t' k=>⟨.str _,H,I.tok _,⟨_,rfl⟩,q⟩
theorem q3y{arg:Expr}(ho:PE X o (tD X.K f))(ha:PE X arg (tD X.K g))(hbase:attributeBase o "join" X.env (eval o X.env)=eval o X.env:=by rfl)
  (hfew:((backTo cpos (starEach [arg] X.env)).all (fun x=> !x.1)&&(backToKw cpos (keywordEach [] X.env)).all (fun x=>x.1.isSome)&&decide ([arg].length+([]:List Keyword).length+(if([]:List Keyword).isEmpty then 0 else 1)<30))=true:=by rfl)
  (hline:(apos.endLine==cpos.line)=true:=by rfl) (hs:starEach [arg] X.env=(false,eval arg X.env) :: starEach [] X.env:=by first|exact q6g rfl|rfl) :
  PE X (.Call (.Attribute o "join" apos) [arg] [] cpos) (tD X.K (eOp yw f g)):=j3 (q82 g1m PySem.F.slot_str_join PySem.F.type_str_join qmk ho (jj ha y6 hs) hbase hfew hline hs rfl) fun σ H Q ⟨F0,H0,F, ρ,d0,r,hf,q⟩=>by
 obtain⟨d,h1,hf⟩:=g0.mp hf;obtain⟨e,h2,h3⟩:=g0.mp hf;unfold yw at h3
 split at h3
 ·rename_i i ds
  obtain⟨ys,h4,h3⟩:=g0.mp h3
  split at h3
  ·rename_i hc
   cases h3;refine⟨F0,H0,F, ρ,_,r,h1,fun v F1 H1 g1 r1=>?_⟩;cases rep_str.mp r1;refine⟨rfl,F0,H0,F1, ρ,_,r.grow g1,h2,fun u F2 H2 g2 r2=>?_⟩;obtain⟨a,xs,rfl,z1,z2⟩:=rep_lst.mp r2;rw [q5r h4 z2] at z1;exact⟨i,a,ys,rfl,rfl,g2.fh.seq z1,hc,q _ F2 H2 (g1.trans g2) (rep_str.mpr rfl)⟩
  ·cases h3
 ·cases h3
def q6j(op:Str->Str->Option D): D->D->Option D
 | .str i,.str j=>op i j
 | _,_=>none
theorem qlc{arg:Expr}{name:Str}{id:String}{op:Str->Str->Option D}(slot:Slot "str" name id)(hty:typeOf (.builtin id)=pure (.type "method_descriptor"))
  (hm:MtR X id (fun x xs H Q=>∃i j d v,x=.str i/\xs=[.str j]/\op i j=some d/\(∀F:Hp,Rep X.K F d v)/\Q v H)) (hfl:∀i j d,op i j=some d->∃v,∀F:Hp,Rep X.K F d v) (ho:PE X o (tD X.K f)) (ha:PE X arg (tD X.K g)) (hbase:attributeBase o name X.env (eval o X.env)=eval o X.env:=by rfl)
  (hfew:((backTo cpos (starEach [arg] X.env)).all (fun x=> !x.1)&&(backToKw cpos (keywordEach [] X.env)).all (fun x=>x.1.isSome)&&decide ([arg].length+([]:List Keyword).length+(if([]:List Keyword).isEmpty then 0 else 1)<30))=true:=by rfl)
  (hline:(apos.endLine==cpos.line)=true:=by rfl) (hs:starEach [arg] X.env=(false,eval arg X.env) :: starEach [] X.env:=by first|exact q6g rfl|rfl) :
  PE X (.Call (.Attribute o name apos) [arg] [] cpos) (tD X.K (eOp (q6j op) f g)):=j3 (q82 g1m slot hty hm ho (jj ha y6 hs) hbase hfew hline hs rfl) fun σ H Q ⟨F0,H0,F, ρ,d0,r,hf,q⟩=>by
 obtain⟨d,h1,hf⟩:=g0.mp hf;obtain⟨e,h2,h3⟩:=g0.mp hf;unfold q6j at h3
 split at h3
 ·rename_i i j
  refine⟨F0,H0,F, ρ,_,r,h1,fun v F1 H1 g1 r1=>?_⟩;cases rep_str.mp r1;refine⟨rfl,F0,H0,F1, ρ,_,r.grow g1,h2,fun u F2 H2 g2 r2=>?_⟩;cases rep_str.mp r2;obtain⟨w,hw⟩:=hfl i j _ h3;exact⟨i,j,_,w,rfl,rfl,h3,hw,q w F2 H2 (g1.trans g2) (hw F2)⟩
 ·cases h3
def q0y(i j:Str): Option D:=some (.bl (Txt.endswith i j))
theorem mt_ends:MtR X "str.endswith" (fun x xs H Q=>∃i j d v,x=.str i/\xs=[.str j]/\q0y i j=some d/\(∀F:Hp,Rep X.K F d v)/\Q v H):=by
 intro pins s σ H x xs v us Q I rx rv h;obtain⟨i,j,d,w,rfl,rfl,h1,h2,q⟩:=h;cases h1;obtain rfl:w=.bl (Txt.endswith i j):=rep_bl.mp (h2 H);obtain⟨t,rfl⟩:=rx;obtain⟨u0,rfl,ru⟩:=rv.one;obtain⟨u,rfl⟩:=ru;exact SC.endswith ⟨.bl _,H,I,rfl,q⟩
def q4o(i j:Str): Option D:=match occurrences i j 0 i.length 1 with
 | k :: _=>some (.int (k:Nat))
 | []=>none
theorem qp9:MtR X "str.index" (fun x xs H Q=>∃i j d v,x=.str i/\xs=[.str j]/\q4o i j=some d/\(∀F:Hp,Rep X.K F d v)/\Q v H):=by
 intro pins s σ H x xs v us Q I rx rv h;obtain⟨i,j,d,w,rfl,rfl,h1,h2,q⟩:=h;unfold q4o at h1
 split at h1
 ·rename_i k rest ho
  cases h1;obtain rfl:w=.int (k:Nat):=rep_int.mp (h2 H);obtain⟨t,rfl⟩:=rx;obtain⟨u0,rfl,ru⟩:=rv.one;obtain⟨u,rfl⟩:=ru;exact SC.index ho ⟨.int _,H,I.tok _,⟨_,rfl⟩,q⟩
 ·cases h1
def j0:D->D->Option D
 | .str i,.str j=>if i.length+j.length<=lim then some (.str (i++j)) else none
 | _,_=>none
theorem xl:OpR X (binaryOp .Add) (rD X.K j0):=q0i qfl fun x y H Q ⟨F,d1,d2,d,fh,r1,r2,ho,q⟩=>by
 unfold j0 at ho
 split at ho
 ·split at ho
  ·rename_i i j hc
   cases ho;exact⟨i,j,rep_str.mp r1,rep_str.mp r2,mm hc q9e,q _ F H (.refl fh) (rep_str.mpr rfl)⟩
  ·cases ho
 ·cases ho
def q0z:D->D->Option D
 | .str i,.str j=>some (.bl (!(occurrences j i 0 j.length 1).isEmpty))
 | _,_=>none
theorem qcc:OpR X (compareOp .In) (rD X.K q0z):=q0i qhe fun x y H Q ⟨F,d1,d2,d,fh,r1,r2,ho,q⟩=>by
 unfold q0z at ho
 split at ho
 ·rename_i i j
  cases ho;exact⟨i,j,rep_str.mp r1,rep_str.mp r2,q _ F H (.refl fh) (rep_bl.mpr rfl)⟩
 ·cases ho
def oIxS:D->D->Option D
 | .str z,.int i=>if z.length<=lim then(atI z.cps.toList i).map fun c=>.str ⟨#[c]⟩ else none
 | _,_=>none
theorem q10{a b:Expr}(ha:PE X a (tD X.K f))(hb:PE X b (tD X.K g))(hs:q6d b:=by intro _ _;rfl): PE X (.Subscript a b pos) (tD X.K (eOp oIxS f g)):=j3 (qfr qhh ha hb hs) fun σ H Q h=>by
 obtain⟨F0,H0,F, ρ,d0,r,hf,q⟩:=h;obtain⟨d,h1,hf⟩:=g0.mp hf;obtain⟨e,h2,h3⟩:=g0.mp hf;unfold oIxS at h3
 split at h3
 ·rename_i z i
  split at h3
  ·rename_i hc
   obtain⟨c,h4,h5⟩:=gr.mp h3;cases h5;refine⟨F0,H0,F, ρ,_,r,h1,fun v F1 H1 g1 r1=>⟨F0,H0,F1, ρ,_,r.grow g1,h2,fun u F2 H2 g2 r2=>?_⟩⟩;exact⟨z,i,c,rep_str.mp r1,rep_int.mp r2,mm hc q9e,h4,q _ F2 H2 (g1.trans g2) (rep_str.mpr rfl)⟩
  ·cases h3
 ·cases h3
def rSlS:V->Option Int->Option Int->Hp->VK->Prop:=fun x lo hi H Q=>∃z,x=.str z/\z.length<=sizeLine/\Q (.str (Txt.slice z lo hi)) H
theorem qpa:SlR X rSlS:=by
 intro pins s σ H x v vl vu lo hi sl Q I rx hs pl pu h;obtain⟨z,rfl,hz,q⟩:=h;obtain⟨t,rfl⟩:=rx;refine⟨"str",_,F.slot_str_getitem.lookup,g22 _ _ _,?_⟩;have fin:∀(t':Tok) (k:Nat),EP X pins σ Q (.str (Txt.slice z lo hi) t') {s with toks:=k}:=fun t' k=>⟨.str _,H,I.tok _,⟨_,rfl⟩,q⟩
 obtain⟨o,o1,o2,o3⟩:=hs;cases pl <;> cases pu
 ·exact g08 (l:=none) (u:=none) (st:=none) ⟨o,o1,o2,o3⟩ rfl (g25 ⟨mm (g2x z _ _) hz,fin⟩)
 ·rename_i j tj
  exact g08 (l:=none) (u:=some (j,tj)) (st:=none) ⟨o,o1,o2,o3⟩ rfl (g25 ⟨mm (g2x z _ _) hz,fin⟩)
 ·rename_i j tj
  exact g08 (l:=some (j,tj)) (u:=none) (st:=none) ⟨o,o1,o2,o3⟩ rfl (g25 ⟨mm (g2x z _ _) hz,fin⟩)
 ·rename_i i ti j tj
  exact g08 (l:=some (i,ti)) (u:=some (j,tj)) (st:=none) ⟨o,o1,o2,o3⟩ rfl (g25 ⟨mm (g2x z _ _) hz,fin⟩)
def kr(f:FE)(lo hi:FO): FE:=fun ρ =>(f ρ).bind fun d=>(lo ρ).bind fun l=>(hi ρ).bind fun h=>match d with
 | .str z=>if z.length<=lim then some (.str (Txt.slice z l h)) else none
 | _=>none
theorem vj{a:Expr}{lo hi:Option Expr}{fl fh:FO}{p2:Pos}(ha:PE X a (tD X.K f))(hl:PO X lo (tDO X.K fl))(hh:PO X hi (tDO X.K fh)): PE X (.Subscript a (.Slice lo hi none p2) pos) (tD X.K (kr f fl fh)):=
 j3 (qbi qpa ha hl hh) fun σ H Q ⟨F0,H0,F, ρ,d,r,hf,q⟩=>by
  obtain⟨x,h1,hf⟩:=g0.mp hf;obtain⟨l,h2,hf⟩:=g0.mp hf;obtain⟨u,h3,h4⟩:=g0.mp hf
  split at h4
  ·rename_i z
   split at h4
   ·rename_i hc
    cases h4;exact⟨F0,H0,F, ρ,_,r,h1,fun v F1 H1 g1 r1=>⟨F0,H0,F1, ρ,l,r.grow g1,h2,fun F2 H2 g2=>⟨F0,H0,F2, ρ,u,(r.grow g1).grow g2,h3,fun F3 H3 g3=>⟨_,rep_str.mp r1,mm hc q9e,q _ F3 H3 (g1.trans (g2.trans g3)) (rep_str.mpr rfl)⟩⟩⟩⟩
   ·cases h4
  ·cases h4
end
end DL
namespace DL
open PySem PySem.Spec PyProof.Rows L2
variable[Lam][Pin]
def q1o:List D->Option D
 | [.str x]=>if x.length<=640 then(intText? x).map .int else none
 | _=>none
section
variable{X:Cx}{e:Expr}{jp p2 fp:Pos}{j2:Nat}{f:FE}
theorem qen:ji X (.type "int") (rC X.K q1o):=by
 intro pins s σ H xs us Q I rv ⟨F,ds,d,fh,rl,ho,q⟩;unfold q1o at ho
 split at ho
 ·rename_i x
  split at ho
  ·rename_i hl
   obtain⟨n,hn,rfl⟩:=gr.mp ho;obtain⟨v,rfl,rx⟩:=rep1 rl;cases rep_str.mp rx;obtain⟨u,rfl,ru⟩:=rv.one;obtain⟨t,rfl⟩:=ru;exact PySem.W.KIN.call_text hn hl ⟨.int n,H,I.tok _,⟨_,rfl⟩,q _ F H (.refl fh) (rep_int.mpr rfl)⟩
  ·cases ho
 ·cases ho
end
end DL
namespace DL
open PySem PySem.Spec PyProof.Rows L2
def Its(x:Str): It:=⟨fun i _=>i<x.cps.size,fun i H v H'=>H'=H/\∃c,x.cps[i]? = some c/\v=.str ⟨#[c]⟩,fun i _=>x.cps.size<=i⟩
def q3z(x:Str): List D:=x.cps.toList.map fun c=>.str ⟨#[c]⟩
variable[Lam][Pin]
theorem qml{K:Frag}{F:Hp}(x:Str): ItD K F (q3z x) (Its x) where
 go:=fun i F' H s1 s2 hi=>by show i<x.cps.size;simpa [q3z] using hi
 yld:=fun i d F' H v H' s1 s2 hi ⟨e,c,h1,h2⟩=>by
  subst e h2;simp only [q3z,gz] at hi;have h3:x.cps.toList[i]? = some c:=by simpa using h1
  rw [h3] at hi;cases hi;exact⟨F',.refl s2,rep_str.mpr rfl⟩
 stop:=fun i F' H s1 s2 hi=>by show x.cps.size<=i;simpa [q3z] using hi
omit [Lam] [Pin] in
theorem qke{P:Program}{w:World}{K:PySem.W.Frag}{tg:Expr}(it:Addr)(ty:String)(x:Str)(t:Tok)(hn:["enumerate","zip","dict_itemiterator","dict_reverseitemiterator","odict_iterator","itertools.zip_longest","itertools.pairwise"].contains ty=false)
  (hself:∀(A:Around) (i:Nat) (s:Shared) (Q:Value->Shared->Prop) (E:Value->Shared->Prop),s.heap.IsStrIter it ty x t i->Q (.ref it) s->wpAny (model P w) A (pyIter (.ref it)) Q E s)
  (W:∀A':Around,A'.handled=none->Walks P w A' it [it] [it] x.cps.size (SignAt x) (fun i h=>h.IsStrIter it ty x t i)):Turn P w K tg (Its x) [it] it (fun i h=>i<=x.cps.size/\h.IsStrIter it ty x t i) where
 mem:=by simp
 obj:=fun i h st b hb=>by
  have e:b=it:=by simpa using hb
  subst e;obtain⟨_,o,e,c,d⟩:=st;exact⟨o,e,fun v z=>by rw [d] at z;cases z⟩
 keep:=fun i h h' st k=>⟨st.1,let⟨o,e,r⟩:=st.2; ⟨o,k it (by simp) o e,r⟩⟩
 item:=by
  intro X hP hw hK hc i pins s σ H E I hf st hg;subst hP hw hK;obtain⟨f0,f1,f2,f3,f4,f5⟩:=hf it (by simp);refine(W _ (I.ok.hd hc)).item i s _ _ hg st.2 fun v h' tk hv st' kk=>?_;obtain⟨c,u,h1,rfl⟩:=hv;have I1:Inv X pins σ H {s with heap:=h',toks:=tk}:=I.turned (fun b o hb e=>kk b o (by simpa using hb) e) f0 f1 f3 f4 f5;obtain⟨o,e,c',d⟩:=id st';exact⟨_,rfl,qb4 (s:={s with heap:=h',toks:=tk}) e c' d hn ⟨.str ⟨#[c]⟩,H,I1,⟨u,rfl⟩,⟨rfl,c,h1,rfl⟩,⟨hg,st'⟩,fun b hb=>(hf b hb).1⟩⟩
 done:=by
  intro X hP hw hK hc i pins s σ H E I hf st hg;subst hP hw hK;obtain⟨f0,f1,f2,f3,f4,f5⟩:=hf it (by simp);have ei:i=x.cps.size:=Nat.le_antisymm st.1 hg;have st2:=st.2;rw [ei] at st2;exact(W _ (I.ok.hd hc)).done s _ _ st2 fun h' tk kk=>⟨rfl,I.turned (fun b o hb e=>kk b o (by simpa using hb) e) f0 f1 f3 f4 f5⟩
 self:=fun A i s Q E st h=>hself A i s Q E st.2 h
section
variable{X:Cx}{tg e:Expr}{f:FE}
def q9f(f:FE): FA:=fun ρ =>(f ρ).bind fun d=>match d with
 | .str x=>some (q3z x)
 | _=>none
theorem qib(h:PE X e (tD X.K f)): PI X tg e (tDI X.K (q9f f)):=by
 intro pins s σ H R I ⟨F0,H0,F, ρ,ds,r,hf,q⟩;obtain⟨d,h1,h2⟩:=g0.mp hf
 split at h2
 ·rename_i x
  cases h2;refine thn (h pins s σ H (fun v H1=>v=.str x/\∃F1,Grow F H F1 H1) I ⟨F0,H0,F, ρ,_,r,h1,fun v F1 H1 g1 r1=>⟨rep_str.mp r1,F1,g1⟩⟩) fun u s1 ⟨v,H1,I1,rv,ev,F1,g1⟩=>?_;subst ev;obtain⟨t,rfl⟩:=(show ∃t,u=Value.str x t from rv)
  have fin:∀(ty:String) (o:Obj),o.cls=.type ty->o.data=.fields #[.str x t,.int 0 0]->["enumerate","zip","dict_itemiterator","dict_reverseitemiterator","odict_iterator","itertools.zip_longest","itertools.pairwise"].contains ty=false ->
    (∀(it:Addr) (A:Around) (i:Nat) (s:Shared) (Q:Value->Shared->Prop) (E:Value->Shared->Prop),s.heap.IsStrIter it ty x t i->Q (.ref it) s->wpAny (model X.prog X.w) A (pyIter (.ref it)) Q E s) ->
    (∀(it:Addr) (A':Around),A'.handled=none->Walks X.prog X.w A' it [it] [it] x.cps.size (SignAt x) (fun i h=>h.IsStrIter it ty x t i))->PIE X pins σ tg R (.ref s1.heap.objs.size) {s1 with heap:=s1.heap.push o}:=fun ty o oc od hn hs hW=>
   ⟨s1.heap.objs.size,[s1.heap.objs.size],_,Its x,H1,rfl,I1.kept (t':=s1.toks) fun b ob e=>gb _ e,qke _ ty x t hn (hs _) (hW _),⟨pz _,o,md _ (uj od),oc,od⟩,fun b hb=>by
    have e:b=s1.heap.objs.size:=by simpa using hb
    subst e;exact I1.fpOk (gw _) (I1.hok.fresh (gw _)),q _ F1 H1 g1 (qml x)⟩
  cases ha:x.cps.all (· < 128)
  ·exact wpAny_pyIter_wide ha (fin "str_iterator" _ rfl rfl (by decide) (fun it A i s Q E a b=>wpAny_pyIter_striter_wide a b) fun it A' hA=>Walks.strWide hA _ x t)
  ·exact wpAny_pyIter_ascii ha (fin "str_ascii_iterator" _ rfl rfl (by decide) (fun it A i s Q E a b=>wpAny_pyIter_striter_ascii a b) fun it A' hA=>Walks.strAscii hA _ x t)
 ·cases h2
end
def w9(ks:List Str)(us:List Value): List (Key×Value):=(ks.map Sum.inr).zip us
theorem q6k:∀ {ks:List Str} {xs:List V} {vs:List (Key×Value)},KV ((ks.map Sum.inr).zip xs) vs->ks.length=xs.length->∃us,Vals xs us/\vs=w9 ks us
 | [],[],vs,h,_=>by cases h;exact⟨[],.nil,rfl⟩
 | [],_ :: _,_,_,e=>by cases e
 | _ :: _,[],_,_,e=>by cases e
 | k :: ks,x :: xs,vs,h,e=>by
  cases h with
  | cons h t=>
   rename_i p qs;obtain⟨us,r,rfl⟩:=q6k (ks:=ks) t (by simpa using e);obtain⟨a,b⟩:=p;obtain⟨h1,h2⟩:=h;refine⟨b :: us,.cons h2 r,?_⟩;cases h1
   rfl
theorem qeo:∀ {ks:List Str} {xs:List V} {us:List Value},Vals xs us->KV ((ks.map Sum.inr).zip xs) (w9 ks us)
 | [],xs,us,h=>by unfold w9;exact .nil
 | _ :: _,_,_,.nil=>by unfold w9;exact .nil
 | k :: ks,_,_,.cons h t=>by unfold w9;exact .cons ⟨rfl,h⟩ (qeo t)
theorem qb9:∀ {ks:List Str} {us:List Value} {k:Str},ks.length=us.length->valueAt (w9 ks us) (Sum.inr k)=if k∈ks then us[ks.idxOf k]? else none
 | [],us,k,_=>by simp [w9,valueAt]
 | _ :: _,[],_,e=>by cases e
 | a :: ks,u :: us,k,e=>by
  have ih:=qb9 (ks:=ks) (us:=us) (k:=k) (by simpa using e);unfold valueAt w9 at ih ⊢;simp only [m7,List.zip_cons_cons,List.find?_cons,Sum.inr.injEq]
  by_cases q:a=k
  ·subst q;simp
  ·rw [gq q,List.idxOf_cons,show(a==k)=false from g02.mpr q]
   simp only [gx,show ¬k=a from fun z=>q z.symm,false_or,cond_false,g1c];exact ih
theorem qdu:∀ {ks:List Str} {us:List Value} {k:Str} {u:Value},ks.length=us.length->k∉ks->stored (w9 ks us) (Sum.inr k) u=w9 (ks++[k]) (us++[u]):=by
 intro ks us k u e hk;unfold stored;rw [ma]
 ·unfold w9
  rw [ng,List.zip_append (by simpa using e)];rfl
 ·rw [g2y]
  rintro⟨x,hx,hd⟩
  have:=u7 hd;obtain⟨x1,x2⟩:=x;cases this;have:=g0y hx;exact hk (by simpa using this.1)
section
variable{X:Cx}
abbrev q9g(ks:List Str)(xs:List V): List (Key×V):=(ks.map Sum.inr).zip xs
def rSetDefS:V->List V->Hp->VK->Prop:=fun x vs H Q=>∃a ks xs k v,x=.ref a/\vs=[.str k,v]/\H a=some (.dK (q9g ks xs))/\ks.length=xs.length/\xs.length<sizeLine /\
 (∀b,k∈ks->xs[ks.idxOf k]? = some b->Q b H)/\(k∉ks->Q v (upd H a (.dK (q9g (ks++[k]) (xs++[v])))))
theorem qg4:MtR X "dict.setdefault" rSetDefS:=by
 intro pins s σ H x vs v us Q I rx rv h;obtain⟨a,ks,xs,k,p,rfl,rfl,hH,hl,hz,q1,q2⟩:=h;cases rx;obtain⟨u1,u2,rfl,r1,r2⟩:=rv.two;obtain⟨t,rfl⟩:=r1;obtain⟨z,hd,vs,rel,dd⟩:=(show ObjOk X.prog X.w H s.heap a _ from I.hok a _ hH)
 obtain⟨us,ru,rfl⟩:=q6k rel hl;have hlu:ks.length=us.length:=by rw [<- ru.length];exact hl
 have hzz:(w9 ks us).length<=sizeLine:=by unfold w9;rw [tw,g7];omega
 refine call_meetsIn g2b dd.typeIs PySem.F.entry_dict_setdefault (PySem.F.args_dict_setdefault_3 _ _ _) (kt_meets_setdefault (mixKind X.prog X.w) a (q6x _ _ k t) hd u2)
  ⟨_,dd,hzz,fun v hv=>?_,fun hn h' dd' hs=>?_⟩
 ·rw [qb9 hlu] at hv
  split at hv
  ·rename_i hk
   have hi:ks.idxOf k<xs.length:=by rw [<- hl];exact g0n hk
   obtain⟨uu,eu,ruu⟩:=ru.get (m6 hi);rw [hv] at eu;cases eu;exact⟨_,H,I.tok _,ruu,q1 _ hk (m6 hi)⟩
  ·cases hv
 ·have hk:k∉ks:=fun hk=>by
   rw [qb9 hlu,gy hk,m6 (by rw [<- hlu];exact g0n hk)] at hn;cases hn
  rw [qdu hlu hk] at dd';have he:∃q,h'.get? a=some q:=let⟨q,_,_,hq,_⟩:=dd'; ⟨q,hq⟩
  refine⟨p,_,I.write (x:=a) (e:=a) (o:=.dK (q9g (ks++[k]) (xs++[p]))) (t':=s.toks+1) (by rw [hH];exact True.intro) (.inl rfl) (fun b q hb z=>(hs.2 b hb).trans z) he ⟨?_,hd,_,qeo (ru.append (.cons r2 .nil)),dd'⟩,r2,q2 hk⟩;rw [tw];simp only [g7,gc,gj];omega
end
variable[Lam][Pin]
section
variable{X:Cx}{pos p:Pos}{x:Str}{f g:FE}
def q9h:List Key->Option (List Str)
 | []=>some []
 | .inr i :: r=>(q9h r).map (i :: ·)
 | _ :: _=>none
omit [Lam] [Pin] in
theorem q9i:∀ {ks:List Key} {ns:List Str},q9h ks=some ns->ks=ns.map Sum.inr
 | [],ns,h=>by cases h;rfl
 | .inr i :: ks,ns,h=>by
  obtain⟨ms,h1,rfl⟩:=gr.mp h;rw [q9i h1];rfl
 | .inl _ :: _,_,h=>by cases h
def q11:D->D->Option D
 | .dct ks vs,.str k=>(q9h ks).bind fun ns=>if k∈ns then vs[ns.idxOf k]? else none
 | _,_=>none
theorem qmm:IxR X (rD X.K q11):=by
 intro value slice pins s σ H x y v u Q I rx ry ⟨F,d1,d2,d,fh,r1,r2,ho,q⟩ hs;unfold q11 at ho
 split at ho
 ·rename_i ks vs k
  obtain⟨ns,hns,hg⟩:=g0.mp ho;clear ho;have ho:=hg;clear hg;obtain rfl:=q9i hns
  split at ho
  ·rename_i hk
   cases rep_str.mp r2;obtain⟨a,xs,rfl,e1,e2,e3⟩:=rep_dct.mp r1;cases rx;obtain⟨t,rfl⟩:=ry;obtain⟨z,hd,vvs,rel,dd⟩:=(show ObjOk X.prog X.w H s.heap a _ from I.hok a _ (fh _ _ e1))
   obtain⟨us,ru,rfl⟩:=q6k rel (by simpa using e2);obtain⟨w,ew,rw'⟩:=e3.get ho;obtain⟨uu,eu,ruu⟩:=ru.get ew;refine tail_any (ops:=[.ref a,.str k t]) (T:="dict") dd.typeIs PySem.F.slot_dict_getitem.lookup ?_ hs;refine wpAny_getItem_of (q6x _ _ k t) dd.mapOf (v:=uu) ?_ ⟨w,H,I.tok _,ruu,q w F H (.refl fh) rw'⟩;rw [qb9 (by rw [<- ru.length, <- e2,g7]),gy hk];exact eu
  ·cases ho
 ·cases ho
theorem qmn{a b:Expr}(ha:PE X a (tD X.K f))(hb:PE X b (tD X.K g))(hs:q6d b:=by intro _ _;rfl): PE X (.Subscript a b pos) (tD X.K (eOp q11 f g)):=j3 (qfr qmm ha hb hs) fun σ H Q h=>two h
theorem qep{s:Str}(hg:Gl X x)(hm:∃t,X.mg x=some (.str s t))(hdb:(x==("__debug__" : Str))=false:=by decide): PE X (.Name x p) (tD X.K (eC (.str s))):=by
 obtain⟨t,hm⟩:=hm;exact q1c (q93 hg hm (v:=.str s) ⟨t,rfl⟩ hdb) fun _=>rep_str.mpr rfl
end
end DL
namespace DL
open PySem PySem.Spec PyProof.Rows L2
variable[Lam][Pin]
section
variable{X:Cx}
def q12:List D->Option D
 | [.dct ks vs]=>some (.int ks.length)
 | _=>none
theorem q6l:ji X (.builtin "len") (rC X.K q12):=by
 intro pins s σ H xs us Q I rv ⟨F,ds,d,fh,rl,ho,q⟩;unfold q12 at ho
 split at ho
 ·rename_i ks vs
  cases ho;obtain⟨x,rfl,rx⟩:=rep1 rl;obtain⟨a,ys,rfl,e1,e2,e3⟩:=rep_dct.mp rx;obtain⟨u,rfl,ru⟩:=rv.one;obtain rfl:u=Value.ref a:=ru;obtain⟨z,hd,vvs,rel,dd⟩:=(show ObjOk X.prog X.w H s.heap a _ from I.hok a _ (fh _ _ e1))
  have hl:vvs.length=ks.length:=by rw [<- rel.length,tw, <- e2,uz]
  have hz:ks.length<=sizeLine:=by rw [tw, <- e2,uz] at z;exact z
  refine call_len_dict hd dd (by rw [hl];rw [uc] at hz;omega) ⟨.int vvs.length,H,I.tok _,⟨_,rfl⟩,?_⟩;rw [hl];exact q _ F H (.refl fh) (rep_int.mpr rfl)
 ·cases ho
omit [Lam] [Pin] in
theorem fl_ends{K:Frag}(i j:Str)(d:D)(h:q0y i j=some d): ∃v,∀F:Hp,Rep K F d v:=by
 cases h;exact⟨_,fun F=>rep_bl.mpr rfl⟩
omit [Lam] [Pin] in
theorem qpb{K:Frag}(i j:Str)(d:D)(h:q4o i j=some d): ∃v,∀F:Hp,Rep K F d v:=by
 unfold q4o at h
 split at h
 ·cases h
  exact⟨_,fun F=>rep_int.mpr rfl⟩
 ·cases h
end
end DL
namespace SetS
open PySem PySem.Spec PyProof.Rows
def metS(val:Nat->Str)(i:Nat): List Str:=((List.range i).map val).foldl step_dedup []
theorem qic(val:Nat->Str): metS val 0=[]:=rfl
theorem q5s(val:Nat->Str)(i:Nat): metS val (i+1)=step_dedup (metS val i) (val i):=by
 unfold metS;rw [List.range_succ,ng,g2k];rfl
theorem metS_le(val:Nat->Str): ∀i,(metS val i).length<=i
 | 0=>by rw [qic];exact gw _
 | i+1=>by
  rw [q5s];unfold step_dedup;have ih:=metS_le val i
  split
  ·omega
  ·rw [gc,gj];omega
theorem qid(σ : List Str)(v k:Str): (step_dedup σ v).any (· == k)=(σ.any (· == k) || decide (k=v)):=by
 unfold step_dedup
 by_cases h : σ.any (· == v)=true
 ·rw [gy h]
  by_cases e:k=v
  ·subst e;rw [h];simp
  ·simp [e]
 ·rw [ma h,List.any_append]
  by_cases e:k=v
  ·subst e;simp
  ·have hb:(v==k)=false:=by simpa [t5] using(fun h':v=k=>e h'.symm)
   simp [hb,e]
theorem qcd(σ : List Str)(v:Str): (step_dedup σ v).length=if σ.any (· == v) then σ.length else σ.length+1:=by
 unfold step_dedup;split <;> simp
section
variable{prog:Program}{w:World}{A:Around}{R:Result->Shared->Prop}{I:Addr}{fp wr:List Addr}{G:Array GenState->Array GenState->Prop}{n:Nat}{P:Nat->Value->Prop}{St:Nat->Shared->Prop}
theorem qqm(W:WalksS prog w A.in1 I fp wr G n P St)(S:Addr)(hSf:S∉fp)
  (val:Nat->Str) (hval:∀i v,P i v->∃t,v=.str (val i) t) (hb:n+1<scanBound) :
  ∀(k i:Nat) (s:Shared),n-i=k->i<=n->St i s ->
   s.heap.SetOf (strKind prog w) S (fun k'=>(metS val i).any (· == k')) (metS val i).length ->
   (∀s',Moved (S :: wr) G s s'->s'.heap.SetOf (strKind prog w) S (fun k'=>(metS val n).any (· == k')) (metS val n).length->R (.ok (.ret .none)) s') ->
   codeAny (model prog w) A (.builtin "set.update.loop" ⟨[.ref S,.ref I],[]⟩) R s:=by
 have hSw:S∉wr:=fun h=>hSf (W.sub _ h);have hsub:∀b∈wr,b∈S :: wr:=fun b hb=>gi _ hb;intro k
 induction k with
 | zero=>
  intro i s hk hi hst hS hR;have hin:i=n:=by omega
  subst hin;refine ug F.entry_set_update_loop ?_;rw [uv g1d _];show wpAny _ A.in1 (pyNext (.ref I) >>= _) _ _ s;refine g8 (W.done s _ _ hst fun s' hm=>?_);show wpAny _ A.in1 (ret Value.none) _ _ s';exact gf (hR s' (hm.mono hsub) (by
   obtain⟨o,es,ep,t,ho,rest⟩:=hS;exact⟨o,es,ep,t,hm.heap S _ hSw ho,rest⟩))
 | succ k ih=>
  intro i s hk hi hst hS hR;have hlt:i<n:=by omega
  refine ug F.entry_set_update_loop ?_;rw [uv g1d _];show wpAny _ A.in1 (pyNext (.ref I) >>= _) _ _ s;refine g8 (W.item i s _ _ hlt hst fun v s' hP hst' hm=>?_);obtain⟨t,rfl⟩:=hval i v hP;have hS':s'.heap.SetOf (strKind prog w) S (fun k'=>(metS val i).any (· == k')) (metS val i).length:=by
   obtain⟨o,es,ep,tb,ho,rest⟩:=hS;exact⟨o,es,ep,tb,hm.heap S _ hSw ho,rest⟩
  show wpAny _ A.in1 (holding [Value.str (val i) t] (setAdd S (.str (val i) t)) >>= _) _ _ s';refine g8 (t4 ?_);unfold setAdd;refine t4 ?_;refine g8 ((strKind prog w).pyHash (k:=val i) (strKind_is _ _ _ _) ?_);have hroom:(metS val i).length+1<scanBound:=by have:=metS_le val i;omega
  refine wpAny_setAddHashed_of (knd:=strKind prog w) (s:={s' with toks:=s'.toks+1}) (strKind_is _ _ _ _) rfl hS' hroom fun h' hsb hS2=>?_;have hSi:h'.SetOf (strKind prog w) S (fun k'=>(metS val (i+1)).any (· == k')) (metS val (i+1)).length:=
   SetOf_congr hS2 (fun k'=>by rw [q5s,qid]) (by rw [q5s,qcd])
  refine gf ⟨plainId_quiet g1d _,ih (i+1) _ (by omega) hlt (W.frame _ s' _ _ hst' (g0u _) fun b hb o e=>?_) hSi fun s'' hm'' hS''=>?_⟩
  ·rw [hsb.2 b (fun h:b=S=>hSf (by rw [<- h];exact hb))];exact e
  ·refine hR s'' (Moved.trans W.gtrans ((hm.mono hsub).then_heap (g0u _) fun b o hb e=>?_) hm'') hS''
   rw [hsb.2 b (fun h:b=S=>hb (by rw [h];exact gd))];exact e
end
section
variable{prog:Program}{w:World}{A:Around}{E:Value->Shared->Prop}{s:Shared}
set_option maxHeartbeats 3200000 in
theorem call_set{l:Addr}{items:Array Value}{ns:List Str}{Q:Value->Shared->Prop}
  (hh:A.handled=none) (hl:s.heap.IsList l items) (hi:∀(i:Nat) (v:Value),items[i]? = some v->∃t,v=.str (ns.getD i default) t) (hb:items.size+1<scanBound)
  (h:∀(h':Heap) (tk:Nat),h'.SetOf (strKind prog w) s.heap.objs.size (fun k'=>(metS (fun i=>ns.getD i default) items.size).any (· == k')) (metS (fun i=>ns.getD i default) items.size).length->s.toks<=tk ->
   (∀b o,b<s.heap.objs.size->s.heap.get? b=some o->h'.get? b=some o)->Q (.ref s.heap.objs.size) {s with heap:=h',toks:=tk}) :
  wpAny (model prog w) A (call (.type "set") [.ref l]) Q E s:=by
 obtain⟨c,tl,hmro⟩:=g01.mro;have hmade:=g01.made;have hsub:=g01.sub;refine ud (g35 ?_);show wpAny _ _ (callAny (.type "set") _) _ _ _;refine gf ⟨g17 _ (by decide +kernel),ug F.entry_type_call ?_⟩;rw [Around.under_plain (weight_type_call_type "set" [.ref l] []) rfl];have h1:=g01.notType;have h2:=g01.canCreate;have hct:=F.typeCall_set_1 (.ref l)
 repeat (any_goals (first|assumption|wp_step))
 refine tf (code_set_new_1 (.ref l) (E:=E) (Q₁:=fun obj s₁=>∃led:Bool,obj=.ref s.heap.objs.size/\s₁ = {s with heap:=s.heap.push {cls:=.type "set",dict:=none,data:=.set #[] 0 (.fresh 0 0 led)} }) fun led=>⟨led,rfl,rfl⟩) fun r s₁ hr=>?_;cases r with
 | error e=>exact hr
 | ok fl=>
  cases fl with
  | ret obj=>
   obtain⟨led,rfl,rfl⟩:=hr;have hS:(s.heap.push {cls:=.type "set",dict:=none,data:=.set #[] 0 (.fresh 0 0 led)}).get? s.heap.objs.size=some {cls:=.type "set",dict:=none,data:=.set #[] 0 (.fresh 0 0 led)}:=md _ rfl;have hT:Shared.TypeIs {s with heap:=s.heap.push {cls:=.type "set",dict:=none,data:=.set #[] 0 (.fresh 0 0 led)} } (.ref s.heap.objs.size) "set" :=⟨_,hS,rfl⟩
   have hli:=g01.init.lookup;have hbi:=g01.init.bind (.ref s.heap.objs.size)
   repeat (any_goals (first|assumption|wp_step))
   refine tf (tm (R:=wants (fun r s₂=>r=.none/\∃h' tk,s₂ = {s with heap:=h',toks:=tk} /\
     h'.SetOf (strKind prog w) s.heap.objs.size (fun k'=>(metS (fun i=>ns.getD i default) items.size).any (· == k')) (metS (fun i=>ns.getD i default) items.size).length/\s.toks<=tk /\
     (∀b o,b<s.heap.objs.size->s.heap.get? b=some o->h'.get? b=some o)) E) g01.init.plain F.entry_set_init (check_set_init_1 hT ?_)) fun r₂ s₂ hr₂=>?_
   ·obtain⟨ol,hol,hcl,nl,hdl⟩:=hl
    obtain⟨ocls,odict,odata,oslots⟩:=ol;simp only at hcl hdl;subst hcl;subst hdl;have hol':(s.heap.push {cls:=.type "set",dict:=none,data:=.set #[] 0 (.fresh 0 0 led)}).get? l=some {cls:=.type "list",dict:=odict,data:=.seq items nl,slots:=oslots}:=gb _ hol;have hsls:=F.sub_list_set;have hslf:=F.sub_list_frozenset;have hne:(Value.type "list" == Value.type "dict")=false:=by decide
    have hl1:(s.heap.push {cls:=.type "set",dict:=none,data:=.set #[] 0 (.fresh 0 0 led)}).IsList l items:=⟨_,hol',rfl,nl,rfl⟩
    unfold Builtin.«set.__init__» noKeywords Builtin.Frozenset.updateFrom;generalize hPI:pyIter=PI
    wp_walk
    subst hPI;refine g2g hl1 ?_;refine g8 (wpAny_runValue ?_);have hlS:l<s.heap.objs.size:=gv hol;have hh3:A.in1.in1.in1.handled=none:=by simp [hh]
    have hneI:l≠(s.heap.push {cls:=.type "set",dict:=none,data:=.set #[] 0 (.fresh 0 0 led)}).objs.size:=by
     rw [g19];exact mj (Nat.lt_succ_of_lt hlS)
    have hSf:s.heap.objs.size∉[(s.heap.push {cls:=.type "set",dict:=none,data:=.set #[] 0 (.fresh 0 0 led)}).objs.size,l]:=by
     rw [g19];simp only [gx,mi,g1s,g1r,not_or];exact⟨mj (g2u _),g0g hlS⟩
    refine qqm ((Walks.list hh3 _ l hneI items).toS) s.heap.objs.size
     hSf (fun i=>ns.getD i default) hi hb (items.size-0) 0 _ (by omega) (pz _)
     ⟨⟨_,md _ rfl,rfl,rfl⟩,(hl1.push _)⟩ ?hS0 ?hR
    case hS0=>
     have hget:((s.heap.push {cls:=.type "set",dict:=none,data:=.set #[] 0 (.fresh 0 0 led)}).push {cls:=.type "list_iterator",data:=.fields #[.ref l,.int 0 0]}).get? s.heap.objs.size
       = some {cls:=.type "set",dict:=none,data:=.set #[] 0 (.fresh 0 0 led)}:=gb _ hS
     exact PyProof.Rows.SetOf_congr ((PyProof.Rows.setObjOf_fresh (knd:=strKind prog w) led).setOf hget (by unfold scanBound;omega)) (fun _=>rfl) rfl
    case hR=>
     intro s' hm hS';obtain⟨h',g',d',tk',os'⟩:=s';have eg:g'=s.gens:=hm.gens;have ed:d'=s.drawn:=hm.drawn;have eo:os'=s.os:=hm.os;have etk:s.toks<=tk':=hm.toks;subst eg;subst ed;subst eo;show wpAny _ _ _ _ _ _;refine gf ?_;show wpAny _ _ (ret Value.none) _ _ _;refine gf ⟨rfl,h',tk',rfl,hS',etk,fun b o hb e=>?_⟩;have hb1:b≠s.heap.objs.size:=mj hb;have hb2:b≠(s.heap.push {cls:=.type "set",dict:=none,data:=.set #[] 0 (.fresh 0 0 led)}).objs.size:=by
      rw [g19];exact mj (Nat.lt_succ_of_lt hb)
     exact hm.heap b o (by simp only [gx,mi,g1s,g1r,not_or];exact⟨hb1,hb2⟩) (gb _ (gb _ e))
   ·cases r₂ with
    | error e=>exact hr₂
    | ok fl₂=>
     cases fl₂ with
     | ret r=>
      obtain⟨rfl,h',tk,rfl,hS',htk,hk'⟩:=hr₂
      repeat (any_goals (first|assumption|wp_step))
      exact h _ _ hS' htk hk'
     | _=>exact hr₂.elim
  | _=>exact hr.elim
theorem call_len{a:Addr}{S:Str->Bool}{n:Nat}{Q:Value->Shared->Prop}(hS:s.heap.SetOf (strKind prog w) a S n)(hn:n<scanBound)(h:Q (.int n (s.toks+1)) {s with toks:=s.toks+1+1}):
  wpAny (model prog w) A (call (.builtin "len") [.ref a]) Q E s:=by
 obtain⟨o,es,ep,t,ho,hex,hd,_,_,_,hf,rfl⟩:=hS;exact call_len_set ho hex hd hf (Int.lt_of_lt_of_le (by unfold scanBound at hn;omega:(es.size:Int)<4096) (by decide)) h
end
end SetS
namespace Td
open PySem PyProof.Rows
section
variable{prog:Program}{w:World}{A:Around}{E:Value->Shared->Prop}{s:Shared}
theorem qdv{Q:List Value->Shared->Prop}{T:String}{r d:Addr}{n:Nat}{P:Nat->Value->Prop}{OK:Heap->Prop}(K:PySem.W.KdlSrc prog w T r d n P OK)(hh:A.handled=none)(hok:OK s.heap)(hn:n<=sizeLine)
  (h:∀(h':Heap) (tk:Nat) (vs:List Value),vs.length=n->(∀i v,vs[i]? = some v->P i v)->(∀b o,b<s.heap.objs.size->s.heap.get? b=some o->h'.get? b=some o)->s.heap.objs.size<=h'.objs.size->Q vs {s with heap:=h',toks:=tk}) :
  wpAny (model prog w) A (collect (.ref r)) Q E s:=by
 unfold collect;refine g8 (wpAny_runValue (tf (?_:codeAny _ _ _ (fun res s'=>res=.ok (.ret (.ref s.heap.objs.size))/\∃h' tk acc' c',s' = {s with heap:=h',toks:=tk}/\(∀b o,b<s.heap.objs.size->s.heap.get? b=some o->h'.get? b=some o)/\h'.get? s.heap.objs.size=some {cls:=.type "list",dict:=none,data:=.seq acc' c',slots:= #[]}/\ItemsOf P acc' n) _) fun res s' hr=>?_))
 ·refine ug F.entry_proto_collect ?_
  rw [uv F.plain_proto_collect _];show wpAny _ A.in1 (newList [] >>= fun l=>again (.builtin "list.__iadd__" ⟨[l,.ref r],[]⟩)) _ _ s;refine g8 (pj ?_);refine gf ⟨plainId_quiet F.plain_list_iadd _,ug F.entry_list_iadd ?_⟩;rw [uv F.plain_list_iadd _]
  let lo:Obj:={cls:=.type "list",data:=.seq ([]:List Value).toArray}
  have hS:(s.heap.push lo).get? s.heap.objs.size=some lo:=md _ rfl;have hlt:=K.there _ hok;show wpAny _ A.in1 (Builtin.List.listExtendWith (.ref s.heap.objs.size) (.ref r) (.ref s.heap.objs.size)) _ _ _;refine PySem.W.kdl_extend (R:=fun res s'=>res=.ok (.ret (.ref s.heap.objs.size))/\∃h' tk acc' c',s' = {s with heap:=h',toks:=tk}/\(∀b o,b<s.heap.objs.size->s.heap.get? b=some o->h'.get? b=some o)/\h'.get? s.heap.objs.size=some {cls:=.type "list",dict:=none,data:=.seq acc' c',slots:= #[]}/\ItemsOf P acc' n)
   (s:={s with heap:=s.heap.push lo}) K hh (K.keep _ _ hok fun b _ o e=>gb _ e) _ (g0g hlt.1) (g0g hlt.2) _ _ hS (fun h' tk acc' c' hk hS' hacc=>⟨rfl,h',tk,acc',c',rfl,fun b o hb e=>hk b o (mj hb) (gb _ e),hS',hacc⟩) hn
 ·obtain⟨rfl,h',tk,acc',c',rfl,hk,hS',hacc⟩:=hr
  show wpAny _ A (load s.heap.objs.size >>= _) _ _ _;refine g8 (wpAny_load (s:={s with heap:=h',toks:=tk}) hS' ?_);refine gf ?_;exact h h' tk acc'.toList (by rw [g0v];exact hacc.1) (fun i v e=>hacc.2 i v (by rw [<- Array.getElem?_toList];exact e)) hk (g13 (gv hS'))
theorem q8f{Q₁:Value->Shared->Prop}{r d:Addr}{n:Nat}{P:Nat->Value->Prop}{OK:Heap->Prop}(K:PySem.W.KdlSrc prog w "dict" r d n P OK)(hh:A.handled=none)(hok:OK s.heap)(hT:s.TypeIs (.ref r) "dict")(hn:n<=sizeLine)
  (h:∀(h':Heap) (tk:Nat) (vs:List Value),vs.length=n->(∀i v,vs[i]? = some v->P i v)->(∀b o,b<s.heap.objs.size->s.heap.get? b=some o->h'.get? b=some o)->s.heap.objs.size<=h'.objs.size->Q₁ (.ref h'.objs.size) {s with heap:=h'.push {cls:=.type "tuple",data:=.seq vs.toArray},toks:=tk}) :
  codeAny (model prog w) A (.call (.builtin "tuple.__new__") ⟨[.type "tuple",.ref r],[]⟩) (wants Q₁ E) s:=by
 refine g35 ?_;show wpAny _ A.in1 (do checkBuiltinCall "tuple.__new__" ⟨[.type "tuple",.ref r],[]⟩;again (.builtin "tuple.__new__" ⟨[.type "tuple",.ref r],[]⟩)) _ _ s;refine g8 (wpAny_of_eq (F.newCall_tuple_1 _) (gf ⟨plainId_quiet F.plain_tuple_new _,ug F.entry_tuple_new ?_⟩));rw [uv F.plain_tuple_new _];have hsub:=sub_tuple_self;have hinit:=init_tuple_lookup;have hmh:=madeHere_tuple;have hh2:A.in1.handled=none:=by simp [hh]
 wp_walk using g21 hT,qdv (A:=A.in1) (hn:=hn) K hh2 hok
 intro h' tk vs hl hP hk hz;show wpAny _ _ (Builtin.Tuple.tupleExact vs.toArray >>= fun v=>ret v) _ _ _;unfold Builtin.Tuple.tupleExact;refine g8 (pj ?_ (by show vs.toArray.size<=sizeLine;rw [gh,hl];exact hn));refine gf ?_;exact h h' tk vs hl hP hk hz
theorem call_tuple_dict{Q:Value->Shared->Prop}{r d:Addr}{n:Nat}{P:Nat->Value->Prop}{OK:Heap->Prop}(K:PySem.W.KdlSrc prog w "dict" r d n P OK)(hh:A.handled=none)(hok:OK s.heap)(hT:s.TypeIs (.ref r) "dict")(hn:n<=sizeLine)
  (hQ:∀(h':Heap) (tk:Nat) (vs:List Value),vs.length=n->(∀i v,vs[i]? = some v->P i v)->(∀b o,b<s.heap.objs.size->s.heap.get? b=some o->h'.get? b=some o)->s.heap.objs.size<=h'.objs.size->Q (.ref h'.objs.size) {s with heap:=h'.push {cls:=.type "tuple",data:=.seq vs.toArray},toks:=tk}) :
  wpAny (model prog w) A (call (.type "tuple") [.ref r]) Q E s:=by
 refine callType_codes (Q₁:=fun obj s₁=>s₁.TypeIs obj "tuple" /\ Q obj s₁) F.called_tuple (F.typeCall_tuple_1 _) F.entry_object_init
  (q8f K hh hok hT hn fun h' tk vs hl hP hk hz=>⟨⟨_,md _ rfl,rfl⟩,hQ h' tk vs hl hP hk hz⟩) fun obj s₁ h₁=>?_
 exact⟨h₁.1,F.args_object_init_2 obj _,object_init_meets F.called_tuple.init.lookup F.called_tuple.made (by decide) prog w A.in1 _ s₁ ⟨h₁.1,rfl,h₁.2⟩⟩
end
end Td
namespace DL
open PySem PySem.Spec PyProof.Rows L2
def xk(ns:List Str): List Str:=ns.foldl step_dedup []
theorem map_getD{α : Type}(d : α): ∀l:List α,(List.range l.length).map (fun i=>l.getD i d)=l:=fun l=>by
 apply g2l;intro i
 by_cases h:i<l.length
 ·simp [h]
 ·simp [h]
theorem qeq(ns:List Str): SetS.metS (fun i=>ns.getD i default) ns.length=xk ns:=by
 unfold SetS.metS xk;rw [map_getD]
variable[Lam][Pin]
section
variable{X:Cx}{pos:Pos}
abbrev qg5(X:Cx)(a:Addr)(n:Nat): HO:=.ext fun h=>∃S,h.SetOf (strKind X.prog X.w) a S n
def ql5(X:Cx): List V->Hp->VK->Prop:=fun xs H Q=>∃a ns,xs=[.ref a]/\SqL X.K H a (ns.map V.str)/\ns.length+1<scanBound/\∀c,H c=none->Q (.ref c) (upd H c (qg5 X c (xk ns).length))
theorem qmo(hc:X.calm=true): ji X (.type "set") (ql5 X):=fun pins s σ H xs us Q I rv ⟨a,ns,e,h1,h2,q⟩=>by
 subst e;obtain⟨u,rfl,ru⟩:=rv.one;obtain rfl:u=Value.ref a:=ru;obtain⟨its,w1,w2,_⟩:=I.list h1;obtain⟨l,rfl,hl⟩:=q5p w1;have hsz:(strValues l).toArray.size=ns.length:=by rw [gh, <- hl,g7];simp [strValues]
 refine SetS.call_set (ns:=ns) (I.ok.hd hc) w2.isList (fun i v hv=>?_) (by rw [hsz];exact h2) fun h' tk hS ht old=>?_
 ·rw [g0k] at hv
  unfold strValues at hv;rw [gz] at hv;obtain⟨p,hp,rfl⟩:=gr.mp hv;refine⟨p.2,?_⟩;have:ns[i]? = some p.1:=by rw [<- hl,gz,hp];rfl
  rw [n5,this];rfl
 ·rw [hsz,qeq] at hS
  have hnn:H s.heap.objs.size=none:=I.hok.fresh (gw _);obtain⟨o,es,ep,t,ho,_⟩:=id hS;exact⟨.ref _,_,I.laid (t':=tk) (a:=s.heap.objs.size) (o:=qg5 X s.heap.objs.size (xk ns).length) (fun b ob qb=>old b ob (gv qb) qb) (gw _) ⟨⟨_,hS⟩,⟨o,ho⟩,fun h1 h2 ⟨S,o,es,ep,t,ho,k⟩ e=>⟨S,o,es,ep,t,e _ ho,k⟩⟩,rfl,q _ hnn⟩
theorem qie:ji X (.builtin "len") (fun xs H Q=>∃a n,xs=[.ref a]/\H a=some (qg5 X a n)/\n<scanBound/\Q (.int n) H):=fun pins s σ H xs us Q I rv ⟨a,n,e,h1,h2,q⟩=>by
 subst e;obtain⟨u,rfl,ru⟩:=rv.one;obtain rfl:u=Value.ref a:=ru;obtain⟨⟨S,hS⟩,_,_⟩:=I.hok a _ h1;exact SetS.call_len hS h2 ⟨.int n,H,I.tok _,⟨_,rfl⟩,q⟩
omit [Lam] [Pin] in
theorem qer(ns:List Str): (xk ns).length<=ns.length:=by
 rw [<- qeq];exact SetS.metS_le _ _
def q40(f:FE): FE:=fun ρ =>(f ρ).bind fun d=>match d with
 | .lst ds=>(q0x ds).bind fun ns=>if ns.length+1<scanBound then some (.int (xk ns).length) else none
 | _=>none
theorem qif{a:Expr}{f:FE}{p p1 q1:Pos}(hc:X.calm=true)(hgl:Gl X "len")(hml:X.mg "len" = none)(hgt:Gl X "set")(hmt:X.mg "set" = none)(ha:PE X a (tD X.K f))
  (s1:starEach [a] X.env=(false,eval a X.env) :: starEach [] X.env:=by rfl)
  (s3:starEach [.Call (.Name "set" p1) [a] [] q1] X.env=(false,eval (.Call (.Name "set" p1) [a] [] q1) X.env) :: starEach [] X.env:=by rfl)
  (h1:∀pos,(backTo pos (starEach [] X.env)).any (·.1)=false:=by intro _;rfl) :
  PE X (.Call (.Name "len" p) [.Call (.Name "set" p1) [a] [] q1] [] pos) (tD X.K (q40 f)):=by
 refine j3 (q0e qie hgl hml DL.zd (jj (qa5 (qmo hc) hgt hmt (T:="set") (by rfl) (jj ha y6 s1) (he:=s1) (hpl:=h1 _)) y6 s3) (he:=s3) (hpl:=h1 _)) fun σ H Q ⟨F0,H0,F, ρ,d0,r,hf,q⟩=>?_;obtain⟨d,hx,hf⟩:=g0.mp hf
 split at hf
 ·rename_i ds
  obtain⟨ns,hn,hg⟩:=g0.mp hf
  split at hg
  ·rename_i hlt
   cases hg;refine⟨F0,H0,F, ρ,.lst ds,r,hx,fun v F1 H1 g1 r1=>?_⟩;obtain⟨b,xs,rfl,z1,z2⟩:=rep_lst.mp r1;rw [q5r hn z2] at z1;refine⟨b,ns,rfl,g1.fh.seq z1,hlt,fun c hc=>?_⟩;have g2:Grow F1 H1 F1 (upd H1 c (qg5 X c (xk ns).length)):=Grow.own g1.fh hc;exact⟨c,_,rfl,z7,Nat.lt_of_le_of_lt (qer ns) (by omega),q _ F1 _ (g1.trans g2) (rep_int.mpr rfl)⟩
  ·cases hg
 ·cases hf
def q8g:List D->Option D
 | [.dct ks _]=>(q9h ks).map fun ns=>.tup (ns.map .str)
 | _=>none
theorem qmp(hc:X.calm=true): ji X (.type "tuple") (rC X.K q8g):=by
 intro pins s σ H xs us Q I rv ⟨F,ds,d,fh,rl,ho,q⟩;unfold q8g at ho
 split at ho
 ·rename_i ks vs
  obtain⟨ns,hns,hg⟩:=gr.mp ho;subst hg;obtain rfl:=q9i hns;obtain⟨x,rfl,rx⟩:=rep1 rl;obtain⟨a,ys,rfl,e1,e2,e3⟩:=rep_dct.mp rx;obtain⟨u,rfl,ru⟩:=rv.one;obtain rfl:u=Value.ref a:=ru;obtain⟨z,hd,vvs,rel,dd⟩:=(show ObjOk X.prog X.w H s.heap a _ from I.hok a _ (fh _ _ e1))
  obtain⟨us,ru,rfl⟩:=q6k rel (by simpa using e2);have hul:ns.length=us.length:=by rw [<- ru.length, <- e2,g7]
  obtain⟨o,es,ep,g1,g2⟩:=id dd;have da:s.heap.DictAt (mixKind X.prog X.w) a (w9 ns us) ep:=⟨o,es,g1,g2⟩
  have hzl:(w9 ns us).length=ns.length:=by unfold w9;rw [tw,g7, <- hul,uz]
  have hz:ns.length<=sizeLine:=by rw [tw, <- e2,uz,g7] at z;exact z
  refine Td.call_tuple_dict (PySem.W.kdl_dict hd) (I.ok.hd hc) da dd.typeIs (by rw [hzl];exact hz) fun h' tk vs' hl hP old hsz=>?_;have hV:Vals (ns.map V.str) vs':=by
   have key:∀(l:List Str) (us:List Value) (vs:List Value),l.length=us.length->vs.length=l.length->(∀(i:Nat) v,vs[i]? = some v->∃k x,(w9 l us)[i]? = some (k,x)/\(mixKind X.prog X.w).is k v=true)->Vals (l.map V.str) vs:=by
    intro l
    induction l with
    | nil=>intro us vs _ e _;cases vs with|nil=>exact .nil|cons _ _=>cases e
    | cons y l ih=>
     intro us vs e1 e2 h;cases us with
     | nil=>cases e1
     | cons u us=>
      cases vs with
      | nil=>cases e2
      | cons v vs=>
       obtain⟨k,x,h1,h2⟩:=h 0 v rfl;cases h1;refine .cons ?_ (ih us vs (by simpa using e1) (by simpa using e2) fun i v hv=>h (i+1) v (by simpa using hv));cases v <;> first|(cases h2;done)|skip
       rename_i y' t;have:y'=y:=by simpa [mixKind,q7x,Value.isInt,Value.isStrOf] using h2
       subst this;exact⟨t,rfl⟩
   exact key ns us vs' hul (by rw [hl,hzl]) hP
  have hn2:H h'.objs.size=none:=I.hok.fresh hsz;have gn:Grow F H (upd F h'.objs.size (.tup (ns.map V.str))) (upd H h'.objs.size (.tup (ns.map V.str))):=Grow.new fh hn2;refine⟨.ref h'.objs.size,_,I.laid (t':=tk) (a:=h'.objs.size) (o:=.tup (ns.map V.str)) (fun b ob qb=>gb _ (old b ob (gv qb) qb)) hsz ⟨by rw [g7];exact hz,vs',hV,TupX.new _ _⟩,rfl,q _ _ _ gn (rep_tup.mpr ⟨h'.objs.size,_,rfl,SqT.of z7,q5q _⟩)⟩
 ·cases ho
end
end DL
namespace DL
open PySem PySem.Spec PyProof.Rows L2
variable[Lam][Pin]
section
variable{K:Frag}{F0 H0 F H F' H':Hp}{σ : St}{ρ : Rho}
theorem q5t(r:RS K F0 H0 F H σ ρ)(i:Nat): RS K F0 H0 F H σ (ρ.set i none):=by
 have key:∀ {j:Nat} {b:B},(ρ.set i none)[j]? = some (some b) -> ρ[j]? = some (some b):=fun {j b} h=>by
  by_cases q:j=i
  ·subst q
   obtain⟨z,_⟩:=z0 h;cases z
  ·rw [g9 (m4 q)] at h
   exact h
 exact {t0:=r.t0,g:=r.g,len:=by rw [n9];exact r.len,fz:=fun j d e=>r.fz j d (key e),ow:=fun j d e=>r.ow j d (key e),dj:=fun i j ds es a h e1 e2=>r.dj i j ds es a h (key e1) (key e2),od:=fun j k e=>let⟨a,bs,e1,e2,e3⟩:=r.od j k (key e); ⟨a,bs,e1,e2,fun j es b z=>e3 j es b (key z)⟩,o1:=fun i j k1 k2 e1 e2=>r.o1 i j k1 k2 (key e1) (key e2)}
theorem qce(r:RS K F0 H0 F H σ ρ){i:Nat}(h : ρ[i]? = some none)(v:Option V): RS K F0 H0 F H (σ.set i v) ρ :=by
 have key:∀ {j:Nat} {b:B}, ρ[j]? = some (some b)->(σ.set i v)[j]? = σ[j]? :=fun {j b} e=>by
  refine g9 (fun q=>?_);subst q;rw [h] at e;cases e
 exact {t0:=r.t0,g:=r.g,len:=by rw [n9];exact r.len,fz:=fun j d e=>by rw [key e];exact r.fz j d e,ow:=fun j d e=>by rw [key e];exact r.ow j d e,dj:=fun i j ds es a h e1 e2=>by rw [key e1,key e2];exact r.dj i j ds es a h e1 e2,od:=fun j k e=>let⟨a,bs,e1,e2,e3⟩:=r.od j k e; ⟨a,bs,by rw [key e];exact e1,e2,fun j es b z=>by rw [key z];exact e3 j es b z⟩,o1:=r.o1}
theorem qpc(r:RS K F0 H0 F H σ ρ){p:Addr}{kv kv':List (Key×V)}(h0:H p=some (.dK kv))(h1:F p=none)(h2:H0 p=none): RS K F0 H0 F (upd H p (.dK kv')) σ ρ where
 t0:=r.t0
 g :=⟨r.g.ff,⟨fun b u e=>by rw [qu (fun z=>by subst z;rw [h2] at e;cases e)];exact r.g.hh.lst b u e,fun b u e=>by rw [qu (fun z=>by subst z;rw [h2] at e;cases e)];exact r.g.hh.ext b u e,fun {b} e=>by
   by_cases z:b=p
   ·subst z;exact h2
   ·rw [qu z] at e;exact r.g.hh.free e,fun _=>r.tab.updG fun u e=>by rw [h0] at e;cases e;exact⟨nofun,nofun⟩,fun b u e=>by rw [qu (fun z=>by subst z;rw [h2] at e;cases e)];exact r.g.hh.dk b u e⟩,fun b u e=>by rw [qu (fun z=>by subst z;rw [h1] at e;cases e)];exact r.g.fh b u e,r.g.nw⟩
 len:=r.len
 fz:=r.fz
 ow:=fun i ds e=>by
  obtain⟨a,xs,e1,e2,e3⟩:=r.ow i ds e;exact⟨a,xs,e1,by rw [qu (fun z=>by subst z;rw [h0] at e2;cases e2)];exact e2,e3⟩
 dj:=r.dj
 od:=fun i k e=>by
  obtain⟨a,bs,e1,e2,e3⟩:=r.od i k e;obtain⟨C,dx,vs,z1,z2,z3⟩:=e2.ex;exact⟨a,bs,e1,e2.other (fun z=>by subst z;rw [h0] at z1;cases z1) (by rw [e2.nb];exact g1s),e3⟩
 o1:=r.o1
theorem qmq(r:RS K F0 H0 F H σ ρ){p:Addr}{kv:List (Key×V)}(h0:H p=some (.dK kv))(h1:F p=none)(h2:H0 p=none): RS K F0 H0 (upd F p (.dK kv)) H σ ρ where
 t0:=r.t0
 g :=⟨r.g.ff.trans (yr h1),r.g.hh,fun b u e=>by
   by_cases q:b=p
   ·subst q;rw [z7] at e;cases e;exact h0
   ·rw [qu q] at e;exact r.g.fh b u e,fun b hb=>by
   by_cases q:b=p
   ·subst q;exact .inr h2
   ·rw [qu q] at hb;exact r.g.nw b hb⟩
 len:=r.len
 fz:=fun i d e=>let⟨v,e1,e2⟩:=r.fz i d e; ⟨v,e1,e2.mono (yr h1)⟩
 ow:=fun i ds e=>by
  obtain⟨a,xs,e1,e2,e3,e4,e5⟩:=r.ow i ds e;exact⟨a,xs,e1,e2,by rw [qu (fun z=>by subst z;rw [h0] at e2;cases e2)];exact e3,e4,e5.mono (yr h1)⟩
 dj:=r.dj
 od:=fun i k e=>by
  obtain⟨a,bs,e1,e2,e3⟩:=r.od i k e;obtain⟨C,dx,vs,z1,z2,z3⟩:=e2.ex;exact⟨a,bs,e1,e2.otherF (yr h1) (fun z=>by subst z;rw [h0] at z1;cases z1) (by rw [e2.nb];exact g1s),e3⟩
 o1:=r.o1
end
def lnD:D->Option (List Str)
 | .tup [_,.lst ds]=>q0x ds
 | _=>none
def qcf:List D->Option (List (List Str))
 | []=>some []
 | d :: ds=>(lnD d).bind fun l=>(qcf ds).map (l :: ·)
omit [Lam] [Pin] in
theorem qcg:∀ {ds:List D} {ls:List (List Str)},qcf ds=some ls->ls.length=ds.length/\∀(k:Nat) (d:D),ds[k]? = some d->∃q,ls[k]? = some q/\lnD d=some q
 | [],ks,h=>by cases h;exact⟨rfl,fun k d e=>by cases e⟩
 | d :: ds,ks,h=>by
  obtain⟨q,h1,h2⟩:=g0.mp h;obtain⟨r,h3,rfl⟩:=gr.mp h2;obtain⟨e1,e2⟩:=qcg h3;refine⟨by rw [gs,gs,e1],fun k x e=>?_⟩;cases k with
  | zero=>cases e;exact⟨q,rfl,h1⟩
  | succ k=>exact e2 k x e
def qkf(n:Nat): List D:=(List.range n).map fun i:Nat=>D.int i
def q3j(n:Nat): List V:=(List.range n).map fun i:Nat=>V.int i
omit [Lam] [Pin] in
theorem qmr{K:Frag}{F:Hp}(n:Nat): RepL K F (qkf n) (q3j n):=by
 have:=(RepL.ints (K:=K) (H:=F) (ns:=(List.range n).map fun i:Nat=>(i:Int)) (xs:=q3j n)).mpr (by unfold q3j;rw [mh];rfl);rw [mh] at this;exact this
def yn(ks:List Str): D:=.dct (ks.map Sum.inr) (qkf ks.length)
abbrev hide(i1 i2 i3 j:Nat)(ρ : Rho): Rho:=(((ρ.set i1 none).set i2 none).set i3 none).set j none
def qch(i1 i2 i3 j:Nat)(it:FA): FS:=fun ρ =>if i1 < ρ.length/\i2 < ρ.length/\i3 < ρ.length/\j < ρ.length then(it (hide i1 i2 i3 j ρ)).bind fun ds=>(qcf ds).bind fun ls=>
 if ls.flatten.length<lim then some (.nx,(hide i1 i2 i3 j ρ).set i1 (some (.fz (yn (xk ls.flatten))))) else none else none
section
variable{X:Cx}{pos:Pos}
def tDNw:TE:=fun _ H Q=>∀p,H p=none->(p==sysModules)=false->Q (.ref p) (upd H p (.dK []))
theorem qpd:PE X (.Dict [] [] pos) tDNw:=fun pins s σ H Q I q=>by
 have hne:(s.heap.objs.size==sysModules)=false:=g02.mpr (m4 (mj (qej I)));refine wpAny_Dict_empty ⟨.ref s.heap.objs.size,_,I.laid (a:=s.heap.objs.size) (o:=.dK []) (t':=s.toks) (fun _ _ z=>gb _ z) (gw _)
  ⟨pz _,hne,[],.nil,Heap.DictOf.new s.heap⟩,rfl,q _ (I.hok.fresh (gw _)) hne⟩
theorem qms:ji X (.builtin "len") (fun xs H Q=>∃a kv,xs=[.ref a]/\H a=some (.dK kv)/\Q (.int kv.length) H):=fun pins s σ H xs us Q I rv ⟨a,kv,e,h1,q⟩=>by
 subst e;obtain⟨u,rfl,ru⟩:=rv.one;obtain rfl:u=Value.ref a:=ru;obtain⟨z,hd,vvs,rel,dd⟩:=(show ObjOk X.prog X.w H s.heap a _ from I.hok a _ h1)
 have hl:vvs.length=kv.length:=rel.length.symm;refine call_len_dict hd dd (by rw [hl];rw [uc] at z;omega) ⟨.int vvs.length,H,I.tok _,⟨_,rfl⟩,?_⟩;rw [hl];exact q
omit [Lam] [Pin] in
theorem qah(l:List Str)(k:Str): xk (l++[k])=step_dedup (xk l) k:=by
 unfold xk;rw [g2k];rfl
omit [Lam] [Pin] in
theorem q1f{l:List Str}{k:Str}(h:k∈l): step_dedup l k=l:=by
 unfold step_dedup;rw [gy (g2y.mpr ⟨k,h,by simp⟩:(l.any fun x=>x==k)=true)]
omit [Lam] [Pin] in
theorem wa{l:List Str}{k:Str}(h:k∉l): step_dedup l k=l++[k]:=by
 unfold step_dedup;rw [ma];intro z;obtain⟨y,h1,h2⟩:=g2y.mp z;exact h (by rw [<- eq_of_beq h2];exact h1)
omit [Lam] [Pin] in
theorem qci{α : Type}{l:List α}{k:Nat}{x : α}(h:l[k]? = some x): l.take (k+1)=l.take k++[x]:=by rw [List.take_succ,h];rfl
omit [Lam] [Pin] in
theorem qai:∀ {ds:List D} {ys:List Str},q0x ds=some ys->ds=ys.map D.str
 | [],ys,h=>by cases h;rfl
 | .str x :: ds,ys,h=>by
  obtain⟨ys',h1,rfl⟩:=gr.mp h;rw [qai h1];rfl
 | .non :: ds,ys,h=>by cases h
 | .bl _ :: ds,ys,h=>by cases h
 | .int _ :: ds,ys,h=>by cases h
 | .tup _ :: ds,ys,h=>by cases h
 | .lst _ :: ds,ys,h=>by cases h
 | .dct _ _ :: ds,ys,h=>by cases h
 | .dtt _ _ :: ds,ys,h=>by cases h
 | .obj _ :: ds,ys,h=>by cases h
 | .exc _ _ :: ds,ys,h=>by cases h
structure GS(F H:Hp)(a:Addr)(ks:List Str): Prop where
 h:H a=some (.dK (q9g ks (q3j ks.length)))
 f:F a=none
omit [Lam] [Pin] in
theorem q4p(n:Nat): (q3j n).length=n:=by unfold q3j;simp
omit [Lam] [Pin] in
theorem qig(n:Nat): q3j (n+1)=q3j n++[.int n]:=by unfold q3j;rw [List.range_succ,ng];rfl
theorem GS.grow{F H F' H':Hp}{a:Addr}{ks:List Str}(d:GS F H a ks)(g:Grow F H F' H'): GS F' H' a ks:=⟨g.hh.dk a (.inr _) d.h,qeb g d.f d.h⟩
theorem qpe{K:Frag}{F0 H0 F F':Hp}{D:Ends}{fl:Fl}{ρ':Rho}(h:Same F F')(q:q6e K F0 H0 F D fl ρ'): q6e K F0 H0 F' D fl ρ':=by
 cases fl with
 | nx=>exact fun σ' F2 H2 s r=>q σ' F2 H2 (h.trans s) r
 | bk=>exact fun σ' F2 H2 s r=>q σ' F2 H2 (h.trans s) r
 | ct=>exact fun σ' F2 H2 s r=>q σ' F2 H2 (h.trans s) r
 | rt d=>exact q
theorem qpf{x z:Str}{p1 p2 p3 p4 p5 dp apos cpos lpos epos fpos fpos2 tpos:Pos}{tk:Nat}{t1 t2 tg2 it2 iter:Expr}{rest:List Stmt}{i1 i2 i3 j:Nat}{it:FA}{u:FS}
  (n12:i1≠i2) (n13:i1≠i3) (n1j:i1≠j) (n23:i2≠i3) (n2j:i2≠j) (n3j:i3≠j)
  (hp:PassesOwn (model X.prog X.w) X.A X.env X.xe) (hc:X.calm=true) (hgl:Gl X "len") (hml:X.mg "len" = none)
  (hd:PS X (.Assign [.Name x p1] (.Dict [] [] dp) pos) (qj5 tDNw (q1n i1))) (hi:PI X (.Tuple [t1,t2] tk tpos) iter (tDI X.K it)) (hg1:PG X t1 (q1n i2)) (hg2:PG X t2 (q1n i3))
  (hi2:PI X tg2 it2 (tDI X.K (xq (eV i3)))) (hg:PG X tg2 (q1n j)) (hv:PE X (.Name x p2) (q2s i1)) (hz:PE X (.Name z p3) (q2s j)) (hv2:PE X (.Name x p4) (q2s i1)) (hr:PSs X rest (tDS X.K u))
  (hs:∀x,foldedSetIterable iter X.env x=pure x:=by intro _;rfl) (hs2:∀x,foldedSetIterable it2 X.env x=pure x:=by intro _;rfl)
  (a1:(assignEach [t1,t2] X.env).map (·.2)=assign t1 X.env :: (assignEach [t2] X.env).map (·.2):=by rfl) (a2:(assignEach [t2] X.env).map (·.2)=assign t2 X.env :: (assignEach [] X.env).map (·.2):=by rfl)
  (hn:(assignEach [t1,t2] X.env).length=2:=by rfl) (hst:(assignEach [t1,t2] X.env).findIdx? (·.1)=none:=by rfl)
  (hb1:attributeBase (.Name x p2) "setdefault" X.env (eval (.Name x p2) X.env)=eval (.Name x p2) X.env:=by rfl)
  (hf1:((backTo cpos (starEach [.Name z p3,.Call (.Name "len" p5) [.Name x p4] [] lpos] X.env)).all (fun x=> !x.1)&&(backToKw cpos (keywordEach [] X.env)).all (fun x=>x.1.isSome)&&decide ([Expr.Name z p3,.Call (.Name "len" p5) [.Name x p4] [] lpos].length+([]:List Keyword).length+(if([]:List Keyword).isEmpty then 0 else 1)<30))=true:=by rfl)
  (hl1:(apos.endLine==cpos.line)=true:=by rfl) (hs1:starEach [.Name z p3,.Call (.Name "len" p5) [.Name x p4] [] lpos] X.env=(false,eval (.Name z p3) X.env) :: starEach [.Call (.Name "len" p5) [.Name x p4] [] lpos] X.env:=by rfl)
  (hs3:starEach [.Call (.Name "len" p5) [.Name x p4] [] lpos] X.env=(false,eval (.Call (.Name "len" p5) [.Name x p4] [] lpos) X.env) :: starEach [] X.env:=by rfl)
  (hs4:starEach [.Name x p4] X.env=(false,eval (.Name x p4) X.env) :: starEach [] X.env:=by rfl)
  (hp1:(backTo cpos (starEach [.Call (.Name "len" p5) [.Name x p4] [] lpos] X.env)).any (·.1)=false:=by rfl)
  (hsw:swapsWith (.Call (.Attribute (.Name x p2) "setdefault" apos) [.Name z p3,.Call (.Name "len" p5) [.Name x p4] [] lpos] [] cpos) none epos.line X.env=pure false:=by rfl) :
  PSs X (.Assign [.Name x p1] (.Dict [] [] dp) pos :: .For (.Tuple [t1,t2] tk tpos) iter [.For tg2 it2 [.Expr (.Call (.Attribute (.Name x p2) "setdefault" apos) [.Name z p3,.Call (.Name "len" p5) [.Name x p4] [] lpos] [] cpos) epos] [] fpos2] [] fpos :: rest)
   (tDS X.K (qw (qch i1 i2 i3 j it) u)):=by
 refine q3u (q4c hd (q4c (qbe hp hc hi (qh8 hc (q7c hg1 (q7c hg2 qe6 a2) a1) hn hst) (q3t (qbe hp hc hi2 hg (q3t (q6a
  (q82 PySem.F.plainAttrs_dict g2b PySem.F.type_dict_setdefault qg4 hv (jj hz (jj (q0e qms hgl hml DL.zd (jj hv2 y6 hs4) (he:=hs4)) y6 hs3) hs1) hb1 hf1 hl1 hs1 hp1) hsw)) hs2)) hs) hr)) fun D σ H ⟨F0,H0,F, ρ,fl, ρ',r,hf,q⟩=>?_
 obtain⟨⟨fl1, ρ1⟩,h3,h4⟩:=g0.mp hf;unfold qch at h3
 split at h3
 case isFalse=>cases h3
 rename_i hok;obtain⟨l1,l2,l3,lj⟩:=hok;obtain⟨ds,hit,h3⟩:=g0.mp h3;obtain⟨ls,hls,h3⟩:=g0.mp h3
 split at h3
 case isFalse=>cases h3
 rename_i hlim;cases h3;obtain⟨kl,kget⟩:=qcg hls;intro a na nm;have hFa:F a=none:=r.fh.free na;have hHa:H0 a=none:=r.g.hh.free na;have hhi:∀ {i:Nat},i=i1\/i=i2\/i=i3\/i=j->(hide i1 i2 i3 j ρ)[i]? = some none:=fun {i} h=>by
  simp only [hide,g0d,n9];rcases h with rfl|rfl|rfl|rfl <;> (repeat' split) <;> simp_all
 have hσl:∀ {σ':St} {F' H':Hp},RS X.K F0 H0 F' H' σ' (hide i1 i2 i3 j ρ) -> σ'.length = ρ.length:=fun r=>by rw [r.len];simp [hide]
 have r1:RS X.K F0 H0 F (upd H a (.dK [])) (σ.set i1 (some (.ref a))) (hide i1 i2 i3 j ρ):=
  qce (q5t (q5t (q5t (q5t (r.grow (Grow.own r.fh na)) i1) i2) i3) j) (hhi (.inl rfl)) _
 have s1:(σ.set i1 (some (.ref a)))[i1]? = some (some (.ref a)):=by rw [ph (by rw [r.len];exact l1)]
 have G1:GS F (upd H a (.dK [])) a []:=⟨z7,hFa⟩
 refine⟨F0,H0,F,_,ds,r1,hit,fun J F1 H1 g1 itd=>?_⟩;refine⟨fun k m σ H=>m=ds.length-k/\k<=ds.length/\∃F',Same F1 F'/\RS X.K F0 H0 F' H σ (hide i1 i2 i3 j ρ) /\ σ[i1]? = some (some (.ref a))/\GS F' H a (xk (ls.take k).flatten),
  ⟨ds.length,by simp,pz _,F1,.refl _,r1.grow g1,s1,G1.grow g1⟩,?_⟩
 rintro k m σ' H' ⟨rfl,hk,F',sm,rk,sk,Gk⟩
 by_cases hlt:k<ds.length
 ·refine .inr ⟨itd.go k F' H' sm rk.fh hlt,fun σ'' H''=>∃F'',Same F1 F''/\RS X.K F0 H0 F'' H'' σ'' (hide i1 i2 i3 j ρ) /\ σ''[i1]? = some (some (.ref a))/\GS F'' H'' a (xk (ls.take (k+1)).flatten),fun σ'' H'' z=>⟨ds.length-(k+1),by omega,rfl,hlt,z⟩,fun x H2 y=>?_⟩
  have hd:ds[k]? = some ds[k]:=m6 hlt;obtain⟨F2,g2,rx⟩:=itd.yld k ds[k] F' H' x H2 sm rk.fh hd y;obtain⟨l,hl,hln⟩:=kget k _ hd;generalize ds[k]=dk at rx hln;unfold lnD at hln
  split at hln
  case h_2=>cases hln
  rename_i dm des;obtain⟨b,xs,rfl,h5,h6⟩:=rep_tup.mp rx;obtain⟨v1,xr,rfl,h7,h8⟩:=h6.cons_inv;obtain⟨v2,xr2,rfl,h9,h10⟩:=h8.cons_inv;cases h10.nil_inv;refine⟨b,_,rfl,z9 g2.fh h5,rfl,v1,_,rfl,v2,_,rfl,rfl,?_⟩;have rb:=(qce (rk.grow g2) (hhi (.inr (.inl rfl))) (some v1)).set i3 h9;have sb:((σ'.set i2 (some v1)).set i3 (some v2))[i1]? = some (some (.ref a)):=by rw [g9 (m4 n13),g9 (m4 n12)];exact sk
  have Gb:=Gk.grow g2;have hj:((hide i1 i2 i3 j ρ).set i3 (some (.fz (.lst des))))[j]? = some none:=by rw [g9 n3j];exact hhi (.inr (.inr (.inr rfl)))
  have hdes:=qai hln;subst hdes;refine⟨F0,H0,F2,_,l.map DL.D.str,rb,?_,fun J2 F3 H3 g3 itd2=>?_⟩
  ·have:((hide i1 i2 i3 j ρ).set i3 (some (.fz (.lst (l.map DL.D.str)))))[i3]? = some (some (.fz (.lst (l.map DL.D.str)))):=by rw [ph (by simp [hide];exact l3)]
   simp only [xq,eV,this,g6,q4g]
  refine⟨fun n m σ H=>m=l.length-n/\n<=l.length/\∃F',Same F3 F'/\RS X.K F0 H0 F' H σ ((hide i1 i2 i3 j ρ).set i3 (some (.fz (.lst (l.map DL.D.str))))) /\ σ[i1]? = some (some (.ref a))/\GS F' H a (xk ((ls.take k).flatten++l.take n)),
   ⟨l.length,by simp,pz _,F3,.refl _,rb.grow g3,sb,by rw [g2a,my];exact Gb.grow g3⟩,?_⟩
  rintro n m σ3 H4 ⟨rfl,hn,F4,sm4,r4,s4,G4⟩
  by_cases hlt2:n<l.length
  ·have hln2:l[n]? = some l[n]:=m6 hlt2
   have hdn:(l.map DL.D.str)[n]? = some (.str l[n]):=by rw [gz,hln2];rfl
   refine .inr ⟨itd2.go n F4 H4 sm4 r4.fh (by rw [g7];exact hlt2),fun σ'' H''=>∃F'',Same F3 F''/\RS X.K F0 H0 F'' H'' σ'' ((hide i1 i2 i3 j ρ).set i3 (some (.fz (.lst (l.map DL.D.str))))) /\ σ''[i1]? = some (some (.ref a))/\GS F'' H'' a (xk ((ls.take k).flatten++l.take (n+1))),fun σ'' H'' z=>⟨l.length-(n+1),by omega,rfl,hlt2,z⟩,fun x H5 y=>?_⟩;obtain⟨F5,g5,rx5⟩:=itd2.yld n _ F4 H4 x H5 sm4 r4.fh hdn y;cases rep_str.mp rx5;have r5:=qce (r4.grow g5) hj (some (.str l[n]));have s5:(σ3.set j (some (.str l[n])))[i1]? = some (some (.ref a)):=by rw [g9 (m4 n1j)];exact s4
   have sj:(σ3.set j (some (.str l[n])))[j]? = some (some (.str l[n])):=by
    rw [ph];have:=r5.len;rw [n9,n9] at this;simp only [hide,n9] at this;rw [this];exact lj
   have G5:=G4.grow g5;have ek:∀ks:List Str,(q9g ks (q3j ks.length)).length=ks.length:=fun ks=>by unfold q9g;rw [tw,g7,q4p,uz]
   have hsz:(xk ((ls.take k).flatten++l.take n)).length<lim:=by
    refine Nat.lt_of_le_of_lt (mm (qer _) ?_) hlim;have e1:ls.flatten=(ls.take k).flatten++(l++(ls.drop (k+1)).flatten):=by
     obtain⟨z1,z2⟩:=n8.mp hl;have:=g1u k ls;rw [t9 z1,z2] at this
     conv=>lhs;rw [<- this]
     rw [List.flatten_append,p6]
    rw [e1,gc,gc,gc,mf];omega
   have e2:(ls.take k).flatten++l.take (n+1)=((ls.take k).flatten++l.take n)++[l[n]]:=by rw [qci hln2,mn]
   refine⟨.ref a,s5,.inr (.inr (.inl ⟨rfl,.inl ⟨_,G5.h⟩⟩)),.str l[n],sj,.ref a,s5,a,_,rfl,G5.h,a,_,_,l[n],_,rfl,rfl,G5.h,(q4p _).symm,by rw [q4p];exact q3b hsz,fun b hb _=>?_,fun hb=>?_⟩
   ·exact⟨F5,sm4.trans g5.ff,r5,s5,by rw [e2,qah,q1f hb];exact G5⟩
   ·refine⟨F5,sm4.trans g5.ff,qpc r5 G5.h G5.f hHa,s5,?_⟩
    rw [e2,qah,wa hb];refine⟨?_,G5.f⟩;rw [z7,gc,gj,qig,ek]
  ·have e:n=l.length:=by omega
   subst e;refine .inl ⟨itd2.stop _ F4 H4 sm4 r4.fh (by rw [g7];exact gw _),F4,(sm.trans g2.ff).trans (g3.ff.trans sm4),?_,s4,?_⟩
   ·have:=q5t r4 i3
    rw [List.set_set] at this;have e3:(hide i1 i2 i3 j ρ).set i3 none=hide i1 i2 i3 j ρ :=by
     apply g2l;intro n
     by_cases q:n=i3
     ·subst q
      rw [ph (by simp [hide];exact l3),hhi (.inr (.inr (.inl rfl)))]
     ·rw [g9 (m4 q)]
    rw [e3] at this;exact this
   ·rw [g2s] at G4
    rw [qci hl,List.flatten_append,p6,List.flatten_nil,my];exact G4
 ·have e:k=ds.length:=by omega
  subst e;refine .inl ⟨itd.stop _ F' H' sm rk.fh (gw _),?_⟩;rw [ny (by omega)] at Gk;have rf:=(qmq rk Gk.h Gk.f hHa).set i1 (d:=yn (xk ls.flatten)) (v:=.ref a) (rep_dct.mpr ⟨a,_,rfl,z7,by rw [g7,q4p],qmr _⟩);have e4 : σ'.set i1 (some (.ref a)) = σ':=by
   apply g2l;intro n
   by_cases q:n=i1
   ·subst q
    rw [sk,ph (n8.mp sk).1]
   ·rw [g9 (m4 q)]
  rw [e4] at rf;exact⟨F0,H0,_,_,fl, ρ',rf,h4,qpe ((g1.ff.trans sm).trans (yr Gk.f)) q⟩
end
section
variable{X:Cx}
def q4q:List D->Option D
 | [.int i]=>if i.natAbs.log2<1920 then some (.str (toString i)) else none
 | _=>none
theorem qih:ji X (.type "str") (rC X.K q4q):=q1z qbg fun xs H Q ⟨F,ds,d,fh,rl,ho,q⟩=>by
 unfold q4q at ho
 split at ho
 ·rename_i i
  split at ho
  ·rename_i hz
   cases ho;exact⟨i,RepL.ints (ns:=[i]).mp rl,hz,q _ F H (.refl fh) (rep_str.mpr rfl)⟩
  ·cases ho
 ·cases ho
end
section
variable{X:Cx}{e:Expr}{pos:Pos}{f:FE}
end
end DL
namespace Fl
open PySem
theorem put(h:Heap)(a:Addr)(o:Obj)(hf:∀b,({objs:= #[o]}:Heap).get? 0=some b->b=o)(hs:({objs:= #[o]}:Heap).get? 0=some o): ∃h':Heap,h'.get? a=some o/\∀b,b≠a->h'.get? b=h.get? b:=by
 let fr:Obj:={cls:=.none,data:=.freed}
 let f:Nat->Obj:=fun i=>if i=a then o else(h.objs[i]?).getD fr
 refine⟨⟨((List.range (max h.objs.size (a+1))).map f).toArray,h.life⟩,?_,fun b hb=>?_⟩
 ·unfold Heap.get? at hs ⊢
  have:(((List.range (max h.objs.size (a+1))).map f).toArray)[a]? = some o:=by
   rw [g0k,gz,g06 (by omega)];show some (f a)=_;simp [f]
  simp only [this]
  simpa using hs
 ·unfold Heap.get?
  by_cases hlt:b<max h.objs.size (a+1)
  ·have:(((List.range (max h.objs.size (a+1))).map f).toArray)[b]? = some ((h.objs[b]?).getD fr):=by
    rw [g0k,gz,g06 hlt];show some (f b)=_;simp [f,hb]
   simp only [this];cases e:h.objs[b]? with
   | none=>rfl
   | some v=>rfl
  ·have:(((List.range (max h.objs.size (a+1))).map f).toArray)[b]? = none:=by
    rw [g0k,gz,g3b (by rw [nj];exact g2q hlt)];rfl
   have e:h.objs[b]? = none:=Array.getElem?_eq_none (mm (Nat.le_max_left _ (a+1)) (g2q hlt));simp only [this,e]
section
variable{M:Model}{A:Around}{E:Value->Shared->Prop}{s:Shared}{base:Heap}{env:Env}{outer l:List Env}{L e:Addr}{P:Obj->Prop}{Q:Unit->Shared->Prop}{fl:Value}
theorem noteA(st:Stable P)(hfr:A.frames=some (env :: outer))(hf:env.frame=some L)(x:Fly base (env :: outer) e P fl s.heap)
  (k:∀h',Fly base (env :: outer) e P (rawInt L) h'->s.heap.UpToSlots h'->Q () {s with heap:=h'}):wpAny M A (noteFrame (.ref e) env) Q E s:=by
 obtain⟨hkb,hen,hl,ob,ws,T,ot,us,e1,hp,hd,e2,e3,e4,e5,e6,e7⟩:=id x;unfold noteFrame;simp only [hf];refine g8 (td e1 hd e2 ?_);rw [gy (show(Value.ref T != Value.none)=true by simp)];refine g8 (td e5 e6 e7 ?_)
 by_cases hb:(fl==rawInt L)=true
 ·rw [gy hb]
  obtain rfl:fl=rawInt L:=by simpa using hb
  exact gf (k s.heap x fun b o z nf=>⟨o.slots,z⟩)
 ·rw [ma hb]
  refine g8 (g0j e5 e6 (n4.mp e7).1 ?_);have oth:∀b,b≠T->(s.heap.update T (Obj.mapFields (·.setIfInBounds 3 Value.none))).get? b=s.heap.get? b:=fun b z=>mw _ _ (m4 z);have nT:∀b o,s.heap.get? b=some o->(∀vs,o.data ≠ .fields vs)->b≠T:=fun b o z nf y=>by subst y;rw [e5] at z;cases z;exact nf us e6
  refine entry st hfr (hl.of_keeps fun b o z nf=>⟨o,(oth b (nT b o z nf)).trans z,rfl⟩) hf ((oth e (m4 e4)).trans e1) (fun b o z=>(oth b fun y=>by rw [y,e3] at z;cases z).trans (hkb b o z)) hen hp hd (n4.mp e2).1 fun h' y u=>k h' y fun b o z nf=>u b o ((oth b (nT b o z nf)).trans z) nf
theorem qrd(fr:Option Addr)(x:Fly base l e P fl s.heap)(k:∀h',Fly base l e P (fr.elim .none fun f=>rawInt f) h'->s.heap.UpToSlots h'->Q () {s with heap:=h'}): wpAny M A (setFlight (.ref e) fr) Q E s:=by
 obtain⟨hkb,hen,hl,ob,ws,T,ot,us,e1,hp,hd,e2,e3,e4,e5,e6,e7⟩:=x;have z3:3<us.size:=(n4.mp e7).1;unfold setFlight;refine g8 (td e1 hd e2 ?_);rw [gy (show(Value.ref T != Value.none)=true by simp)];have oth:∀b,b≠T->(s.heap.update T (Obj.mapFields (·.setIfInBounds 3 (fr.elim Value.none fun f=>rawInt f)))).get? b=s.heap.get? b:=fun b z=>mw _ _ (m4 z);have nT:∀b o,s.heap.get? b=some o->(∀vs,o.data ≠ .fields vs)->b≠T:=fun b o z nf y=>by subst y;rw [e5] at z;cases z;exact nf us e6
 refine g0j e5 e6 z3 (k _ ⟨fun b o z=>(oth b fun y=>by rw [y,e3] at z;cases z).trans (hkb b o z),hen,hl.of_keeps fun b o z nf=>⟨o,(oth b (nT b o z nf)).trans z,rfl⟩,ob,ws,T,_,_,(oth e (m4 e4)).trans e1,hp,hd,e2,e3,e4,
  ui _ e5 (uj (uf e6 _)),uf e6 _,by simp [z3]⟩ fun b o z nf=>⟨o.slots,(oth b (nT b o z nf)).trans z⟩)
theorem passA(st:Stable P)(hfr:A.frames=some (env :: outer))(hf:env.frame=some L)(x:Fly base (env :: outer) e P fl s.heap)
  (k:∀h',Fly base outer e P .none h'->s.heap.UpToSlots h'->Q () {s with heap:=h'}):wpAny M A (leaving env (.ref e)) Q E s:=by
 unfold leaving;refine g8 (noteA st hfr hf x fun h' y u=>off y fun h2 z u2=>?_);obtain⟨y1,y2,⟨_,_,y3⟩,y4⟩:=z;exact k h2 ⟨y1,y2,y3,y4⟩ (u.trans u2)
theorem onward{what:String}{ev:Env}{Q:Value->Shared->Prop}(x:Fly base l e P fl s.heap)(k:∀h' fl',Fly base l e P fl' h'->s.heap.UpToSlots h'->E (.ref e) {s with heap:=h'}): wpAny M A (passOn what (.ref e) ev:Sem Value) Q E s:=by
 obtain⟨hkb,hen,hl,ob,ws,T,ot,us,e1,hp,hd,e2,e3,e4,e5,e6,e7⟩:=id x;unfold passOn;refine g8 (td e1 hd e2 ?_);rw [ma (show ¬((Value.ref T==Value.none)=true) by simp)];refine g8 (qrd ev.frame x fun h' y u=>?_);exact wpAny_throw (k h' _ y u)
theorem note_env{e1 e2:Env}(h:e1.frame=e2.frame)(x:Value): noteFrame x e1=noteFrame x e2:=by
 unfold noteFrame frameOf;rw [h]
end
end Fl
namespace L2
open PySem PySem.Spec PyProof.Rows DL
def XW(X:Cx)(Ex:XK): Value->Shared->Prop:=fun e s1=>∃p σ1 H1 s2,Inv X p σ1 H1 s2/\CXR X.prog X.w X.stack H1 s2 Ex e s1
section
variable{prog:Program}{w:World}{A:Around}{R:Result->Shared->Prop}{s:Shared}{XE:Value->Shared->Prop}
theorem qcj{elt target iter:Expr}{scope:Scope}{pos:Pos}{it acc:Value}{env:Env}(hX:∀e s1,XE e s1->notedBy (model prog w) A env (fun e s''=>R (.error e) s'') e s1)(I:Nat->Shared->Prop)
  (turn:∀n s,I n s->wpAny (model prog w) A (pyNext it) (fun r s₁=>match r with
   | none=>R (.ok .next) s₁
   | some v=>wpAny (model prog w) A (letOwnedTupleGo target it v) (fun _ s'=>wpAny (model prog w) A (assign target env v) (fun _ s₂=>
     wpAny (model prog w) A (eval elt env) (fun x s₄=>
       wpAny (model prog w) A (call (.builtin "list.append") [acc,x]) (fun _ s₅=>∃m,m<n/\I m s₅) (fun _ _=>False) s₄) XE s₂) (fun _ _=>False) s') (fun _ _=>False) s₁) (fun _ _=>False) s)
  (n:Nat) (h:I n s) :
  codeAny (model prog w) A (.compLoop (.ListComp elt [⟨target,iter,[],0⟩] scope pos) 0 it acc env) R s:=by
 refine codeAny_loop rfl I (fun n s hI=>?_) n h;show wpAny _ A ((compTurn (.ListComp elt [⟨target,iter,[],0⟩] scope pos) 0 it acc env).onRaise (fun x=>do noteFrame x env;theTreesLotGoes x)) _ _ s;refine wpAny_noted ?_;rw [compTurn_list1];refine g8 (g1o (g8 (me (turn n s hI) (fun r s₁ h₁=>?_) fun _ _ h'=>h'.elim)));cases r with
 | none=>exact gf h₁
 | some v=>
  refine g8 (me h₁ (fun _ s' h'=>?_) fun _ _ h'=>h'.elim);refine g8 (me h' (fun _ s₂ h₂=>?_) fun _ _ h'=>h'.elim);exact g8 (g8 (me h₂ (fun x s₄ h₄=>g8 (me h₄ (fun _ s₅ h₅=>gf (gf ⟨rfl,h₅⟩)) fun _ _ h'=>h'.elim)) fun e s1 h'=>hX e s1 h'))
end
section
variable{X:Cx}{N':List Str}{scope:Scope}{cap:List (Option Nat)}{tg iter elt:Expr}{wi:TI}{g:TG}{te:TE}{pos:Pos}
theorem qg6{cl:List (Str×Addr)}{pins:List (Addr×Obj)}{s:Shared}{σ : St}{H:Hp}{it:Addr}{fp:List Addr}{tn:Nat->Heap->Prop}{J:It}{E:Value->Shared->Prop}{K:Addr->Hp->Prop}
  {RR:Value->Addr->Result->Shared->Prop} {Ex:XK} (hc:X.calm=true) (co:CapOk X N' scope cap)
  (h1:∀x c,cl.lookup x=some c->X.env.cells.lookup x=some c) (h2:∀y∈scope.names,y.2=.free->∃c,cl.lookup y.1=some c)
  (hg:∀cl C s₀ H₀ fp,PG (zl X N' scope cl C s₀ H₀ fp) tg g) (he:∀cl C s₀ H₀ fp,PE ((zl X N' scope cl C s₀ H₀ fp).wish (XW (zl X N' scope cl C s₀ H₀ fp) Ex)) elt te)
  (I:Inv X pins σ H s) (T:Turn X.prog X.w X.K tg J fp it tn) (st:tn 0 s.heap) (hf:∀b∈fp,q01 X pins H b) (h:∀p,H p=none->qjh J cap g tTrue te σ H p (K p))
  (hRR:∀(D C:Addr) (s':Shared) (H':Hp),s.heap.objs.size<=C->(∃m,s'.heap.Ns C m)->(∀h',Heap.SameBut C s'.heap h'->Inv X pins σ H' {s' with heap:=h'})->H' C=none->K D H'->RR (.ref D) C (.ok .next) s')
  (hEr:∀(D:Addr) (sC:Shared) (HC:Hp) (e:Value) (s1:Shared),Inv X pins σ HC sC->(∀b∈fp,q01 X pins HC b)->XW (zl X N' scope cl sC.heap.objs.size sC HC fp) Ex e s1->notedBy (model X.prog X.w) X.A (compEnvC scope cl sC.heap.objs.size X.env) (fun e s''=>RR (.ref D) sC.heap.objs.size (.error e) s'') e s1) :
  wpAny (model X.prog X.w) X.A (newList []) (fun acc s₃=>wpAny (model X.prog X.w) X.A (newFunctionEnv scope X.env.globals cl [] X.env.qual none .none (some X.env)) (fun cenv s₄=>
   codeAny (model X.prog X.w) X.A (.compStart (.ListComp elt [⟨tg,iter,[],0⟩] scope pos) 0 (.ref it) acc {cenv with scope:=relabel scope X.env}) (RR acc cenv.locals) s₄) E s₃) E s:=by
 refine pj (wpAny_newFunctionEnv co.cell (by intro y hy;simp at hy) (fun hh hns hsb=>?_) co.kind);have hD:H s.heap.objs.size=none:=I.fresh;have I3:Inv X pins σ (upd H s.heap.objs.size (.lst [])) {s with heap:=s.heap.push {cls:=.type "list",dict:=none,data:=.seq ([]:List Value).toArray} }:=I.lnew (ys:=[]) (its:=[]) (t':=s.toks) .nil (pz _);obtain⟨W,⟨m0,w0⟩,turn⟩:=h s.heap.objs.size hD;have fobj:∀b∈fp,∃o,s.heap.get? b=some o:=fun b hb=>let⟨o,e,_⟩:=T.obj 0 _ st b hb; ⟨o,e⟩
 generalize e3:({s with heap:=s.heap.push {cls:=.type "list",dict:=none,data:=.seq ([]:List Value).toArray} }:Shared)=s3 at I3;have es3:s3.heap=s.heap.push {cls:=.type "list",dict:=none,data:=.seq ([]:List Value).toArray}:=by rw [<- e3]
 have eC:(s.heap.push {cls:=.type "list",dict:=none,data:=.seq ([]:List Value).toArray}).objs.size=s3.heap.objs.size:=by rw [es3]
 have hf3:∀b∈fp,q01 X pins (upd H s.heap.objs.size (.lst [])) b:=fun b hb=>by
  obtain⟨f0,f1⟩:=hf b hb;obtain⟨o,e⟩:=fobj b hb;exact⟨by rw [qu (mj (gv e))];exact f0,f1⟩
 have kp:∀b o,s3.heap.get? b=some o->hh.get? b=some o:=fun b o e=>by
  refine hsb.extBut b o ?_ (gb _ (by rw [<- es3];exact e));show b≠(s.heap.push {cls:=.type "list",dict:=none,data:=.seq ([]:List Value).toArray}).objs.size;rw [eC];exact mj (gv e)
 have hle:s.heap.objs.size<=s3.heap.objs.size:=by rw [es3,g19];exact g0u _
 have s3e:∀t:Nat,({s with heap:=hh,toks:=t}:Shared) = {s3 with heap:=hh,toks:=t}:=fun t=>by rw [<- e3]
 have I4:Inv (zl X N' scope cl s3.heap.objs.size s3 (upd H s.heap.objs.size (.lst [])) fp) [] (q7f cap σ) (upd H s.heap.objs.size (.lst [])) {s3 with heap:=hh,toks:=s.toks+([]:List (Str×Value)).length}:=
  qbk I3 co h1 h2 hf3 (fun b hb=>let⟨o,e⟩:=fobj b hb; ⟨o,by rw [es3];exact gb _ e⟩) (by rw [<- eC];exact hns) kp
 have st4:tn 0 hh:=T.keep 0 _ _ st fun b hb o e=>kp b o (by rw [es3];exact gb _ e);have etk:s3.toks+([]:List (Str×Value)).length=s.toks+([]:List (Str×Value)).length:=by rw [<- e3]
 show codeAny (model X.prog X.w) X.A (.compStart (.ListComp elt [⟨tg,iter,[],0⟩] scope pos) 0 (.ref it) (.ref s.heap.objs.size) (compEnvC scope cl s3.heap.objs.size X.env)) (RR (.ref s.heap.objs.size) s3.heap.objs.size)
  {s3 with heap:=hh,toks:=s3.toks+([]:List (Str×Value)).length}
 rw [etk];generalize eX:zl X N' scope cl s3.heap.objs.size s3 (upd H s.heap.objs.size (.lst [])) fp=X' at I4;have hg':PG X' tg g:=by rw [<- eX];exact hg _ _ _ _ _
 have he':PE (X'.wish (XW X' Ex)) elt te:=by rw [<- eX];exact he _ _ _ _ _
 have eenv:X'.env=compEnvC scope cl s3.heap.objs.size X.env:=by rw [<- eX]
 have exe:X'.xe=fun _ _=>False:=by rw [<- eX]
 have eex:X'.ex=fp:=by rw [<- eX]
 have eprog:X'.prog=X.prog:=by rw [<- eX]
 have ew:X'.w=X.w:=by rw [<- eX]
 have eK:X'.K=X.K:=by rw [<- eX]
 have eA:X'.A=X.A:=by rw [<- eX]
 have ecalm:X'.calm=true:=by rw [<- eX];exact hc
 have epn:X'.pn=[]:=by rw [<- eX]
 have eloc:X'.env.locals=s3.heap.objs.size:=by rw [eenv];rfl
 have ok':=I4.ok;have stat:∀ {H':Hp},(∀b∈fp,H' b=none)->∀b∈fp,q01 X' [] H' b:=fun hn b hb=>by
  have hbx:b∈X'.ex:=by rw [eex];exact hb
  exact⟨hn b hb,(ok'.exf b hbx).1,ok'.exfs b hbx,.inl hbx,(ok'.exf b hbx).2,fun p hp=>by rw [epn] at hp;cases hp⟩
 have back:∀ {σ':St} {H':Hp} {s':Shared},Inv X' [] σ' H' s'->K s.heap.objs.size H'->RR (.ref s.heap.objs.size) s3.heap.objs.size (.ok .next) s':=fun {σ' H' s'} J' k=>by
  refine hRR _ _ _ H' hle ?_ (fun h' hs'=>?_) ?_ k
  ·obtain⟨m,hm,_⟩:=J'.loc
   exact⟨m,by rw [<- eloc];exact hm⟩
  ·rw [<- eX] at J'
   exact q4e I3 hf3 J' hs'
  ·rw [<- eloc];exact J'.free
 have loop:codeAny (model X.prog X.w) X.A (.compLoop (.ListComp elt [⟨tg,iter,[],0⟩] scope pos) 0 (.ref it) (.ref s.heap.objs.size) (compEnvC scope cl s3.heap.objs.size X.env)) (RR (.ref s.heap.objs.size) s3.heap.objs.size)
   {s3 with heap:=hh,toks:=s.toks+([]:List (Str×Value)).length}:=by
  refine qcj (XE:=XW X' Ex) (fun e s1 h1=>by rw [<- eX] at h1;exact hEr _ s3 _ e s1 I3 hf3 h1) (fun n s'=>∃i σ' H',Inv X' [] σ' H' s'/\tn i s'.heap/\(∀b∈fp,H' b=none)/\W i n σ' H') ?_ m0 ⟨0,_,_,I4,st4,fun b hb=>(hf3 b hb).1,w0⟩
  rintro n s5 ⟨i, σ5,H5,I5,st5,fr5,w5⟩
  rw [<- eenv];rcases turn i n σ5 H5 w5 with⟨stop,qn⟩|⟨go,step⟩
  ·have:=T.done X' eprog ew eK ecalm i [] s5 σ5 H5 (fun _ _=>False) I5 (stat fr5) st5 stop
   rw [eA] at this;refine thn this fun r s6 ⟨hr,I6⟩=>?_;subst hr;exact back I6 qn
  ·have:=T.item X' eprog ew eK ecalm i [] s5 σ5 H5 (fun _ _=>False) I5 (stat fr5) st5 go
   rw [eA] at this;refine thn this fun r s6 ⟨u,hr,h6⟩=>?_;subst hr;refine thn h6 fun _ s7 ⟨x,H7,I7,r7,y7,st7,fr7⟩=>?_;have I7':=I7.pinned (stat fr7) (T.obj _ _ st7);have hg2:=hg' _ s7 σ5 H7 x u _ I7' r7 (step x H7 y7);rw [exe,eprog,ew,eA] at hg2;refine thn hg2 fun _ s8 ⟨σ8,H8,I8,q8⟩=>?_;have again:∀ {H':Hp} {s':Shared} {m':Nat},Inv X' ([]++q1w fp s7.heap) σ8 H' s'->m'<n->W (i+1) m' σ8 H'->∃m,m<n/\∃i σ' H',Inv X' [] σ' H' s'/\tn i s'.heap/\(∀b∈fp,H' b=none)/\W i m σ' H':=fun {H' s' m'} J' hm w'=>by
    refine⟨m',hm,i+1, σ8,H',J'.unpinned,T.keep _ _ _ st7 fun b hb o e=>(J'.pin (b,o) (m9 _ (m9 _ (wm hb e)))).1,fun b hb=>?_,w'⟩;obtain⟨o,e,d⟩:=T.obj _ _ st7 b hb;exact(J'.pin (b,o) (m9 _ (m9 _ (wm hb e)))).2.1
   have q9:=q8;simp only [tTrue,pd] at q9;have he2:=he' _ s8 σ8 H8 _ (I8.wish _) q9;rw [show(X'.wish (XW X' Ex)).prog=X.prog from eprog,show(X'.wish (XW X' Ex)).w=X.w from ew,show(X'.wish (XW X' Ex)).A=X.A from eA] at he2;refine thn he2 fun y s10 ⟨yv,H10,I10,r10,xs,hp,hz,m',hm,w'⟩=>?_;have I10:=I10.unwish;have ha2:=q5c (X:=X') ([]++q1w fp s7.heap) s10 σ8 H10 (.ref s.heap.objs.size) [yv] (.ref s.heap.objs.size) [y] (fun _ H'=>H'=upd H10 s.heap.objs.size (.lst (xs++[yv]))) I10 rfl (.cons r10 .nil) ⟨_,xs,yv,rfl,rfl,hp,hz,rfl⟩;rw [exe,eprog,ew,eA] at ha2;refine thn ha2 fun _ s11 ⟨_,H11,I11,_,e11⟩=>?_;subst e11;exact again I11 hm w'
 exact codeAny_compStart_list loop (T.self _ 0 _ _ _ st4 loop)
end
end L2
namespace DL
open PySem PySem.Spec PyProof.Rows L2
theorem qes{h h' B:Heap}{C:Addr}(sb:Heap.SameBut C h h'): ∀ {l:List Env},h.FunFrames B l->(∀b∈frs l,b≠C)->h'.FunFrames (PySem.W.hideAll B [C]) l
 | [],_,_=>trivial
 | env :: l,⟨hk,⟨L,o,hf,hn,ho,hd⟩,hr⟩,hC=>by
  have hLC:L≠C:=hC L (by unfold frs;rw [g03,hf];exact gd);refine⟨hk,⟨L,o,hf,?_,(sb.2 L hLC).trans ho,hd⟩,qes sb hr fun b hb=>hC b ?_⟩
  ·cases q:(PySem.W.hideAll B [C]).get? L with
   | none=>rfl
   | some u=>have:=g12 _ q;rw [hn] at this;cases this
  ·unfold frs at hb ⊢
   rw [g03,hf];exact gi _ hb
section
variable{P:Program}{w:World}{K:Frag}{mg:Str->Option Value}{base:Heap}{N:List Str}{qual:Str}{scope:Scope}{f:Addr}{cd:Value}{A:Around}{outer:List Env}{s0:Shared}{H0:Hp}{E:XK}
variable{pins:List (Addr×Obj)}{σ : St}
theorem qii{X:Cx}{p:List (Addr×Obj)}{σ : St}{H:Hp}{s:Shared}(I:Inv X p σ H s): Inv X [] σ H s:=
 ⟨I.ok,I.os,I.bare,I.base,I.loc,I.cell,I.free,I.freeC,fun q hq=>I.pin q (by rw [my] at hq;exact ur _ hq),I.hok,I.len⟩
theorem qmt{N':List Str}{sc:Scope}{cl:List (Str×Addr)}{fp:List Addr}{sC:Shared}{HC:Hp}{e:Value}{s1:Shared}{acc:Value}{Q:Value->Shared->Prop}
  (I3:Inv (qv (CXR P w) P w K mg base N qual scope f cd A outer s0 H0 E) pins σ HC sC) (hf3:∀b∈fp,q01 (qv (CXR P w) P w K mg base N qual scope f cd A outer s0 H0 E) pins HC b)
  (h:XW (zl (qv (CXR P w) P w K mg base N qual scope f cd A outer s0 H0 E) N' sc cl sC.heap.objs.size sC HC fp) E e s1) :
  notedBy (model P w) (A.deeper (envOfC qual scope s0.heap.objs.size f cd)) (compEnvC sc cl sC.heap.objs.size (envOfC qual scope s0.heap.objs.size f cd))
   (fun e s''=>compPost (model P w) (A.deeper (envOfC qual scope s0.heap.objs.size f cd)) (qv (CXR P w) P w K mg base N qual scope f cd A outer s0 H0 E).xe none Q acc sC.heap.objs.size (.error e) s'') e s1:=by
 obtain⟨p, σ1,H1,s2,J,os,bare,B,H2,a,Cc,od,rfl,hfl,hun,hna,hH2,q⟩:=h;have J:=qii J;have I:=q4e I3 hf3 J (Heap.SameBut.refl _ _);have hJfree:H1 sC.heap.objs.size=none:=J.free;obtain⟨m,hm,_⟩:=J.loc;obtain⟨oC,es,ep,hoC,hdC,hkC,hmC⟩:=id hm;have hoC:s2.heap.get? sC.heap.objs.size=some oC:=hoC;have nfC:∀vs,oC.data ≠ .fields vs:=fun vs z=>by rw [hdC] at z;cases z
 have hfrC:∀b∈frs (envOfC qual scope s0.heap.objs.size f cd :: outer),b≠sC.heap.objs.size:=fun b hb z=>by
  obtain⟨_,o,ho,_⟩:=I3.stack.mem hb;rw [z] at ho;exact absurd (gv ho) (p8 _)
 have nx:∀ {b:Addr},b∉([]:List Addr):=fun {b} z=>by cases z
 have haC:a≠sC.heap.objs.size:=fun z=>by rw [z,hoC] at hna;cases hna
 show wpAny _ _ (noteFrame (.ref a) (compEnvC sc cl sC.heap.objs.size (envOfC qual scope s0.heap.objs.size f cd))) _ _ s1;rw [Fl.note_env (e1:=compEnvC sc cl sC.heap.objs.size (envOfC qual scope s0.heap.objs.size f cd)) (e2:=envOfC qual scope s0.heap.objs.size f cd) rfl];refine Fl.noteA PX.st I3.ok.frames rfl hfl fun h3 x3 u3=>?_;have hC3:h3.get? sC.heap.objs.size=some oC:=(hun h3 x3.1 u3).1.keep _ oC hoC hJfree (fun z=>hfrC _ z rfl) nx;refine⟨m,⟨oC,es,ep,hC3,hdC,hkC,hmC⟩,fun h' sb cenv hcl=>?_⟩;obtain⟨hkb,hen,hl,ob,ws,T,ot,us,e1,hp,hd,e2,e3,e4,e5,e6,e7⟩:=x3;have hTC:T≠sC.heap.objs.size:=fun z=>by rw [z,hC3] at e5;cases e5;exact nfC us e6
 have hide_of:∀b o,(PySem.W.hideAll B [sC.heap.objs.size]).get? b=some o->B.get? b=some o/\b≠sC.heap.objs.size:=fun b o z=>⟨g12 _ z,fun y=>by rw [y,g1w _ gd] at z;cases z⟩
 have hide_none:∀b,B.get? b=none->(PySem.W.hideAll B [sC.heap.objs.size]).get? b=none:=fun b z=>by
  cases y:(PySem.W.hideAll B [sC.heap.objs.size]).get? b with
  | none=>rfl
  | some o=>rw [(hide_of b o y).1] at z;cases z
 have x3':Fl.Fly (PySem.W.hideAll B [sC.heap.objs.size]) (envOfC qual scope s0.heap.objs.size f cd :: outer) a (PX Cc od) (rawInt s0.heap.objs.size) h':=
  ⟨fun b o z=>let⟨z1,z2⟩:=hide_of b o z;(sb.2 b z2).trans (hkb b o z1),hide_none a hen,qes sb hl hfrC,ob,ws,T,ot,us,(sb.2 a haC).trans e1,hp,hd,e2,hide_none T e3,e4,(sb.2 T hTC).trans e5,e6,e7⟩
 refine Fl.onward (s:={s1 with heap:=h'}) x3' fun h4 fl' x4 u4=>?_;show wpAny _ _ (leaving (envOfC qual scope s0.heap.objs.size f cd) (.ref a)) _ _ _;refine Fl.passA (s:={s1 with heap:=h4}) PX.st I3.ok.frames rfl x4 fun h5 x5 u5=>?_;have nl:∀b o,s0.heap.get? b=some o->b∉frs outer->b∉frs (envOfC qual scope s0.heap.objs.size f cd :: outer):=fun b o e n z=>by
  unfold frs at z;rw [q9a] at z;rcases gx.mp z with z|z
  ·rw [z] at e;exact absurd (gv e) (p8 _)
  ·exact n z
 have sC0:s0.heap.objs.size<=sC.heap.objs.size:=J.ok.above |> fun _=>I3.ok.above |> fun _=>I3.sz
 have n0:∀b o,s0.heap.get? b=some o->b≠sC.heap.objs.size:=fun b o e z=>by
  have:=gv e;rw [z] at this;exact absurd (m8 this sC0) (p8 _)
 refine⟨os.trans I.os,bare,_,H2,a,Cc,od,rfl,x5,fun h6 st6 u6=>?_,?_,hH2,q⟩
 ·have fre:({objs:= #[oC]}:Heap).get? 0=some oC:=by
   obtain⟨c1,c2,c3,c4⟩:=oC;simp only at hdC;subst hdC
   rfl
  obtain⟨h6',g1,g2⟩:=Fl.put h6 sC.heap.objs.size oC (fun b z=>by rw [fre] at z;cases z;rfl) fre;have st6':B.StaysIn h6':=fun b o z=>by
   by_cases y:b=sC.heap.objs.size
   ·subst y
    have:=hkb _ o z;rw [hC3] at this;cases this;exact g1
   ·rw [g2 b y]
    exact st6 b o (g28 _ z (by simpa using y))
  have up6:s1.heap.UpToSlots h6':=fun b o z nf=>by
   obtain⟨sl,w1⟩:=u3 b o z nf
   by_cases y:b=sC.heap.objs.size
   ·subst y
    rw [hC3] at w1;cases w1;exact⟨sl,g1⟩
   ·have w2:=(sb.2 b y).trans w1
    obtain⟨sl2,w3⟩:=u4 b _ w2 nf;obtain⟨sl3,w4⟩:=u5 b _ w3 nf;obtain⟨sl4,w5⟩:=u6 b _ w4 nf;exact⟨sl4,(g2 b y).trans w5⟩
  obtain⟨un,hok⟩:=hun h6' st6' up6;have H2C:H2 sC.heap.objs.size=none:=un.free _ oC hoC hJfree nx;refine⟨⟨fun b o e n hb _=>?_,fun b o e n hb _=>?_,fun b o e n _=>?_,fun b o e _=>?_,fun b xs e=>un.tups b xs (I.base.tups b xs e),fun b o xs e=>un.frzs b o xs (I.base.frzs b o xs e),fun b ps e=>?_⟩,fun b o z=>?_⟩
  ·rw [<- g2 b (n0 b o e)]
   exact un.keep b o (I.base.keep b o e n hb nx) (I.base.free b o e n nx) (nl b o e hb) nx
  ·obtain⟨sl,e1⟩:=I.base.slot b o e n hb nx
   obtain⟨sl',e2⟩:=un.any e1 (I.base.free b o e n nx) nx;exact⟨sl',(g2 b (n0 b o e)).symm.trans e2⟩
  ·obtain⟨o',e1⟩:=I.base.there b o e nx
   exact un.free b o' e1 (I.base.free b o e n nx) nx
  ·obtain⟨o',e1⟩:=I.base.there b o e nx
   obtain⟨o2,e2⟩:=un.there b o' e1 nx;exact⟨o2,(g2 b (n0 b o e)).symm.trans e2⟩
  ·obtain⟨m1,e1⟩:=I.base.tbls b ps e
   obtain⟨m2,e2⟩:=un.tbls b _ e1;exact⟨m1++m2,by rw [e2,g11]⟩
  ·refine(hok b o z).stay (fun c v hc r=>?_) (fun _ y=>y) fun _ _ y=>y
   rw [<- g2 c fun y=>?_]
   ·exact r
   ·rcases hc with hc|hc
    ·rw [hc] at y;rw [y,H2C] at z;cases z
    ·rw [y,H2C] at hc;cases hc
 ·cases z:s0.heap.get? a with
  | none=>rfl
  | some o=>
   obtain⟨o',e1⟩:=I.base.there a o z nx;rw [hna] at e1;cases e1
theorem qkg{N':List Str}{sc:Scope}{cap:List (Option Nat)}{tg iter elt:Expr}{wi:TI}{g:TG}{te:TE}{pos:Pos}(co:CapOk (qv (CXR P w) P w K mg base N qual scope f cd A outer s0 H0 E) N' sc cap)(hi:PI (qv (CXR P w) P w K mg base N qual scope f cd A outer s0 H0 E) tg iter wi)
  (hg:∀cl C s₀ H₀ fp,PG (zl (qv (CXR P w) P w K mg base N qual scope f cd A outer s0 H0 E) N' sc cl C s₀ H₀ fp) tg g)
  (he:∀cl C s₀ H₀ fp,PE ((zl (qv (CXR P w) P w K mg base N qual scope f cd A outer s0 H0 E) N' sc cl C s₀ H₀ fp).wish (XW (zl (qv (CXR P w) P w K mg base N qual scope f cd A outer s0 H0 E) N' sc cl C s₀ H₀ fp) E)) elt te)
  (hs:∀x,foldedSetIterable iter (qv (CXR P w) P w K mg base N qual scope f cd A outer s0 H0 E).env x=pure x:=by intro _;rfl):PE (qv (CXR P w) P w K mg base N qual scope f cd A outer s0 H0 E) (.ListComp elt [⟨tg,iter,[],0⟩] sc pos) (q84 wi cap g tTrue te):=by
 intro pins s σ H Q I h;obtain⟨cl,ecl,c1,c2⟩:=q4d (scope:=sc) (env:=(qv (CXR P w) P w K mg base N qual scope f cd A outer s0 H0 E).env) fun y hy hf=>I.ok.has y.1 (co.frees y hy hf);rw [eval_ListComp];refine g16 (use:=none) rfl hs ecl co.kind co.names (me (hi pins s σ H _ I h) (fun v s1 h1=>me h1 (fun itv s2 h2=>?_) fun _ _ e=>e) fun _ _ e=>e);obtain⟨it,fp,tn,J,H2,rfl,I2,T,st2,f2,h2⟩:=h2;refine qg6 (Ex:=E) (K:=fun p=>Q (.ref p)) (RR:=fun acc C=>compPost (model P w) (A.deeper (envOfC qual scope s0.heap.objs.size f cd)) (qv (CXR P w) P w K mg base N qual scope f cd A outer s0 H0 E).xe none (EP (qv (CXR P w) P w K mg base N qual scope f cd A outer s0 H0 E) pins σ Q) acc C) rfl co c1 c2 hg he I2 T st2 f2 h2 ?_ ?_
 ·intro D C s' H' hle ⟨m,hm⟩ hI hC q
  exact⟨m,hm,fun h' hs'=>⟨.ref D,H',hI h' hs',rfl,q⟩⟩
 ·intro D sC HC e s1 I3 hf3 hx
  exact qmt I3 hf3 hx
end
end DL
namespace DL
open PySem PySem.Spec PyProof.Rows L2
variable[Lam][Pin]
def q0f(b:FB)(f:FE)(v:FX)(ρ : Rho): List D->Option XV
 | []=>none
 | d :: ds=>(b d ρ).bind fun ρ1=>match v ρ1 with
  | some p=>some p.1
  | none=>(f ρ1).bind fun _=>q0f b f v ρ ds
def q4r(it:FA)(cap:List (Option Nat))(b:FB)(f:FE)(v:FX): FX:=fun ρ =>(it ρ).bind fun ds=>if ds.length<=lim then(q0f b f v (ve cap ρ) ds).map fun p=>(p, ρ) else none
abbrev tOr(K:Frag)(f:FE)(v:FX)(E:XK): TE:=fun σ H Q=>tD K f σ H Q\/tXE K v E σ H Q
theorem qmu{K:Frag}{it:FA}{cap:List (Option Nat)}{b:FB}{f:FE}{v:FX}{E:XK}{σ : St}{H:Hp}{Q:VK}(fr:q4j b cap)(h:tXE K (q4r it cap b f v) E σ H Q): q84 (tDI K it) cap (tDG K b) tTrue (tOr K f v E) σ H Q:=by
 obtain⟨F0,H0,F, ρ,p0, ρ',C,r,hf,hn,hE⟩:=h;obtain⟨ds,h1,h2⟩:=g0.mp hf;have hlim:ds.length<=lim:=g2m fun z=>by rw [ma z] at h2;cases h2
 rw [gy hlim] at h2;obtain⟨pw,h2,h2e⟩:=gr.mp h2;cases h2e;refine⟨F0,H0,F, ρ,ds,r,h1,fun J F1 H1 g1 itd p hp=>?_⟩;have rc:=qi0 cap (r.grow g1);have hF1:F1 p=none:=g1.fh.free hp;refine⟨fun i m σ H=>m=ds.length-i/\i<=ds.length/\∃F' xs,Same F1 F'/\RS K F1 H1 F' H σ (ve cap ρ)/\H p=some (.lst xs)/\F' p=none/\xs.length<=i/\q0f b f v (ve cap ρ) (ds.drop i)=some p0,
  ⟨ds.length,by simp,pz _,F1,[],.refl _,rc.other (vh cap ρ) hF1 hp (.inl hp),z7,hF1,gw _,by simpa using h2⟩,?_⟩
 rintro i m σ' H' ⟨rfl,hi,F',xs,s1,r1,hl,hnp,hxi,h3⟩
 by_cases hlt:i<ds.length
 ·have hd:ds.drop i=ds[i] :: ds.drop (i+1):=t9 hlt
  rw [hd] at h3;obtain⟨ρ1,h5,h3⟩:=g0.mp h3;obtain⟨sb,no1⟩:=fr ρ _ _ h5;refine .inr ⟨itd.go i F' H' s1 r1.fh hlt,fun x H'' y=>?_⟩;obtain⟨F2,g2,r2⟩:=itd.yld i ds[i] F' H' x H'' s1 r1.fh (by simp [hlt]) y;refine⟨F1,H1,F2,ve cap ρ,ds[i], ρ1,r1.grow g2,r2,h5,fun σ2 r3=>?_⟩;unfold tTrue;refine qje ?_;have hl2:=g2.hh.lst _ _ hl;have hn2:=q21 g2 hnp hl;cases hv:v ρ1 with
  | some q=>
   rw [hv] at h3;simp only [g1g] at h3;subst h3;exact .inr ⟨F1,H1,F2, ρ1,q.1,q.2,C,r3,hv,hn,fun F' H' σ' od rr xf=>hE F' H' σ od ((r.grow g1).grow rr.g) xf⟩
  | none=>
   rw [hv] at h3;obtain⟨yd,h7,h3⟩:=g0.mp h3;refine .inl ⟨F1,H1,F2, ρ1,yd,r3,h7,fun u F4 H4 g4 r5=>?_⟩;have hl4:=g4.hh.lst _ _ hl2;have hn4:=q21 g4 hn2 hl2;refine⟨xs,hl4,q3b (by omega),ds.length-(i+1),by omega,rfl,hlt,F4,xs++[u],(s1.trans g2.ff).trans g4.ff,?_,z7,hn4,by rw [gc,gj];omega,h3⟩;exact((r3.grow g4).weak sb).other (vh cap ρ) hn4 hp (.inr ⟨_,hl4⟩)
 ·have e:i=ds.length:=by omega
  subst e;rw [g0q] at h3;cases h3
section
variable{Z:Cx}{E:XK}{pos:Pos}
theorem qmv{k:Nat}{fn:Addr}{fd:FuncData}{ps:List Str}{sp:Sp}{p0:List (Addr×Obj)}{σ : St}{H:Hp}{s:Shared}{Q:VK}{us:List Value}{vs:List V}(G:FnOk Z.prog Z.w Z.K Z.mg Z.base (CXR Z.prog Z.w) k fn fd ps sp)(hr:Room k Z.A)(hb:Binds Z.K fd ps [])
  (I:Inv (Z.wish (XW Z E)) p0 σ H s) (rv:Vals vs us) (q:sp vs H Q E):wpAny (model Z.prog Z.w) Z.A (call (.ref fn) us) (EP (Z.wish (XW Z E)) p0 σ Q) (XW Z E) s:=by
 have hlu:us.length=ps.length:=by rw [<- rv.length];exact G.len _ _ _ _ q
 have hl':(us++[]).length=ps.length:=by rw [my];exact hlu
 have hb':=hb s us I.kIn hl';rw [my] at hb';refine ud (tf (G.run Z.A Z.stack s H ⟨us,[]⟩ us vs _ _ hr I.env0 hb' rv q) fun rr s' hq=>?_);cases rr with
 | error e1=>exact⟨p0, σ,H,s,I.unwish,hq⟩
 | ok fl=>
  cases fl with
  | ret u=>exact I.after hq
  | next=>exact False.elim hq
  | brk=>exact False.elim hq
  | cont=>exact False.elim hq
theorem qmw{k k' ar:Nat}{fn:Addr}{fd:FuncData}{ps:List Str}{op:List D->Option XV}{x:Str}{p:Pos}{e:Expr}{es:List Expr}{fa:FA}(G:FnOk Z.prog Z.w Z.K Z.mg Z.base (CXR Z.prog Z.w) k fn fd ps (spR Z.K ar op))(hr:Room k' Z.A)(hk':k<=k')(hg:Gl Z x)(hm:Z.mg x=some (.ref fn))(hk:PySem.W.keepIn Z.K (.ref fn)=true)(hb:Binds Z.K fd ps [])
  (ha:PA (Z.wish (XW Z E)).nox (e :: es) (tDA Z.K fa)) (hdb:(x==("__debug__" : Str))=false:=by decide) (he:starEach (e :: es) Z.env=(false,eval e Z.env) :: starEach es Z.env:=by rfl) (hpl:(backTo pos (starEach es Z.env)).any (·.1)=false:=by rfl) :
  PE (Z.wish (XW Z E)) (.Call (.Name x p) (e :: es) [] pos) (tXE Z.K (ya ar op fa) E):=by
 intro q0 s σ H Q I ⟨F0,H0,F, ρ,y, ρ',C,r,hv,hn,hE⟩;obtain⟨ds,h1,h2⟩:=g0.mp hv
 split at h2
 ·rename_i hl
  obtain⟨p',h3,h4⟩:=gr.mp h2;cases h4;refine t6 (wk I hg hm ?_ hdb);refine g09 (h₀:=Z.base) I.ok.mod.kin hk (me (ha pos q0 s σ H (fun vs H1=>spR Z.K ar op vs H1 Q E) (I.wish _) ⟨F0,H0,F, ρ,ds,r,h1,fun vs F1 H1 g rl=>⟨F1,ds,y,C,r.sameT g,rl,hl,h3,hn,fun F2 H2 od g2 xf=>hE F2 H2 σ od ((r.grow g).grow g2) xf⟩⟩) (fun us s1 ⟨vs,H1,I1,rv,q⟩=>⟨I1.kIn,?_⟩) fun _ _ z=>False.elim z) he hpl;exact qmv G (hr.mono hk') hb (I1.unwish) rv q
 ·cases h2
end
section
variable{P:Program}{w:World}{K:Frag}{mg:Str->Option Value}{base:Heap}{N:List Str}{qual:Str}{scope:Scope}{f:Addr}{cd:Value}{A:Around}{outer:List Env}{s0:Shared}{H0:Hp}{E:XK}
theorem qmx{N':List Str}{sc:Scope}{cap:List (Option Nat)}{tg iter elt:Expr}{it:FA}{b:FB}{fe:FE}{v:FX}{pos:Pos}(co:CapOk (qv (CXR P w) P w K mg base N qual scope f cd A outer s0 H0 E) N' sc cap)(fr:q4j b cap)(hi:PI (qv (CXR P w) P w K mg base N qual scope f cd A outer s0 H0 E) tg iter (tDI K it))
  (hg:∀cl C s₀ H₀ fp,PG (zl (qv (CXR P w) P w K mg base N qual scope f cd A outer s0 H0 E) N' sc cl C s₀ H₀ fp) tg (tDG K b))
  (he:∀cl C s₀ H₀ fp,PE (zl (qv (CXR P w) P w K mg base N qual scope f cd A outer s0 H0 E) N' sc cl C s₀ H₀ fp) elt (tD K fe))
  (hx:∀cl C s₀ H₀ fp,PE ((zl (qv (CXR P w) P w K mg base N qual scope f cd A outer s0 H0 E) N' sc cl C s₀ H₀ fp).wish (XW (zl (qv (CXR P w) P w K mg base N qual scope f cd A outer s0 H0 E) N' sc cl C s₀ H₀ fp) E)) elt (tXE K v E))
  (hs:∀x,foldedSetIterable iter (qv (CXR P w) P w K mg base N qual scope f cd A outer s0 H0 E).env x=pure x:=by intro _;rfl):PE (qv (CXR P w) P w K mg base N qual scope f cd A outer s0 H0 E) (.ListComp elt [⟨tg,iter,[],0⟩] sc pos) (tXE K (q4r it cap b fe v) E):=
 j3 (qkg co hi hg (fun cl C s₀ H₀ fp=>by
  intro pins s σ H Q I h;rcases h with h|h
  ·have:=he cl C s₀ H₀ fp pins s σ H Q I.unwish h
   exact me this (fun _ _ ⟨v,H',I',r,q⟩=>⟨v,H',I'.wish _,r,q⟩) fun _ _ z=>False.elim z
  ·exact hx cl C s₀ H₀ fp pins s σ H Q I h) hs) fun σ H Q h=>qmu fr h
end
structure CalH(P:Program)(w:World)(K:Frag)(mg:Str->Option Value)(base:Heap)(x:Str)(k:Nat)(ps:List Str)(ar:Nat)(op:List D->Option D)(fn:Addr)(fd:FuncData): Prop where
 len:ps.length=ar
 run:∀(A:Around) (a:Addr) (outer:List Env) (s:Shared) (H:Hp) (args:Args) (us:List Value) (vs:List V) (Q:VK),Room k A->Env0 P w K mg base A outer s H->BindsTo s fd args (ps.zip us)->Vals vs us->spD K ar op vs H Q E0 ->
  codeAny (model P w) (A.mark (some (.ref a))) (.call (.ref fn) args) (CR CX0 outer P w H s Q E0) s
 mg:mg x=some (.ref fn)
 kp:PySem.W.keepIn K (.ref fn)=true
section
variable{P:Program}{w:World}{K:Frag}{mg:Str->Option Value}{base:Heap}{x qual:Str}{st:Stmt}{dV:Value}{f:Addr}{fd:FuncData}{N ps:List Str}
theorem Fun2.okH{k n ar k1:Nat}{u:FS}(F:Fun2 K x qual st dV f fd)(S:FnScope N ps (qj st))(hn:N.length=n)(ha:ps.length=ar)(hk:k+1=k1)(hm:mg x=some (.ref f))
  (hb:∀(cdv:Value) (A:Around) (outer:List Env) (s:Shared) (H:Hp) (E:XK) (a:Addr),Room k (A.deeper (envOfC qual (qj st) s.heap.objs.size f cdv))->PSs (inX (qv CX0 P w K mg base N qual (qj st) f cdv A outer s H E).nox a) (za st) (tDS K u)) :
  CalH P w K mg base x k1 ps ar (j6 n u) f fd:=by
 subst hn ha hk;obtain⟨oc,od,kV,doc,pm,an,cdv,ct,osl,rfl,lk,hcd⟩:=F.ex;have hpl:ps.length<=N.length:=by have:=n6 List.length S.pre;rw [mf] at this;omega
 refine⟨rfl,fun A a outer s H args us vs Q hr e0 hbt r hsp=>?_,hm,F.kp⟩;have hl:vs.length=ps.length:=by
  obtain⟨F,ds,d,_,rl,el,_⟩:=id hsp;rw [<- rl.length];exact el
 have KX:K.In s.heap:=e0.mod.kin.keeps fun b o e=>(e0.bs b o e).1;have lim:s.heap.NoLimit:=e0.mod.nolimit.keeps fun b o e=>(e0.bs b o e).1;have hkind:∀y∈ps.zip us,(qj st).names.lookup y.1=some .local\/((qj st).names.lookup y.1=some .cell/\((cellsFrom (s.heap.objs.size+1) (qj st).names []).lookup y.1).isSome=true):=fun⟨n,v⟩ hy=>by
  rcases S.par n (g0y hy).1 with q|q
  ·exact .inl q
  ·exact .inr ⟨q,g1j _ _ _ (.inl q)⟩
 refine codeAny_call_function (A:=A.mark (some (.ref a))) hr.depth (KX _ _ lk) rfl S.co S.gen rfl (PySem.W.codeRec_of KX hcd) (hbt _ _ _ _ ?_);refine wpAny_newFunctionEnv_cells S.kind hkind fun env he s1 y=>?_;subst he;refine⟨lim.keeps y.toInCall.keep,codeAny_func ?_⟩;have hq:=qhx (P:=P) (w:=w) hpl hsp;have I0:Inv (qv CX0 P w K mg base N qual (qj st) f cdv A outer s H E0) [] (start N vs) H s1:=qa4 S hr.hd e0 hl r y;have I:Inv (inX (qv CX0 P w K mg base N qual (qj st) f cdv A outer s H E0).nox a) [] (start N vs) H s1:=q9b (I0.wish _);have ht:=hb cdv A outer s H E0 a (hr.deeper _) [] s1 (start N vs) H _ I hq;refine me (Q:=SP (inX (qv CX0 P w K mg base N qual (qj st) f cdv A outer s H E0).nox a) [] _) ht (fun fl s' hs=>?_) fun e s' hs=>False.elim hs;have fin:∀ {σ':St} {H':Hp} {v:V} {u:Value},Inv (inX (qv CX0 P w K mg base N qual (qj st) f cdv A outer s H E0).nox a) [] σ' H' s'->RelV v u->Q v H'->CE outer P w H s Q u s':=
  fun {σ' H' v u} J rv q=>⟨v,H',J.os,J.bare,J.base,J.hok,rv,q⟩
 cases fl with
 | ret u=>
  obtain⟨v, σ',H',J,rv,q⟩:=hs;exact fin J rv q
 | next=>
  obtain⟨σ',H',J,q⟩:=hs;exact fin (v:=V.non) (u:=Value.none) J rfl q
 | brk=>
  obtain⟨_,_,_,q⟩:=hs;exact False.elim q
 | cont=>
  obtain⟨_,_,_,q⟩:=hs;exact False.elim q
end
section
variable{X:Cx}{e:Expr}{es:List Expr}{pos p:Pos}{fa:FA}{k ar k':Nat}{fn a:Addr}{fd:FuncData}{ps:List Str}{op:List D->Option D}{x:Str}
theorem qet(C:CalH X.prog X.w X.K X.mg X.base x k ps ar op fn fd)(b:Binds X.K fd ps [])(hr:Room k' X.A)(hk:k<=k')(hg:Gl X x)(ha:PA (inX X a) (e :: es) (tDA X.K fa))(hdb:(x==("__debug__" : Str))=false:=by decide)
  (he:starEach (e :: es) X.env=(false,eval e X.env) :: starEach es X.env:=by rfl) (hpl:(backTo pos (starEach es X.env)).any (·.1)=false:=by rfl):PE (inX X a) (.Call (.Name x p) (e :: es) [] pos) (tD X.K (qk (qq ar [] op) fa)):=by
 intro q0 s σ H Q I ⟨F0,H0,Fz, ρ,d,r,hf,q⟩;obtain⟨ds,h1,h2⟩:=g0.mp hf;unfold qq at h2
 split at h2
 ·rename_i hl
  rw [my] at h2 hl;refine t6 (wk I hg C.mg ?_ hdb);refine g09 (h₀:=X.base) I.ok.mod.kin C.kp (me (ha pos q0 s σ H (fun vs H1=>spD X.K ar op vs H1 Q E0) I ⟨F0,H0,Fz, ρ,ds,r,h1,fun vs F1 H1 g1 r1=>⟨F1,ds,d,r.sameT g1,r1,hl,h2,fun v F2 H2 g2 r2=>q v F2 H2 (g1.trans g2) r2⟩⟩) (fun us s1 ⟨vs,H1,I1,rv,q⟩=>⟨I1.kIn,?_⟩) fun _ _ z=>z) he hpl;have hlu:us.length=ps.length:=by
   obtain⟨F,ds,d,_,rl,el,_⟩:=id q;rw [<- rv.length, <- rl.length,el,C.len]
  have hl':(us++[]).length=ps.length:=by rw [my];exact hlu
  have hb':=b s1 us I1.kIn hl';rw [my] at hb';have e1:=I1.env0;refine ud (tf (C.run X.A a X.stack s1 H1 ⟨us,[]⟩ us vs _ (hr.mono hk) ⟨e1.frames,e1.mod,e1.bs,e1.bsz,e1.funs,e1.frf,e1.hok,e1.bare⟩ hb' rv q) fun rr s' hq=>?_);cases rr with
  | error e1=>exact False.elim hq
  | ok fl=>
   cases fl with
   | ret u=>exact I1.after hq
   | next=>exact False.elim hq
   | brk=>exact False.elim hq
   | cont=>exact False.elim hq
 ·cases h2
end
end DL
namespace My
open PySem PySem.Spec PyProof.Rows L2 DL
local macro_rules | `(tactic| walk_at "A")=> `(tactic| ((refine qm1 (hs:=?hs) ?a ?_);(case hs=>exact q6g rfl)))
local macro_rules | `(tactic| walk_at "L")=> `(tactic| first|exact .inl rfl|exact .inr rfl|assumption)
def top(i:Nat): Stmt:=PySem.Challenge.pw_oftentogether_k73_no_text.main.body.getD i (.Pass ⟨0,0,0,0⟩)
def qre(i j:Nat): Stmt:=match top i with | .ClassDef _ _ _ body _ _ _ _ _ _ _=>body.getD j (.Pass ⟨0,0,0,0⟩)|x=>x
section
variable[Lam]{P:Program}{w:World}{K:Frag}{mg:Str->Option Value}{base:Heap}
abbrev j4:Stmt:=qre 8 0
noncomputable def ku:List Str:=["self","most"]
theorem q4s:(ku).Nodup:=by decide +kernel
theorem q4t:FnScope ku ["self","most"] (qj j4):=⟨rfl,rfl,rfl,q4s,rfl,by decide +kernel,by decide +kernel⟩
theorem q4u{fa:Addr}{cdv:Value}{A:Around}{outer:List Env}{s:Shared}{H:Hp}{E:XK}{C_OftenError:Addr}(m_OftenError:mg "OftenError" = some (.ref C_OftenError))(sp_OftenError:PySem.W.specialIn K (.ref C_OftenError) "__getattribute__" = some (some (.builtin "type.__getattribute__")))(rd_OftenError:PySem.W.readsIn K C_OftenError (.type "type")=true)(fc_OftenError:PySem.W.findCls K (.ref C_OftenError) (.type "type") "__init__" = some (.val (.builtin "ValueError.__init__"))){C_TooGreat:Addr}(ei_TooGreat:q03 K C_TooGreat fa=true)(ci_TooGreat:ClsI K C_TooGreat "most"):
  PSs (qv CX0 P w K mg base ku "TooGreat.__init__" (qj j4) fa cdv A outer s H E).nox (za j4) (tIn C_TooGreat "most"):=
 qkb (qmi rfl m_OftenError sp_OftenError rd_OftenError fc_OftenError ei_TooGreat (pv 0) (pv 1) (by decide) (by decide)) (qmj ci_TooGreat (pv 0) (pv 1))
theorem q4v{fa:Addr}{dV:Value}{fd:FuncData}(F:Fun2 K "__init__" "TooGreat.__init__" j4 dV fa fd){C_OftenError:Addr}(m_OftenError:mg "OftenError" = some (.ref C_OftenError))(sp_OftenError:PySem.W.specialIn K (.ref C_OftenError) "__getattribute__" = some (some (.builtin "type.__getattribute__")))(rd_OftenError:PySem.W.readsIn K C_OftenError (.type "type")=true)(fc_OftenError:PySem.W.findCls K (.ref C_OftenError) (.type "type") "__init__" = some (.val (.builtin "ValueError.__init__"))){C_TooGreat:Addr}(ei_TooGreat:q03 K C_TooGreat fa=true)(ci_TooGreat:ClsI K C_TooGreat "most"): FnOk P w K mg base CX0 1 fa fd ["self","most"] (spI C_TooGreat "most"):=
 F.okI (k:=0) q4t rfl rfl rfl fun cdv A outer s H E hr=>q4u m_OftenError sp_OftenError rd_OftenError fc_OftenError ei_TooGreat ci_TooGreat
abbrev q0l:Stmt:=top 26
noncomputable def q5u:List Str:=["_law_mark","_law_some","_law_ware"]
theorem q2g:(q5u).Nodup:=by decide +kernel
theorem qg7:FnScope q5u ["_law_mark"] (qj q0l):=⟨rfl,rfl,rfl,q2g,rfl,by decide +kernel,by decide +kernel⟩
noncomputable def wb:FS:=(qw (sIf (bCmp oEq (eOp oMod (eV 0) (eC (.int 2))) (eC (.int 1))) (q2x 1 (eV 2)) j7) (zg 0 (eOp oDiv (eV 0) (eC (.int 2)))))
noncomputable def q3d:FS:=(qw (q27 1 (jf qi)) (qw (q28 (iR1 (qc (eC (.int 12)) qi)) (bN 2) wb) (q1d 1 (zv (qk ka (qc (eV 1) qi))))))
noncomputable def q23:List D->Option D:=j6 3 q3d
theorem q8h{fa:Addr}{cdv:Value}{A:Around}{outer:List Env}{s:Shared}{H:Hp}{E:XK}(n_range:mg "range" = none)(n_tuple:mg "tuple" = none)(hr:Room 0 (A.deeper (envOfC "_law_set" (qj q0l) s.heap.objs.size fa cdv))):
  PSs (qv CX0 P w K mg base q5u "_law_set" (qj q0l) fa cdv A outer s H E).nox (za q0l) (tDS K q3d):=by
 unfold q3d wb;refine(qm ?_ ?_);exact(q88 (i:=1) q2g rfl (Or.inl rfl) (zi qf));refine(qm ?_ ?_);refine(q20 pq rfl ?_ (zx q2g rfl (Or.inl rfl) (.inl rfl)) (qm ?_ ?_));refine(y9 rfl n_range ?_);walk_at "A";exact qh;exact qf;refine(zt ?_ (qr ?_) zj);refine(zy (q0u hr.units) ?_ qh);refine(qo zr ?_ qh);exact(qa (pv 0));refine(q89 (pv 1) ?_);exact(qa (pv 2));refine(qr ?_);refine(qy (i:=0) ?_ ?_ ?_ ?_ ?_ ?_);exact q2g;exact rfl;exact(Or.inl rfl);refine(qo q0s ?_ qh);exact(qa (pv 0));exact rfl;walk_at "L";refine(q2y 1 (qr ?_));refine(zc ?_);refine(vg (q33) rfl n_tuple DL.boot_tuple ?_);walk_at "A";exact(qa (pv 1));exact qf
theorem qg8{fa:Addr}{dV:Value}{fd:FuncData}(F:Fun2 K "_law_set" "_law_set" q0l dV fa fd)(n_range:mg "range" = none)(n_tuple:mg "tuple" = none): FnOk P w K mg base CX0 1 fa fd ["_law_mark"] (spD K 1 q23):=
 F.okn (k:=0) (n:=3) (ar:=1) (k1:=1) (u:=q3d) qg7 rfl rfl rfl fun cdv A outer s H E hr=>(by first|(with_reducible exact q8h n_range n_tuple hr)|exact q8h n_range n_tuple hr)
abbrev kf:Stmt:=top 27
noncomputable def q3k:List Str:=["_law_many"]
theorem qck:(q3k).Nodup:=by decide +kernel
theorem qcl:FnScope q3k ["_law_many"] (qj kf):=⟨rfl,rfl,rfl,qck,rfl,by decide +kernel,by decide +kernel⟩
noncomputable def q1p:FS:=(zv (eOp oIx (eL (jf (qc (eC (.int 1)) (qc (eC (.int 2)) (qc (eC (.int 4)) (qc (eC (.int 8)) (qc (eC (.int 16)) (qc (eC (.int 32)) (qc (eC (.int 64)) (qc (eC (.int 128)) (qc (eC (.int 256)) (qc (eC (.int 512)) (qc (eC (.int 1024)) (qc (eC (.int 2048)) (qc (eC (.int 4096)) qi))))))))))))))) (eV 0)))
noncomputable def q04:List D->Option D:=j6 1 q1p
theorem q5v{fa:Addr}{cdv:Value}{A:Around}{outer:List Env}{s:Shared}{H:Hp}{E:XK}(hr:Room 0 (A.deeper (envOfC "_law_power" (qj kf) s.heap.objs.size fa cdv))):
  PSs (qv CX0 P w K mg base q3k "_law_power" (qj kf) fa cdv A outer s H E).nox (za kf) (tDS K q1p):=by
 unfold q1p;refine(qr ?_);refine(zc ?_);refine(vx ?_ ?_);refine(zp ?_);refine(zi ?_);walk_at "A";exact qh;walk_at "A";exact qh;walk_at "A";exact qh;walk_at "A";exact qh;walk_at "A";exact qh;walk_at "A";exact qh;walk_at "A";exact qh;walk_at "A";exact qh;walk_at "A";exact qh;walk_at "A";exact qh;walk_at "A";exact qh;walk_at "A";exact qh;walk_at "A";exact qh;exact qf;exact(qa (pv 0))
theorem qcm{fa:Addr}{dV:Value}{fd:FuncData}(F:Fun2 K "_law_power" "_law_power" kf dV fa fd): FnOk P w K mg base CX0 1 fa fd ["_law_many"] (spD K 1 q04):=
 F.okn (k:=0) (n:=1) (ar:=1) (k1:=1) (u:=q1p) qcl rfl rfl rfl fun cdv A outer s H E hr=>(by first|(with_reducible exact q5v  hr)|exact q5v  hr)
abbrev q0m:Stmt:=top 28
noncomputable def q5w:List Str:=["_law_number","_law_wares","_law_most"]
theorem qg9:(q5w).Nodup:=by decide +kernel
theorem qga:FnScope q5w ["_law_number","_law_wares","_law_most"] (qj q0m):=⟨rfl,rfl,rfl,qg9,rfl,by decide +kernel,by decide +kernel⟩
noncomputable def q24:FS:=(zv (vt (qc (eOp zu (eC (.int 1)) (eOp oMod (eOp oDiv (eV 0) (eC (.int 4096))) (eV 2))) (qc (qk (qq 1 [] q23) (qc (eOp oMod (eV 0) (qk (qq 1 [] q04) (qc (eV 1) qi))) qi)) qi))))
noncomputable def yb:List D->Option D:=j6 3 q24
theorem q8i{fa:Addr}{cdv:Value}{A:Around}{outer:List Env}{s:Shared}{H:Hp}{E:XK}{a__law_set:Addr}{fd__law_set:FuncData}(c_14:Cal P w K mg base "_law_set" 1 ["_law_mark"] 1 q23 a__law_set fd__law_set)(b_14:Binds K fd__law_set ["_law_mark"] []){a__law_power:Addr}{fd__law_power:FuncData}(c_11:Cal P w K mg base "_law_power" 1 ["_law_many"] 1 q04 a__law_power fd__law_power)(b_11:Binds K fd__law_power ["_law_many"] [])(hr:Room 1 (A.deeper (envOfC "_law_run" (qj q0m) s.heap.objs.size fa cdv))):
  PSs (qv CX0 P w K mg base q5w "_law_run" (qj q0m) fa cdv A outer s H E).nox (za q0m) (tDS K q24):=by
 unfold q24;refine(qr ?_);refine(zc ?_);refine(vc ?_);walk_at "A";refine(qo zm qh ?_);refine(qo zr ?_ ?_);refine(qo q0s ?_ qh);exact(qa (pv 0));exact(qa (pv 2));walk_at "A";refine(z5 c_14 b_14 hr (by decide) rfl ?_);walk_at "A";refine(qo zr ?_ ?_);exact(qa (pv 0));refine(z5 c_11 b_11 hr (by decide) rfl ?_);walk_at "A";exact(qa (pv 1));exact qf;exact qf;exact qf
theorem qgb{fa:Addr}{dV:Value}{fd:FuncData}(F:Fun2 K "_law_run" "_law_run" q0m dV fa fd){a__law_set:Addr}{fd__law_set:FuncData}(c_14:Cal P w K mg base "_law_set" 1 ["_law_mark"] 1 q23 a__law_set fd__law_set)(b_14:Binds K fd__law_set ["_law_mark"] []){a__law_power:Addr}{fd__law_power:FuncData}(c_11:Cal P w K mg base "_law_power" 1 ["_law_many"] 1 q04 a__law_power fd__law_power)(b_11:Binds K fd__law_power ["_law_many"] []): FnOk P w K mg base CX0 2 fa fd ["_law_number","_law_wares","_law_most"] (spD K 3 yb):=
 F.okn (k:=1) (n:=3) (ar:=3) (k1:=2) (u:=q24) qga rfl rfl rfl fun cdv A outer s H E hr=>(by first|(with_reducible exact q8i c_14 b_14 c_11 b_11 hr)|exact q8i c_14 b_14 c_11 b_11 hr)
abbrev kg:Stmt:=top 25
noncomputable def q3l:List Str:=["_law_script","_law_k","_law_number"]
theorem q13:(q3l).Nodup:=by decide +kernel
theorem qcn:FnScope q3l ["_law_script","_law_k"] (qj kg):=⟨rfl,rfl,rfl,q13,rfl,by decide +kernel,by decide +kernel⟩
noncomputable def kh:FS:=(qw (zg 2 (eOp zu (eOp xi (eC (.int 5)) (eV 1)) (eC (.int 2)))) (qw (sIf (bCmp oGt (qk jw (qc (eV 0) qi)) (eC (.int 0))) (zg 2 (eOp oMod (eOp oIx (eV 0) (eOp oMod (eV 1) (qk jw (qc (eV 0) qi)))) (eC (.int 2147483629)))) j7) (qw (zg 2 (eOp oMod (eOp zu (eOp zu (eOp xi (eV 2) (eC (.int 48271))) (eOp xi (eOp xi (eV 1) (eV 1)) (eC (.int 69621)))) (eC (.int 11))) (eC (.int 2147483647)))) (zv (eOp oMod (eOp xi (eV 2) (eV 2)) (eC (.int 2147483629)))))))
noncomputable def qx:List D->Option D:=j6 3 kh
theorem q5x{fa:Addr}{cdv:Value}{A:Around}{outer:List Env}{s:Shared}{H:Hp}{E:XK}(n_len:mg "len" = none)(hr:Room 0 (A.deeper (envOfC "_law_mixed" (qj kg) s.heap.objs.size fa cdv))):
  PSs (qv CX0 P w K mg base q3l "_law_mixed" (qj kg) fa cdv A outer s H E).nox (za kg) (tDS K kh):=by
 unfold kh;refine(qm ?_ ?_);refine(qy (i:=2) ?_ ?_ ?_ ?_ ?_ ?_);exact q13;exact rfl;exact(Or.inl rfl);refine(qo zm ?_ qh);refine(qo xt qh ?_);exact(qa (pv 1));exact rfl;walk_at "L";refine(qm ?_ ?_);refine(zt ?_ (qr ?_) zj);refine(zy q0t ?_ qh);refine(ze (xa) rfl n_len DL.zd ?_);walk_at "A";exact(qa (pv 0));exact qf;refine(qy (i:=2) ?_ ?_ ?_ ?_ ?_ ?_);exact q13;exact rfl;exact(Or.inl rfl);refine(qo zr ?_ qh);refine(vx ?_ ?_);exact(qa (pv 0));refine(qo zr ?_ ?_);exact(qa (pv 1));refine(ze (xa) rfl n_len DL.zd ?_);walk_at "A";exact(qa (pv 0));exact qf;exact rfl;walk_at "L";refine(qm ?_ ?_);refine(qy (i:=2) ?_ ?_ ?_ ?_ ?_ ?_);exact q13;exact rfl;exact(Or.inl rfl);refine(qo zr ?_ qh);refine(qo zm ?_ qh);refine(qo zm ?_ ?_);refine(qo xt ?_ qh);exact(qa (pv 2));refine(qo xt ?_ qh);refine(qo xt ?_ ?_);exact(qa (pv 1));exact(qa (pv 1));exact rfl;walk_at "L";refine(qr ?_);refine(zc ?_);refine(qo zr ?_ qh);refine(qo xt ?_ ?_);exact(qa (pv 2));exact(qa (pv 2))
theorem qco{fa:Addr}{dV:Value}{fd:FuncData}(F:Fun2 K "_law_mixed" "_law_mixed" kg dV fa fd)(n_len:mg "len" = none): FnOk P w K mg base CX0 1 fa fd ["_law_script","_law_k"] (spD K 2 qx):=
 F.okn (k:=0) (n:=3) (ar:=2) (k1:=1) (u:=kh) qcn rfl rfl rfl fun cdv A outer s H E hr=>(by first|(with_reducible exact q5x n_len hr)|exact q5x n_len hr)
abbrev wq:Stmt:=top 29
noncomputable def q4w:List Str:=["_law_script","_law_most_wares","_law_first","_law_wares","_law_most","_law_runs","_law_k","_law_number"]
theorem xy:(q4w).Nodup:=by decide +kernel
theorem qdw:FnScope q4w ["_law_script","_law_most_wares"] (qj wq):=⟨rfl,rfl,rfl,xy,rfl,by decide +kernel,by decide +kernel⟩
theorem qay:(["_law_cell","_law_wares","_law_most"]:List Str).Nodup:=by decide +kernel
noncomputable def va:FS:=(qw (zg 7 (eOp zu (eOp xi (qk (qq 2 [] qx) (qc (eV 0) (qc (eOp zu (eOp xi (eC (.int 3)) (eV 6)) (eC (.int 1))) qi))) (eC (.int 4096))) (eOp oMod (qk (qq 2 [] qx) (qc (eV 0) (qc (eOp zu (eOp xi (eC (.int 3)) (eV 6)) (eC (.int 2))) qi))) (eC (.int 4096))))) (qw (sIf (q2v (bCmp oGt (eV 6) (eC (.int 1))) (bCmp oEq (eOp oMod (qk (qq 2 [] qx) (qc (eV 0) (qc (eOp zu (eOp xi (eC (.int 3)) (eV 6)) (eC (.int 3))) qi))) (eC (.int 3))) (eC (.int 0)))) (zg 7 (eOp zu (eOp xi (eOp oDiv (eV 7) (eC (.int 4096))) (eC (.int 4096))) (eOp oMod (eOp xi (eOp oDiv (eOp oMod (eV 7) (eC (.int 4096))) (eC (.int 8))) (eC (.int 8))) (eC (.int 4096))))) j7) (q2x 5 (qk (qq 3 [] yb) (qc (eV 7) (qc (eV 3) (qc (eV 4) qi)))))))
noncomputable def yx:FS:=(qw (zg 2 (eC (.int 0))) (qw (sIf (bCmp oGt (qk jw (qc (eV 0) qi)) (eC (.int 0))) (zg 2 (eOp oIx (eV 0) (eC (.int 0)))) j7) (qw (zg 3 (eOp oMod (eV 2) (eOp zu (eV 1) (eC (.int 1))))) (qw (zg 4 (eOp oIx (eL (jf (qc (eC (.int 3)) (qc (eC (.int 40)) (qc (eOp oPow (eC (.int 10)) (eC (.int 12))) qi))))) (eOp oMod (eOp oDiv (eV 2) (eC (.int 16))) (eC (.int 3))))) (qw (sIf (bCmp oEq (eOp oMod (eOp oDiv (eV 2) (eC (.int 48))) (eC (.int 2))) (eC (.int 0))) (zv (vt (qc (eV 3) (qc (qk ka (qc (eL (jl (xq (eSl (eV 0) (oAt (eC (.int 1))) (oAt (eC (.int 63))))) [none,some 3,some 4] (bN 0) j9 (qk (qq 3 [] yb) (qc (eV 0) (qc (eV 1) (qc (eV 2) qi)))))) qi)) qi)))) j7) (qw (q27 5 (jf qi)) (qw (q28 (iR1 (qc (eOp oMod (eOp oDiv (eV 2) (eC (.int 96))) (eC (.int 25))) qi)) (bN 6) va) (q1d 5 (zv (vt (qc (eV 3) (qc (qk ka (qc (eV 5) qi)) qi))))))))))))
noncomputable def yc:List D->Option D:=j6 8 yx
theorem q71{fa:Addr}{cdv:Value}{A:Around}{outer:List Env}{s:Shared}{H:Hp}{E:XK}{a__law_run:Addr}{fd__law_run:FuncData}(c_13:Cal P w K mg base "_law_run" 2 ["_law_number","_law_wares","_law_most"] 3 yb a__law_run fd__law_run)(b_13:Binds K fd__law_run ["_law_number","_law_wares","_law_most"] []){a__law_mixed:Addr}{fd__law_mixed:FuncData}(c_8:Cal P w K mg base "_law_mixed" 1 ["_law_script","_law_k"] 2 qx a__law_mixed fd__law_mixed)(b_8:Binds K fd__law_mixed ["_law_script","_law_k"] [])(n_range:mg "range" = none)(n_len:mg "len" = none)(n_tuple:mg "tuple" = none)(hr:Room 2 (A.deeper (envOfC "_law_pile" (qj wq) s.heap.objs.size fa cdv))):
  PSs (qv CX0 P w K mg base q4w "_law_pile" (qj wq) fa cdv A outer s H E).nox (za wq) (tDS K yx):=by
 unfold yx va;refine(qm ?_ ?_);refine(qy (i:=2) ?_ ?_ ?_ qh ?_ ?_);exact xy;exact rfl;exact(Or.inl rfl);exact rfl;walk_at "L";refine(qm ?_ ?_);refine(zt ?_ (qr ?_) zj);refine(zy q0t ?_ qh);refine(ze (xa) rfl n_len DL.zd ?_);walk_at "A";exact(qa (pv 0));exact qf;refine(qy (i:=2) ?_ ?_ ?_ ?_ ?_ ?_);exact xy;exact rfl;exact(Or.inl rfl);refine(vx ?_ qh);exact(qa (pv 0));exact rfl;walk_at "L";refine(qm ?_ ?_);refine(qy (i:=3) ?_ ?_ ?_ ?_ ?_ ?_);exact xy;exact rfl;exact(Or.inr rfl);refine(qo zr ?_ ?_);exact(qa (pv 2));refine(qo zm ?_ qh);exact(qa (pv 1));exact rfl;walk_at "L";refine(qm ?_ ?_);refine(qy (i:=4) ?_ ?_ ?_ ?_ ?_ ?_);exact xy;exact rfl;exact(Or.inr rfl);refine(vx ?_ ?_);refine(zp ?_);refine(zi ?_);walk_at "A";exact qh;walk_at "A";exact qh;walk_at "A";exact(qo qod qh qh);exact qf;refine(qo zr ?_ qh);refine(qo q0s ?_ qh);exact(qa (pv 2));exact rfl;walk_at "L";refine(qm ?_ ?_);refine(zt ?_ (qr ?_) zj);refine(zy (q0u hr.units) ?_ qh);refine(qo zr ?_ qh);refine(qo q0s ?_ qh);exact(qa (pv 2));refine(zc ?_);refine(vc ?_);walk_at "A";exact(qa (pv 3));walk_at "A";refine(vg (q33) rfl n_tuple DL.boot_tuple ?_);walk_at "A";refine(zp ?_);refine(yl (N':=["_law_cell","_law_wares","_law_most"]) (cap:=[none,some 3,some 4]) rfl (xg rfl rfl) (jm rfl) ?_ (fun _ _ _ _ _=>(zx qay rfl (Or.inl rfl) (.inr rfl))) (fun _ _ _ _ _=>k9) (fun _ _ _ _ _=>?_));refine(k8 ?_);refine(q34 ?_ (jq qh) (jq qh));exact(qa (pv 0));refine(z5 c_13 b_13 hr (by decide) rfl ?_);walk_at "A";exact(qa (pv 0));walk_at "A";exact(qa (pv 1));walk_at "A";exact(qa (pv 2));exact qf;exact qf;exact qf;refine(qm ?_ ?_);exact(q88 (i:=5) xy rfl (Or.inl rfl) (zi qf));refine(qm ?_ ?_);refine(q20 pq rfl ?_ (zx xy rfl (Or.inl rfl) (.inl rfl)) (qm ?_ ?_));refine(y9 rfl n_range ?_);walk_at "A";refine(qo zr ?_ qh);refine(qo q0s ?_ qh);exact(qa (pv 2));exact qf;refine(qy (i:=7) ?_ ?_ ?_ ?_ ?_ ?_);exact xy;exact rfl;exact(Or.inl rfl);refine(qo zm ?_ ?_);refine(qo xt ?_ qh);refine(z5 c_8 b_8 hr (by decide) rfl ?_);walk_at "A";exact(qa (pv 0));walk_at "A";refine(qo zm ?_ qh);refine(qo xt qh ?_);exact(qa (pv 6));exact qf;refine(qo zr ?_ qh);refine(z5 c_8 b_8 hr (by decide) rfl ?_);walk_at "A";exact(qa (pv 0));walk_at "A";refine(qo zm ?_ qh);refine(qo xt qh ?_);exact(qa (pv 6));exact qf;exact rfl;walk_at "L";refine(qm ?_ ?_);refine(zt ?_ (qr ?_) zj);refine(PW.pt (q1y ?_ (q0j ?_)));refine(zy q0t ?_ qh);exact(qa (pv 6));refine(zy (q0u hr.units) ?_ qh);refine(qo zr ?_ qh);refine(z5 c_8 b_8 hr (by decide) rfl ?_);walk_at "A";exact(qa (pv 0));walk_at "A";refine(qo zm ?_ qh);refine(qo xt qh ?_);exact(qa (pv 6));exact qf;refine(qy (i:=7) ?_ ?_ ?_ ?_ ?_ ?_);exact xy;exact rfl;exact(Or.inl rfl);refine(qo zm ?_ ?_);refine(qo xt ?_ qh);refine(qo q0s ?_ qh);exact(qa (pv 7));refine(qo zr ?_ qh);refine(qo xt ?_ qh);refine(qo q0s ?_ qh);refine(qo zr ?_ qh);exact(qa (pv 7));exact rfl;walk_at "L";refine(qr ?_);refine(q89 (pv 5) ?_);refine(z5 c_13 b_13 hr (by decide) rfl ?_);walk_at "A";exact(qa (pv 7));walk_at "A";exact(qa (pv 3));walk_at "A";exact(qa (pv 4));exact qf;refine(q2y 5 (qr ?_));refine(zc ?_);refine(vc ?_);walk_at "A";exact(qa (pv 3));walk_at "A";refine(vg (q33) rfl n_tuple DL.boot_tuple ?_);walk_at "A";exact(qa (pv 5));exact qf;exact qf
theorem qdx{fa:Addr}{dV:Value}{fd:FuncData}(F:Fun2 K "_law_pile" "_law_pile" wq dV fa fd){a__law_run:Addr}{fd__law_run:FuncData}(c_13:Cal P w K mg base "_law_run" 2 ["_law_number","_law_wares","_law_most"] 3 yb a__law_run fd__law_run)(b_13:Binds K fd__law_run ["_law_number","_law_wares","_law_most"] []){a__law_mixed:Addr}{fd__law_mixed:FuncData}(c_8:Cal P w K mg base "_law_mixed" 1 ["_law_script","_law_k"] 2 qx a__law_mixed fd__law_mixed)(b_8:Binds K fd__law_mixed ["_law_script","_law_k"] [])(n_range:mg "range" = none)(n_len:mg "len" = none)(n_tuple:mg "tuple" = none): FnOk P w K mg base CX0 3 fa fd ["_law_script","_law_most_wares"] (spD K 2 yc):=
 F.okn (k:=2) (n:=8) (ar:=2) (k1:=3) (u:=yx) qdw rfl rfl rfl fun cdv A outer s H E hr=>(by first|(with_reducible exact q71 c_13 b_13 c_8 b_8 n_range n_len n_tuple hr)|exact q71 c_13 b_13 c_8 b_8 n_range n_len n_tuple hr)
abbrev ki:Stmt:=top 30
noncomputable def q3m:List Str:=["_law_script","_law_letters","_law_many","_law_turn","_law_word_here","_law_first","_law_more","_law_size","_law_stem","_law_at"]
theorem v8:(q3m).Nodup:=by decide +kernel
theorem qcp:FnScope q3m ["_law_script","_law_letters","_law_many"] (qj ki):=⟨rfl,rfl,rfl,v8,rfl,by decide +kernel,by decide +kernel⟩
theorem q9j:(["_law_k","_law_letters","_law_script"]:List Str).Nodup:=by decide +kernel
theorem q9k:(["_law_k","_law_letters","_law_first"]:List Str).Nodup:=by decide +kernel
theorem q9l:(["_law_k","_law_word_here"]:List Str).Nodup:=by decide +kernel
theorem q9m:(["_law_k","_law_stem","_law_letters","_law_at","_law_turn"]:List Str).Nodup:=by decide +kernel
noncomputable def q1q:FS:=(qw (zg 3 (qk (qq 2 [] qx) (qc (eV 0) (qc (eC (.int 301)) qi)))) (qw (zg 4 (eOp yw (eC (.str "")) (eL (jl (iR1 (qc (eC (.int 8)) qi)) [none,some 1,some 0] (bN 0) j9 (eOp oIxS (eV 1) (eOp oMod (qk (qq 2 [] qx) (qc (eV 2) (qc (eOp zu (eC (.int 303)) (eV 0)) qi))) (eC (.int 26)))))))) (qw (sIf (bCmp oEq (eOp oMod (qk (qq 2 [] qx) (qc (eV 0) (qc (eC (.int 312)) qi))) (eC (.int 4))) (eC (.int 0))) (qw (zg 5 (eOp (q6j q4o) (eV 1) (eOp oIxS (eV 4) (eC (.int 0))))) (qw (q27 6 (jl (iR2 (qc (eC (.int 1)) (qc (qk oMax (qc (eC (.int 1)) (qc (eOp oSub (eV 2) (eC (.int 7))) qi))) qi))) [none,some 1,some 5] (bN 0) j9 (eOp oIxS (eV 1) (eOp oMod (eOp zu (eV 2) (eV 0)) (eC (.int 26)))))) (q1d 6 (zv (eOp zu (eL (jl (iR1 (qc (qk oMin (qc (eV 2) (qc (eC (.int 8)) qi))) qi)) [none,some 4] (bN 0) j9 (kr (eV 1) oNo (oAt (eOp zu (eV 0) (eC (.int 1))))))) (eV 6)))))) j7) (q1d 6 (qw (zg 7 (eOp oMod (qk (qq 2 [] qx) (qc (eV 0) (qc (eC (.int 302)) qi))) (eC (.int 8)))) (qw (zg 8 (kr (eV 4) oNo (oAt (eV 7)))) (qw (zg 9 (eOp oMod (qk (qq 2 [] qx) (qc (eV 0) (qc (eC (.int 311)) qi))) (eOp zu (eV 7) (eC (.int 1))))) (zv (eL (jl (iR1 (qc (eV 2) qi)) [none,some 8,some 1,some 9,some 3] (bN 0) j9 (eOp j0 (eOp j0 (kr (eV 1) oNo (oAt (eV 3))) (eOp oIxS (eV 2) (eOp oMod (eOp zu (eV 4) (eOp xi (eC (.int 5)) (eV 0))) (eC (.int 26))))) (kr (eV 1) (oAt (eV 3)) oNo))))))))))))
noncomputable def q05:List D->Option D:=j6 10 q1q
theorem q5y{fa:Addr}{cdv:Value}{A:Around}{outer:List Env}{s:Shared}{H:Hp}{E:XK}{a__law_mixed:Addr}{fd__law_mixed:FuncData}(c_8:Cal P w K mg base "_law_mixed" 1 ["_law_script","_law_k"] 2 qx a__law_mixed fd__law_mixed)(b_8:Binds K fd__law_mixed ["_law_script","_law_k"] [])(n_range:mg "range" = none)(n_max:mg "max" = none)(n_min:mg "min" = none)(hr:Room 1 (A.deeper (envOfC "_law_names" (qj ki) s.heap.objs.size fa cdv))):
  PSs (qv CX0 P w K mg base q3m "_law_names" (qj ki) fa cdv A outer s H E).nox (za ki) (tDS K q1q):=by
 unfold q1q;refine(qm ?_ ?_);refine(qy (i:=3) ?_ ?_ ?_ ?_ ?_ ?_);exact v8;exact rfl;exact(Or.inr rfl);refine(z5 c_8 b_8 hr (by decide) rfl ?_);walk_at "A";exact(qa (pv 0));walk_at "A";exact qh;exact qf;exact rfl;walk_at "L";refine(qm ?_ ?_);refine(qy (i:=4) ?_ ?_ ?_ ?_ ?_ ?_);exact v8;exact rfl;exact(Or.inr rfl);refine(q3y qp ?_);refine(zp ?_);refine(yl (N':=["_law_k","_law_letters","_law_script"]) (cap:=[none,some 1,some 0]) rfl (xg rfl rfl) (jm rfl) ?_ (fun _ _ _ _ _=>(zx q9j rfl (Or.inl rfl) (.inr rfl))) (fun _ _ _ _ _=>k9) (fun _ _ _ _ _=>?_));refine(y9 rfl n_range ?_);walk_at "A";exact qh;exact qf;refine(q10 ?_ ?_);exact(qa (pv 1));refine(qo zr ?_ qh);refine(z5 c_8 b_8 hr (by decide) rfl ?_);walk_at "A";exact(qa (pv 2));walk_at "A";refine(qo zm qh ?_);exact(qa (pv 0));exact qf;exact rfl;walk_at "L";refine(qm ?_ ?_);refine(zt ?_ (qm ?_ ?_) zj);refine(zy (q0u hr.units) ?_ qh);refine(qo zr ?_ qh);refine(z5 c_8 b_8 hr (by decide) rfl ?_);walk_at "A";exact(qa (pv 0));walk_at "A";exact qh;exact qf;refine(qy (i:=5) ?_ ?_ ?_ ?_ ?_ ?_);exact v8;exact rfl;exact(Or.inr rfl);refine(qlc PySem.F.slot_str_index PySem.F.type_str_index qp9 qpb ?_ ?_);exact(qa (pv 1));refine(q10 ?_ qh);exact(qa (pv 4));exact rfl;walk_at "L";refine(qm ?_ ?_);refine(qee (i:=6) rfl v8 rfl rfl (N':=["_law_k","_law_letters","_law_first"]) (cap:=[none,some 1,some 5]) (xg rfl rfl) (jm rfl) ?_ (fun _ _ _ _ _=>(zx q9k rfl (Or.inl rfl) (.inr rfl))) (fun _ _ _ _ _=>k9) (fun _ _ _ _ _=>?_));refine(qhz rfl n_range ?_);walk_at "A";exact qh;walk_at "A";refine(ze (qol rfl) rfl n_max DL.boot_max ?_);walk_at "A";exact qh;walk_at "A";refine(qo qhs ?_ qh);exact(qa (pv 2));exact qf;exact qf;refine(q10 ?_ ?_);exact(qa (pv 1));refine(qo zr ?_ qh);refine(qo zm ?_ ?_);exact(qa (pv 2));exact(qa (pv 0));refine(q2y 6 (qr ?_));refine(zc ?_);refine(qo zm ?_ ?_);refine(zp ?_);refine(yl (N':=["_law_k","_law_word_here"]) (cap:=[none,some 4]) rfl (xg rfl rfl) (jm rfl) ?_ (fun _ _ _ _ _=>(zx q9l rfl (Or.inl rfl) (.inr rfl))) (fun _ _ _ _ _=>k9) (fun _ _ _ _ _=>?_));refine(y9 rfl n_range ?_);walk_at "A";refine(ze (qok rfl) rfl n_min DL.boot_min ?_);walk_at "A";exact(qa (pv 2));walk_at "A";exact qh;exact qf;exact qf;refine(vj ?_ xh (jq ?_));exact(qa (pv 1));refine(qo zm ?_ qh);exact(qa (pv 0));exact(qa (pv 6));refine(q2y 6 (qm ?_ ?_));refine(qy (i:=7) ?_ ?_ ?_ ?_ ?_ ?_);exact v8;exact rfl;exact(Or.inl rfl);refine(qo zr ?_ qh);refine(z5 c_8 b_8 hr (by decide) rfl ?_);walk_at "A";exact(qa (pv 0));walk_at "A";exact qh;exact qf;exact rfl;walk_at "L";refine(qm ?_ ?_);refine(qy (i:=8) ?_ ?_ ?_ ?_ ?_ ?_);exact v8;exact rfl;exact(Or.inr rfl);refine(vj ?_ xh (jq ?_));exact(qa (pv 4));exact(qa (pv 7));exact rfl;walk_at "L";refine(qm ?_ ?_);refine(qy (i:=9) ?_ ?_ ?_ ?_ ?_ ?_);exact v8;exact rfl;exact(Or.inr rfl);refine(qo zr ?_ ?_);refine(z5 c_8 b_8 hr (by decide) rfl ?_);walk_at "A";exact(qa (pv 0));walk_at "A";exact qh;exact qf;refine(qo zm ?_ qh);exact(qa (pv 7));exact rfl;walk_at "L";refine(qr ?_);refine(zc ?_);refine(zp ?_);refine(yl (N':=["_law_k","_law_stem","_law_letters","_law_at","_law_turn"]) (cap:=[none,some 8,some 1,some 9,some 3]) rfl (xg rfl rfl) (jm rfl) ?_ (fun _ _ _ _ _=>(zx q9m rfl (Or.inl rfl) (.inr rfl))) (fun _ _ _ _ _=>k9) (fun _ _ _ _ _=>?_));refine(y9 rfl n_range ?_);walk_at "A";exact(qa (pv 2));exact qf;refine(qo xl ?_ ?_);refine(qo xl ?_ ?_);refine(vj ?_ xh (jq ?_));exact(qa (pv 1));exact(qa (pv 3));refine(q10 ?_ ?_);exact(qa (pv 2));refine(qo zr ?_ qh);refine(qo zm ?_ ?_);exact(qa (pv 4));refine(qo xt qh ?_);exact(qa (pv 0));refine(vj ?_ (jq ?_) xh);exact(qa (pv 1));exact(qa (pv 3))
theorem qcq{fa:Addr}{dV:Value}{fd:FuncData}(F:Fun2 K "_law_names" "_law_names" ki dV fa fd){a__law_mixed:Addr}{fd__law_mixed:FuncData}(c_8:Cal P w K mg base "_law_mixed" 1 ["_law_script","_law_k"] 2 qx a__law_mixed fd__law_mixed)(b_8:Binds K fd__law_mixed ["_law_script","_law_k"] [])(n_range:mg "range" = none)(n_max:mg "max" = none)(n_min:mg "min" = none): FnOk P w K mg base CX0 2 fa fd ["_law_script","_law_letters","_law_many"] (spD K 3 q05):=
 F.okn (k:=1) (n:=10) (ar:=3) (k1:=2) (u:=q1q) qcp rfl rfl rfl fun cdv A outer s H E hr=>(by first|(with_reducible exact q5y c_8 b_8 n_range n_max n_min hr)|exact q5y c_8 b_8 n_range n_max n_min hr)
abbrev vm:Stmt:=top 34
noncomputable def q1g:List Str:=["_law_number","_law_lines"]
theorem ye:(q1g).Nodup:=by decide +kernel
theorem q8j:FnScope q1g ["_law_number"] (qj vm):=⟨rfl,rfl,rfl,ye,rfl,by decide +kernel,by decide +kernel⟩
noncomputable def wt:FS:=(qw (zg 1 (eL (jf (qc (eC (.str "")) (qc (eC (.str " ")) (qc (eC (.str ":")) (qc (eC (.str ": bread")) (qc (eC (.str "0:")) (qc (eC (.str "0: bread")) (qc (eC (.str "00:")) (qc (eC (.str "01: bread")) (qc (eC (.str "1")) (qc (eC (.str "1 bread")) (qc (eC (.str "1 : bread")) qi)))))))))))))) (qw (zg 1 (eOp zu (eV 1) (eL (jf (qc (eC (.str "1:bread")) (qc (eC (.str "1: ")) (qc (eC (.str "1:  bread")) (qc (eC (.str "1: bread ")) (qc (eC (.str " 1: bread")) (qc (eC (.str "1: bread bread")) (qc (eC (.str "1: bread  milk")) qi))))))))))) (qw (zg 1 (eOp zu (eV 1) (eL (jf (qc (eC (.str "1: Bread")) (qc (eC (.str "1: breadloaf")) (qc (eC (.str "1: br3ad")) (qc (eC (.str "-1: bread")) (qc (eC (.str "+1:")) (qc (eC (.str "1.0: bread")) (qc (eC (.str "x: bread")) (qc (eC (.str "1;")) qi)))))))))))) (qw (zg 1 (eOp zu (eV 1) (eL (jf (qc (eC (.str "1000000000001: bread")) (qc (eC (.str "9999999999999:")) (qc (eC (.str "10000000000000:")) (qc (eC (.str "1:1")) (qc (eC (.str "1: :")) (qc (eC (.str "1:: bread")) qi)))))))))) (zv (eOp oIx (eV 1) (eOp oMod (eV 0) (qk jw (qc (eV 1) qi)))))))))
noncomputable def vn:List D->Option D:=j6 2 wt
theorem q3e{fa:Addr}{cdv:Value}{A:Around}{outer:List Env}{s:Shared}{H:Hp}{E:XK}(n_len:mg "len" = none)(hr:Room 0 (A.deeper (envOfC "_law_bad_line" (qj vm) s.heap.objs.size fa cdv))):
  PSs (qv CX0 P w K mg base q1g "_law_bad_line" (qj vm) fa cdv A outer s H E).nox (za vm) (tDS K wt):=by
 unfold wt;refine(qm ?_ ?_);refine(qy (i:=1) ?_ ?_ ?_ ?_ ?_ ?_);exact ye;exact rfl;exact(Or.inl rfl);refine(zp ?_);refine(zi ?_);walk_at "A";exact qp;walk_at "A";exact qp;walk_at "A";exact qp;walk_at "A";exact qp;walk_at "A";exact qp;walk_at "A";exact qp;walk_at "A";exact qp;walk_at "A";exact qp;walk_at "A";exact qp;walk_at "A";exact qp;walk_at "A";exact qp;exact qf;exact rfl;walk_at "L";refine(qm ?_ ?_);refine(qy (i:=1) ?_ ?_ ?_ ?_ ?_ ?_);exact ye;exact rfl;exact(Or.inl rfl);refine(qo zm ?_ ?_);exact(qa (pv 1));refine(zp ?_);refine(zi ?_);walk_at "A";exact qp;walk_at "A";exact qp;walk_at "A";exact qp;walk_at "A";exact qp;walk_at "A";exact qp;walk_at "A";exact qp;walk_at "A";exact qp;exact qf;exact rfl;walk_at "L";refine(qm ?_ ?_);refine(qy (i:=1) ?_ ?_ ?_ ?_ ?_ ?_);exact ye;exact rfl;exact(Or.inl rfl);refine(qo zm ?_ ?_);exact(qa (pv 1));refine(zp ?_);refine(zi ?_);walk_at "A";exact qp;walk_at "A";exact qp;walk_at "A";exact qp;walk_at "A";exact qp;walk_at "A";exact qp;walk_at "A";exact qp;walk_at "A";exact qp;walk_at "A";exact qp;exact qf;exact rfl;walk_at "L";refine(qm ?_ ?_);refine(qy (i:=1) ?_ ?_ ?_ ?_ ?_ ?_);exact ye;exact rfl;exact(Or.inl rfl);refine(qo zm ?_ ?_);exact(qa (pv 1));refine(zp ?_);refine(zi ?_);walk_at "A";exact qp;walk_at "A";exact qp;walk_at "A";exact qp;walk_at "A";exact qp;walk_at "A";exact qp;walk_at "A";exact qp;exact qf;exact rfl;walk_at "L";refine(qr ?_);refine(zc ?_);refine(vx ?_ ?_);exact(qa (pv 1));refine(qo zr ?_ ?_);exact(qa (pv 0));refine(ze (xa) rfl n_len DL.zd ?_);walk_at "A";exact(qa (pv 1));exact qf
theorem q8k{fa:Addr}{dV:Value}{fd:FuncData}(F:Fun2 K "_law_bad_line" "_law_bad_line" vm dV fa fd)(n_len:mg "len" = none): FnOk P w K mg base CX0 1 fa fd ["_law_number"] (spD K 1 vn):=
 F.okn (k:=0) (n:=2) (ar:=1) (k1:=1) (u:=wt) q8j rfl rfl rfl fun cdv A outer s H E hr=>(by first|(with_reducible exact q3e n_len hr)|exact q3e n_len hr)
abbrev q0n:Stmt:=top 20
noncomputable def q5z:List Str:=["word"]
theorem qgc:(q5z).Nodup:=by decide +kernel
theorem qgd:FnScope q5z ["word"] (qj q0n):=⟨rfl,rfl,rfl,qgc,rfl,by decide +kernel,by decide +kernel⟩
theorem qcr:(["sign"]:List Str).Nodup:=by decide +kernel
noncomputable def q3f:FS:=(qw (sIf (v7 (q3x oLe oLe (eC (.int 1)) (qk jw (qc (eV 0) qi)) (qk jw (qc (qk q4q (qc (eC (.int 1000000000000)) qi)) qi)))) (zv (eC (.bl false))) j7) (qw (sIf (bOr (bCmp oEq (eOp oIxS (eV 0) (eC (.int 0))) (eC (.str "0"))) (v7 (bT (qk q5g (qc (eL (jl (q9f (eV 0)) [none] (bN 0) j9 (eOp q0z (eV 0) (eC (.str "0123456789"))))) qi))))) (zv (eC (.bl false))) j7) (zv (eOp oLe (qk q1o (qc (eV 0) qi)) (eC (.int 1000000000000))))))
noncomputable def wc:List D->Option D:=j6 1 q3f
theorem q8l{fa:Addr}{cdv:Value}{A:Around}{outer:List Env}{s:Shared}{H:Hp}{E:XK}(n_int:mg "int" = none)(n_len:mg "len" = none)(n_all:mg "all" = none)(n_str:mg "str" = none)(g_MOST_MANY:∃t,mg "MOST_MANY" = some (.int 1000000000000 t))(gs_FIGURES:∃t,mg "FIGURES" = some (.str "0123456789" t))(hr:Room 0 (A.deeper (envOfC "is_many" (qj q0n) s.heap.objs.size fa cdv))):
  PSs (qv CX0 P w K mg base q5z "is_many" (qj q0n) fa cdv A outer s H E).nox (za q0n) (tDS K q3f):=by
 unfold q3f;refine(qm ?_ ?_);refine(zt ?_ (qr ?_) zj);refine(jz ?_);refine(qjx q86 q86 qh ?_ ?_);refine(ze (xa) rfl n_len DL.zd ?_);walk_at "A";exact(qa (pv 0));exact qf;refine(ze (xa) rfl n_len DL.zd ?_);walk_at "A";refine(vg (qih) rfl n_str DL.boot_str ?_);walk_at "A";exact(ym rfl g_MOST_MANY);exact qf;exact qf;exact(zc wo);refine(qm ?_ ?_);refine(zt ?_ (qr ?_) zj);refine(PW.pt (q3c ?_ (q3v ?_)));refine(zy (q0u hr.units) ?_ qp);refine(q10 ?_ qh);exact(qa (pv 0));refine(jz ?_);refine(j5 ?_);refine(ze (qbv rfl) rfl n_all DL.boot_all ?_);walk_at "A";refine(zp ?_);refine(yl (N':=["sign"]) (cap:=[none]) rfl (xg rfl rfl) (jm rfl) ?_ (fun _ _ _ _ _=>(zx qcr rfl (Or.inl rfl) (.inr rfl))) (fun _ _ _ _ _=>k9) (fun _ _ _ _ _=>?_));refine(qib ?_);exact(qa (pv 0));refine(q5f qcc ?_ ?_);exact(qa (pv 0));exact(qep rfl gs_FIGURES);exact qf;exact(zc wo);refine(qr ?_);refine(zc ?_);refine(q5f q86 ?_ ?_);refine(vg (qen) rfl n_int DL.boot_int ?_);walk_at "A";exact(qa (pv 0));exact qf;exact(ym rfl g_MOST_MANY)
theorem qge{fa:Addr}{dV:Value}{fd:FuncData}(F:Fun2 K "is_many" "is_many" q0n dV fa fd)(n_int:mg "int" = none)(n_len:mg "len" = none)(n_all:mg "all" = none)(n_str:mg "str" = none)(g_MOST_MANY:∃t,mg "MOST_MANY" = some (.int 1000000000000 t))(gs_FIGURES:∃t,mg "FIGURES" = some (.str "0123456789" t)): FnOk P w K mg base CX0 1 fa fd ["word"] (spD K 1 wc):=
 F.okn (k:=0) (n:=1) (ar:=1) (k1:=1) (u:=q3f) qgd rfl rfl rfl fun cdv A outer s H E hr=>(by first|(with_reducible exact q8l n_int n_len n_all n_str g_MOST_MANY gs_FIGURES hr)|exact q8l n_int n_len n_all n_str g_MOST_MANY gs_FIGURES hr)
abbrev q0o:Stmt:=top 19
noncomputable def q60:List Str:=["word"]
theorem qgf:(q60).Nodup:=by decide +kernel
theorem qgg:FnScope q60 ["word"] (qj q0o):=⟨rfl,rfl,rfl,qgf,rfl,by decide +kernel,by decide +kernel⟩
noncomputable def q3g:FS:=(zv (q4f (eOp (q6j q0y) (eV 0) (eC (.str ":"))) (qk (qq 1 [] wc) (qc (kr (eV 0) oNo (oAt (eUn q98 (eC (.int 1))))) qi))))
noncomputable def xm:List D->Option D:=j6 1 q3g
theorem q8m{fa:Addr}{cdv:Value}{A:Around}{outer:List Env}{s:Shared}{H:Hp}{E:XK}{a_is_many:Addr}{fd_is_many:FuncData}(c_3:Cal P w K mg base "is_many" 1 ["word"] 1 wc a_is_many fd_is_many)(b_3:Binds K fd_is_many ["word"] [])(hr:Room 1 (A.deeper (envOfC "is_head" (qj q0o) s.heap.objs.size fa cdv))):
  PSs (qv CX0 P w K mg base q60 "is_head" (qj q0o) fa cdv A outer s H E).nox (za q0o) (tDS K q3g):=by
 unfold q3g;refine(qr ?_);refine(zc ?_);refine(qbq ?_ (qbp ?_));refine(qlc PySem.F.slot_str_endswith PySem.F.type_str_endswith mt_ends fl_ends ?_ qp);exact(qa (pv 0));refine(z5 c_3 b_3 hr (by decide) rfl ?_);walk_at "A";refine(vj ?_ xh (jq ?_));exact(qa (pv 0));exact(qc0 qh);exact qf
theorem qgh{fa:Addr}{dV:Value}{fd:FuncData}(F:Fun2 K "is_head" "is_head" q0o dV fa fd){a_is_many:Addr}{fd_is_many:FuncData}(c_3:Cal P w K mg base "is_many" 1 ["word"] 1 wc a_is_many fd_is_many)(b_3:Binds K fd_is_many ["word"] []): FnOk P w K mg base CX0 2 fa fd ["word"] (spD K 1 xm):=
 F.okn (k:=1) (n:=1) (ar:=1) (k1:=2) (u:=q3g) qgg rfl rfl rfl fun cdv A outer s H E hr=>(by first|(with_reducible exact q8m c_3 b_3 hr)|exact q8m c_3 b_3 hr)
abbrev q0p:Stmt:=top 22
noncomputable def q61:List Str:=["word"]
theorem qgi:(q61).Nodup:=by decide +kernel
theorem qgj:FnScope q61 ["word"] (qj q0p):=⟨rfl,rfl,rfl,qgi,rfl,by decide +kernel,by decide +kernel⟩
theorem qcs:(["sign"]:List Str).Nodup:=by decide +kernel
noncomputable def q3h:FS:=(zv (q4f (q22 oLe oLe (eC (.int 1)) (qk jw (qc (eV 0) qi)) (eC (.int 8))) (qk q5g (qc (eL (jl (q9f (eV 0)) [none] (bN 0) j9 (eOp q0z (eV 0) (eC (.str "abcdefghijklmnopqrstuvwxyz"))))) qi))))
noncomputable def vk:List D->Option D:=j6 1 q3h
theorem q8n{fa:Addr}{cdv:Value}{A:Around}{outer:List Env}{s:Shared}{H:Hp}{E:XK}(n_all:mg "all" = none)(n_len:mg "len" = none)(g_LONGEST_NAME:∃t,mg "LONGEST_NAME" = some (.int 8 t))(gs_SMALL_LETTERS:∃t,mg "SMALL_LETTERS" = some (.str "abcdefghijklmnopqrstuvwxyz" t))(hr:Room 0 (A.deeper (envOfC "is_name" (qj q0p) s.heap.objs.size fa cdv))):
  PSs (qv CX0 P w K mg base q61 "is_name" (qj q0p) fa cdv A outer s H E).nox (za q0p) (tDS K q3h):=by
 unfold q3h;refine(qr ?_);refine(zc ?_);refine(qbq ?_ (qbp ?_));refine(qjw q86 q86 qh ?_ ?_);refine(ze (xa) rfl n_len DL.zd ?_);walk_at "A";exact(qa (pv 0));exact qf;exact(ym rfl g_LONGEST_NAME);refine(ze (qbv rfl) rfl n_all DL.boot_all ?_);walk_at "A";refine(zp ?_);refine(yl (N':=["sign"]) (cap:=[none]) rfl (xg rfl rfl) (jm rfl) ?_ (fun _ _ _ _ _=>(zx qcs rfl (Or.inl rfl) (.inr rfl))) (fun _ _ _ _ _=>k9) (fun _ _ _ _ _=>?_));refine(qib ?_);exact(qa (pv 0));refine(q5f qcc ?_ ?_);exact(qa (pv 0));exact(qep rfl gs_SMALL_LETTERS);exact qf
theorem qgk{fa:Addr}{dV:Value}{fd:FuncData}(F:Fun2 K "is_name" "is_name" q0p dV fa fd)(n_all:mg "all" = none)(n_len:mg "len" = none)(g_LONGEST_NAME:∃t,mg "LONGEST_NAME" = some (.int 8 t))(gs_SMALL_LETTERS:∃t,mg "SMALL_LETTERS" = some (.str "abcdefghijklmnopqrstuvwxyz" t)): FnOk P w K mg base CX0 1 fa fd ["word"] (spD K 1 vk):=
 F.okn (k:=0) (n:=1) (ar:=1) (k1:=1) (u:=q3h) qgj rfl rfl rfl fun cdv A outer s H E hr=>(by first|(with_reducible exact q8n n_all n_len g_LONGEST_NAME gs_SMALL_LETTERS hr)|exact q8n n_all n_len g_LONGEST_NAME gs_SMALL_LETTERS hr)
abbrev kj:Stmt:=top 21
noncomputable def q3n:List Str:=["words"]
theorem qct:(q3n).Nodup:=by decide +kernel
theorem qcu:FnScope q3n ["words"] (qj kj):=⟨rfl,rfl,rfl,qct,rfl,by decide +kernel,by decide +kernel⟩
theorem q9n:(["word"]:List Str).Nodup:=by decide +kernel
noncomputable def q1r:FS:=(zv (q4f (qk q5g (qc (eL (jl (xq (eV 0)) [none] (bN 0) j9 (qk (qq 1 [] vk) (qc (eV 0) qi)))) qi)) (eOp oEq (q40 (eV 0)) (qk jw (qc (eV 0) qi)))))
noncomputable def jx:List D->Option D:=j6 1 q1r
theorem q62{fa:Addr}{cdv:Value}{A:Around}{outer:List Env}{s:Shared}{H:Hp}{E:XK}{a_is_name:Addr}{fd_is_name:FuncData}(c_4:Cal P w K mg base "is_name" 1 ["word"] 1 vk a_is_name fd_is_name)(b_4:Binds K fd_is_name ["word"] [])(n_all:mg "all" = none)(n_len:mg "len" = none)(n_set:mg "set" = none)(hr:Room 1 (A.deeper (envOfC "are_names" (qj kj) s.heap.objs.size fa cdv))):
  PSs (qv CX0 P w K mg base q3n "are_names" (qj kj) fa cdv A outer s H E).nox (za kj) (tDS K q1r):=by
 unfold q1r;refine(qr ?_);refine(zc ?_);refine(qbq ?_ (qbp ?_));refine(ze (qbv rfl) rfl n_all DL.boot_all ?_);walk_at "A";refine(zp ?_);refine(yl (N':=["word"]) (cap:=[none]) rfl (xg rfl rfl) (jm rfl) ?_ (fun _ _ _ _ _=>(zx q9n rfl (Or.inl rfl) (.inr rfl))) (fun _ _ _ _ _=>k9) (fun _ _ _ _ _=>?_));refine(k8 ?_);exact(qa (pv 0));refine(z5 c_4 b_4 hr (by decide) rfl ?_);walk_at "A";exact(qa (pv 0));exact qf;exact qf;refine(q5f (q0u hr.units) ?_ ?_);refine(qif rfl rfl n_len rfl n_set ?_);exact(qa (pv 0));refine(ze (xa) rfl n_len DL.zd ?_);walk_at "A";exact(qa (pv 0));exact qf
theorem qcv{fa:Addr}{dV:Value}{fd:FuncData}(F:Fun2 K "are_names" "are_names" kj dV fa fd){a_is_name:Addr}{fd_is_name:FuncData}(c_4:Cal P w K mg base "is_name" 1 ["word"] 1 vk a_is_name fd_is_name)(b_4:Binds K fd_is_name ["word"] [])(n_all:mg "all" = none)(n_len:mg "len" = none)(n_set:mg "set" = none): FnOk P w K mg base CX0 2 fa fd ["words"] (spD K 1 jx):=
 F.okn (k:=1) (n:=1) (ar:=1) (k1:=2) (u:=q1r) qcu rfl rfl rfl fun cdv A outer s H E hr=>(by first|(with_reducible exact q62 c_4 b_4 n_all n_len n_set hr)|exact q62 c_4 b_4 n_all n_len n_set hr)
abbrev xc:Stmt:=top 18
noncomputable def q1s:List Str:=["line","words","names"]
theorem we:(q1s).Nodup:=by decide +kernel
theorem q63:FnScope q1s ["line"] (qj xc):=⟨rfl,rfl,rfl,we,rfl,by decide +kernel,by decide +kernel⟩
noncomputable def q1t:FS:=(qw (zg 1 (eL (kb (eV 0) (eC (.str " "))))) (qw (zg 2 (eSl (eV 1) (oAt (eC (.int 1))) oNo)) (qw (sIf (bOr (v7 (bT (qk (qq 1 [] xm) (qc (eOp oIx (eV 1) (eC (.int 0))) qi)))) (v7 (bT (qk (qq 1 [] jx) (qc (eV 2) qi))))) q02 j7) (zv (vt (qc (qk q1o (qc (kr (eOp oIx (eV 1) (eC (.int 0))) oNo (oAt (eUn q98 (eC (.int 1))))) qi)) (qc (eV 2) qi)))))))
noncomputable def zh:List D->Option D:=j6 3 q1t
theorem q64{fa:Addr}{cdv:Value}{A:Around}{outer:List Env}{s:Shared}{H:Hp}{E:XK}{a_is_head:Addr}{fd_is_head:FuncData}(c_2:Cal P w K mg base "is_head" 2 ["word"] 1 xm a_is_head fd_is_head)(b_2:Binds K fd_is_head ["word"] []){a_are_names:Addr}{fd_are_names:FuncData}(c_1:Cal P w K mg base "are_names" 2 ["words"] 1 jx a_are_names fd_are_names)(b_1:Binds K fd_are_names ["words"] [])(n_int:mg "int" = none)(hr:Room 2 (A.deeper (envOfC "line_read" (qj xc) s.heap.objs.size fa cdv))):
  PSs (qv CX0 P w K mg base q1s "line_read" (qj xc) fa cdv A outer s H E).nox (za xc) (tDS K q1t):=by
 unfold q1t;refine(qm ?_ ?_);refine(qy (i:=1) ?_ ?_ ?_ ?_ ?_ ?_);exact we;exact rfl;exact(Or.inl rfl);refine(zp ?_);refine(q4n ?_ qp);exact(qa (pv 0));exact rfl;walk_at "L";refine(qm ?_ ?_);refine(qy (i:=2) ?_ ?_ ?_ ?_ ?_ ?_);exact we;exact rfl;exact(Or.inl rfl);refine(q34 ?_ (jq qh) xh);exact(qa (pv 1));exact rfl;walk_at "L";refine(qm ?_ ?_);refine(zt ?_ (qr w8) zj);refine(PW.pt (q3c ?_ (q3v ?_)));refine(jz ?_);refine(j5 ?_);refine(z5 c_2 b_2 hr (by decide) rfl ?_);walk_at "A";refine(vx ?_ qh);exact(qa (pv 1));exact qf;refine(jz ?_);refine(j5 ?_);refine(z5 c_1 b_1 hr (by decide) rfl ?_);walk_at "A";exact(qa (pv 2));exact qf;refine(qr ?_);refine(zc ?_);refine(vc ?_);walk_at "A";refine(vg (qen) rfl n_int DL.boot_int ?_);walk_at "A";refine(vj ?_ xh (jq ?_));refine(vx ?_ qh);exact(qa (pv 1));exact(qc0 qh);exact qf;walk_at "A";exact(qa (pv 2));exact qf
theorem qcw{fa:Addr}{dV:Value}{fd:FuncData}(F:Fun2 K "line_read" "line_read" xc dV fa fd){a_is_head:Addr}{fd_is_head:FuncData}(c_2:Cal P w K mg base "is_head" 2 ["word"] 1 xm a_is_head fd_is_head)(b_2:Binds K fd_is_head ["word"] []){a_are_names:Addr}{fd_are_names:FuncData}(c_1:Cal P w K mg base "are_names" 2 ["words"] 1 jx a_are_names fd_are_names)(b_1:Binds K fd_are_names ["words"] [])(n_int:mg "int" = none): FnOk P w K mg base CX0 3 fa fd ["line"] (spD K 1 zh):=
 F.okn (k:=2) (n:=3) (ar:=1) (k1:=3) (u:=q1t) q63 rfl rfl rfl fun cdv A outer s H E hr=>(by first|(with_reducible exact q64 c_2 b_2 c_1 b_1 n_int hr)|exact q64 c_2 b_2 c_1 b_1 n_int hr)
noncomputable def km:FX:=(v9 (zg 1 (eL (kb (eV 0) (eC (.str " "))))) xj (v9 (zg 2 (eSl (eV 1) (oAt (eC (.int 1))) oNo)) xj (v9 (sIf (bOr (v7 (bT (qk (qq 1 [] xm) (qc (eOp oIx (eV 1) (eC (.int 0))) qi)))) (v7 (bT (qk (qq 1 [] jx) (qc (eV 2) qi))))) q02 j7) (xIf (bOr (v7 (bT (qk (qq 1 [] xm) (qc (eOp oIx (eV 1) (eC (.int 0))) qi)))) (v7 (bT (qk (qq 1 [] jx) (qc (eV 2) qi))))) (q5m "NoText") xj) xj)))
noncomputable def x_line_read:List D->Option XV:=fun ds=>(km (q5l 3 ds)).map (·.1)
theorem qcx{fa:Addr}{cdv:Value}{A:Around}{outer:List Env}{s:Shared}{H:Hp}{E:XK}{a_is_head:Addr}{fd_is_head:FuncData}(c_2:Cal P w K mg base "is_head" 2 ["word"] 1 xm a_is_head fd_is_head)(b_2:Binds K fd_is_head ["word"] []){a_are_names:Addr}{fd_are_names:FuncData}(c_1:Cal P w K mg base "are_names" 2 ["words"] 1 jx a_are_names fd_are_names)(b_1:Binds K fd_are_names ["words"] [])(n_int:mg "int" = none){C_NoText:Addr}(e_NoText:q5k K C_NoText)(m_NoText:mg "NoText" = some (.ref C_NoText))(ns_NoText:PySem.W.nsIn K mainGlobals "NoText" = some (some (.ref C_NoText)))(hr:Room 2 (A.deeper (envOfC "line_read" (qj xc) s.heap.objs.size fa cdv))):
  PSs (qv (CXR P w) P w K mg base q1s "line_read" (qj xc) fa cdv A outer s H E) (za xc) (tXS K km E):=by
 unfold km;refine(q0v (PS.nox ?_) q4m (q0v (PS.nox ?_) q4m (q0v (PS.nox ?_) (qb8 (PT.nox ?_) (q5n (qca e_NoText rfl m_NoText ns_NoText)) q0k) q0k)));refine(qy (i:=1) ?_ ?_ ?_ ?_ ?_ ?_);exact we;exact rfl;exact(Or.inl rfl);refine(zp ?_);refine(q4n ?_ qp);exact(qa (pv 0));exact rfl;walk_at "L";refine(qy (i:=2) ?_ ?_ ?_ ?_ ?_ ?_);exact we;exact rfl;exact(Or.inl rfl);refine(q34 ?_ (jq qh) xh);exact(qa (pv 1));exact rfl;walk_at "L";refine(zt ?_ (qr w8) zj);refine(PW.pt (q3c ?_ (q3v ?_)));refine(jz ?_);refine(j5 ?_);refine(z5 c_2 b_2 hr (by decide) rfl ?_);walk_at "A";refine(vx ?_ qh);exact(qa (pv 1));exact qf;refine(jz ?_);refine(j5 ?_);refine(z5 c_1 b_1 hr (by decide) rfl ?_);walk_at "A";exact(qa (pv 2));exact qf;refine(PW.pt (q3c ?_ (q3v ?_)));refine(jz ?_);refine(j5 ?_);refine(z5 c_2 b_2 hr (by decide) rfl ?_);walk_at "A";refine(vx ?_ qh);exact(qa (pv 1));exact qf;refine(jz ?_);refine(j5 ?_);refine(z5 c_1 b_1 hr (by decide) rfl ?_);walk_at "A";exact(qa (pv 2));exact qf
theorem qaz{fa:Addr}{dV:Value}{fd:FuncData}(F:Fun2 K "line_read" "line_read" xc dV fa fd){a_is_head:Addr}{fd_is_head:FuncData}(c_2:Cal P w K mg base "is_head" 2 ["word"] 1 xm a_is_head fd_is_head)(b_2:Binds K fd_is_head ["word"] []){a_are_names:Addr}{fd_are_names:FuncData}(c_1:Cal P w K mg base "are_names" 2 ["words"] 1 jx a_are_names fd_are_names)(b_1:Binds K fd_are_names ["words"] [])(n_int:mg "int" = none){C_NoText:Addr}(e_NoText:q5k K C_NoText)(m_NoText:mg "NoText" = some (.ref C_NoText))(ns_NoText:PySem.W.nsIn K mainGlobals "NoText" = some (some (.ref C_NoText))): FnOk P w K mg base (CXR P w) 3 fa fd ["line"] (spR K 1 x_line_read):=
 q5o (k:=2) (v:=km) F q63 rfl rfl rfl fun cdv A outer s H E hr=>qcx c_2 b_2 c_1 b_1 n_int e_NoText m_NoText ns_NoText hr
abbrev v3:Stmt:=top 17
noncomputable def q2h:List Str:=["text"]
theorem qdy:(q2h).Nodup:=by decide +kernel
theorem q72:FnScope q2h ["text"] (qj v3):=⟨rfl,rfl,rfl,qdy,rfl,by decide +kernel,by decide +kernel⟩
theorem qb0:(["line"]:List Str).Nodup:=by decide +kernel
noncomputable def q2i:FS:=(qw (sIf (v7 (bT (q31 .str (eV 0)))) q02 j7) (qw (sIf (bCmp oEq (eV 0) (eC (.str ""))) (zv (eL (jf qi))) j7) (zv (eL (jl (xq (eL (kb (eV 0) (eC (.str "\n"))))) [none] (bN 0) j9 (qk (qq 1 [] zh) (qc (eV 0) qi)))))))
noncomputable def vf:List D->Option D:=j6 1 q2i
theorem q73{fa:Addr}{cdv:Value}{A:Around}{outer:List Env}{s:Shared}{H:Hp}{E:XK}{a_line_read:Addr}{fd_line_read:FuncData}(c_17:Cal P w K mg base "line_read" 3 ["line"] 1 zh a_line_read fd_line_read)(b_17:Binds K fd_line_read ["line"] [])(n_isinstance:mg "isinstance" = none)(n_str:mg "str" = none)(hr:Room 3 (A.deeper (envOfC "lines_of" (qj v3) s.heap.objs.size fa cdv))):
  PSs (qv CX0 P w K mg base q2h "lines_of" (qj v3) fa cdv A outer s H E).nox (za v3) (tDS K q2i):=by
 unfold q2i;refine(qm ?_ ?_);refine(zt ?_ (qr w8) zj);refine(jz ?_);refine(j5 ?_);refine(q32 .str rfl n_isinstance rfl n_str DL.boot_str ?_);exact(qa (pv 0));refine(qm ?_ ?_);refine(zt ?_ (qr ?_) zj);refine(zy (q0u hr.units) ?_ qp);exact(qa (pv 0));refine(zc ?_);refine(zp ?_);exact(zi qf);refine(qr ?_);refine(zc ?_);refine(zp ?_);refine(yl (N':=["line"]) (cap:=[none]) rfl (xg rfl rfl) (jm rfl) ?_ (fun _ _ _ _ _=>(zx qb0 rfl (Or.inl rfl) (.inr rfl))) (fun _ _ _ _ _=>k9) (fun _ _ _ _ _=>?_));refine(k8 ?_);refine(zp ?_);refine(q4n ?_ qp);exact(qa (pv 0));refine(z5 c_17 b_17 hr (by decide) rfl ?_);walk_at "A";exact(qa (pv 0));exact qf
theorem qdz{fa:Addr}{dV:Value}{fd:FuncData}(F:Fun2 K "lines_of" "lines_of" v3 dV fa fd){a_line_read:Addr}{fd_line_read:FuncData}(c_17:Cal P w K mg base "line_read" 3 ["line"] 1 zh a_line_read fd_line_read)(b_17:Binds K fd_line_read ["line"] [])(n_isinstance:mg "isinstance" = none)(n_str:mg "str" = none): FnOk P w K mg base CX0 4 fa fd ["text"] (spD K 1 vf):=
 F.okn (k:=3) (n:=1) (ar:=1) (k1:=4) (u:=q2i) q72 rfl rfl rfl fun cdv A outer s H E hr=>(by first|(with_reducible exact q73 c_17 b_17 n_isinstance n_str hr)|exact q73 c_17 b_17 n_isinstance n_str hr)
theorem qb1:(["line"]:List Str).Nodup:=by decide +kernel
noncomputable def wu:FX:=(v9 (sIf (v7 (bT (q31 .str (eV 0)))) q02 j7) (xIf (v7 (bT (q31 .str (eV 0)))) (q5m "NoText") xj) (v9 (sIf (bCmp oEq (eV 0) (eC (.str ""))) (zv (eL (jf qi))) j7) xj (q4r (xq (eL (kb (eV 0) (eC (.str "\n"))))) [none] (bN 0) (qk (qq 1 [] zh) (qc (eV 0) qi)) (ya 1 x_line_read (qc (eV 0) qi)))))
noncomputable def x_lines_of:List D->Option XV:=fun ds=>(wu (q5l 1 ds)).map (·.1)
theorem qe0{fa:Addr}{cdv:Value}{A:Around}{outer:List Env}{s:Shared}{H:Hp}{E:XK}{a_line_read:Addr}{fd_line_read:FuncData}(c_17:Cal P w K mg base "line_read" 3 ["line"] 1 zh a_line_read fd_line_read)(b_17:Binds K fd_line_read ["line"] [])(n_isinstance:mg "isinstance" = none)(n_str:mg "str" = none)(gr_line_read:FnOk P w K mg base (CXR P w) 3 a_line_read fd_line_read ["line"] (spR K 1 x_line_read)){C_NoText:Addr}(e_NoText:q5k K C_NoText)(m_NoText:mg "NoText" = some (.ref C_NoText))(ns_NoText:PySem.W.nsIn K mainGlobals "NoText" = some (some (.ref C_NoText)))(hr:Room 3 (A.deeper (envOfC "lines_of" (qj v3) s.heap.objs.size fa cdv))):
  PSs (qv (CXR P w) P w K mg base q2h "lines_of" (qj v3) fa cdv A outer s H E) (za v3) (tXS K wu E):=by
 unfold wu;refine(q0v (PS.nox ?_) (qb8 (PT.nox ?_) (q5n (qca e_NoText rfl m_NoText ns_NoText)) q0k) (q0v (PS.nox ?_) q4m (q5n (qp1 (qmx (N':=["line"]) (cap:=[none]) (xg rfl rfl) (jm rfl) ?_ (fun _ _ _ _ _=>(zx qb1 rfl (Or.inl rfl) (.inr rfl))) (fun _ _ _ _ _=>?_) (fun _ _ _ _ _=>(qmw gr_line_read hr (by decide) rfl c_17.mg c_17.kp b_17 ?_)))))));refine(zt ?_ (qr w8) zj);refine(jz ?_);refine(j5 ?_);refine(q32 .str rfl n_isinstance rfl n_str DL.boot_str ?_);exact(qa (pv 0));refine(jz ?_);refine(j5 ?_);refine(q32 .str rfl n_isinstance rfl n_str DL.boot_str ?_);exact(qa (pv 0));refine(zt ?_ (qr ?_) zj);refine(zy (q0u hr.units) ?_ qp);exact(qa (pv 0));refine(zc ?_);refine(zp ?_);exact(zi qf);refine(k8 ?_);refine(zp ?_);refine(q4n ?_ qp);exact(qa (pv 0));refine(z5 c_17 b_17 hr (by decide) rfl ?_);walk_at "A";exact(qa (pv 0));exact qf;walk_at "A";exact(qa (pv 0));exact qf
theorem qcy{fa:Addr}{dV:Value}{fd:FuncData}(F:Fun2 K "lines_of" "lines_of" v3 dV fa fd){a_line_read:Addr}{fd_line_read:FuncData}(c_17:Cal P w K mg base "line_read" 3 ["line"] 1 zh a_line_read fd_line_read)(b_17:Binds K fd_line_read ["line"] [])(n_isinstance:mg "isinstance" = none)(n_str:mg "str" = none)(gr_line_read:FnOk P w K mg base (CXR P w) 3 a_line_read fd_line_read ["line"] (spR K 1 x_line_read)){C_NoText:Addr}(e_NoText:q5k K C_NoText)(m_NoText:mg "NoText" = some (.ref C_NoText))(ns_NoText:PySem.W.nsIn K mainGlobals "NoText" = some (some (.ref C_NoText))): FnOk P w K mg base (CXR P w) 4 fa fd ["text"] (spR K 1 x_lines_of):=
 q5o (k:=3) (v:=wu) F q72 rfl rfl rfl fun cdv A outer s H E hr=>qe0 c_17 b_17 n_isinstance n_str gr_line_read e_NoText m_NoText ns_NoText hr
abbrev xu:Stmt:=top 23
noncomputable def q0g:List Str:=["lines","named","many","names","name"]
theorem vd:(q0g).Nodup:=by decide +kernel
theorem q6v:FnScope q0g ["lines"] (qj xu):=⟨rfl,rfl,rfl,vd,rfl,by decide +kernel,by decide +kernel⟩
noncomputable def yy:FS:=(qw (qch 1 2 3 4 (xq (eV 0))) (zv (eV 1)))
noncomputable def j8:List D->Option D:=j6 5 yy
theorem q2c{fa:Addr}{cdv:Value}{A:Around}{outer:List Env}{s:Shared}{H:Hp}{E:XK}(n_len:mg "len" = none)(hr:Room 0 (A.deeper (envOfC "places_by_name" (qj xu) s.heap.objs.size fa cdv))):
  PSs (qv CX0 P w K mg base q0g "places_by_name" (qj xu) fa cdv A outer s H E).nox (za xu) (tDS K yy):=by
 unfold yy;refine(qpf (by decide) (by decide) (by decide) (by decide) (by decide) (by decide) pq rfl rfl n_len (q7y (i:=1) vd rfl (Or.inl rfl) qpd) ?_ (q6b vd rfl (Or.inl rfl)) (q6b vd rfl (Or.inl rfl)) (k8 (qa (pv 3))) (q6b vd rfl (Or.inl rfl)) (pv 1) (pv 4) (pv 1) ?_);refine(k8 ?_);exact(qa (pv 0));refine(qr ?_);refine(zc ?_);exact(qa (pv 1))
theorem q6w{fa:Addr}{dV:Value}{fd:FuncData}(F:Fun2 K "places_by_name" "places_by_name" xu dV fa fd)(n_len:mg "len" = none): FnOk P w K mg base CX0 1 fa fd ["lines"] (spD K 1 j8):=
 F.okn (k:=0) (n:=5) (ar:=1) (k1:=1) (u:=yy) q6v rfl rfl rfl fun cdv A outer s H E hr=>(by first|(with_reducible exact q2c n_len hr)|exact q2c n_len hr)
abbrev q06:Stmt:=top 16
noncomputable def q8o:List Str:=["text","lines","named","runs"]
theorem q1h:(q8o).Nodup:=by decide +kernel
theorem qeu:FnScope q8o ["text"] (qj q06):=⟨rfl,rfl,rfl,q1h,rfl,by decide +kernel,by decide +kernel⟩
theorem qaj:(["many","names","named"]:List Str).Nodup:=by decide +kernel
theorem qij:(["name","named"]:List Str).Nodup:=by decide +kernel
noncomputable def q8p:FS:=(qw (zg 1 (qk (qq 1 [] vf) (qc (eV 0) qi))) (qw (zg 2 (qk (qq 1 [] j8) (qc (eV 1) qi))) (qw (sIf (bCmp oGt (qk q12 (qc (eV 2) qi)) (eC (.int 12))) q02 j7) (qw (sIf (bCmp oGt (qk jw (qc (eV 1) qi)) (eC (.int 200))) q02 j7) (qw (q27 3 (jl (xq (eV 1)) [none,none,some 2] (q30 2 (yu (bN 0) (yu (bN 1) q2z))) j9 (vt (qc (eV 0) (qc (qk ka (qc (eL (q2e q1e (qc (eL (jl (xq (eV 1)) [none,some 2] (bN 0) j9 (eOp q11 (eV 1) (eV 0)))) qi))) qi)) qi))))) (q1d 3 (zv (vt (qc (qk q8g (qc (eV 2) qi)) (qc (vt (qc (qk q12 (qc (eV 2) qi)) (qc (qk ka (qc (eV 3) qi)) qi))) qi))))))))))
noncomputable def yo:List D->Option D:=j6 4 q8p
theorem qev{fa:Addr}{cdv:Value}{A:Around}{outer:List Env}{s:Shared}{H:Hp}{E:XK}{a_lines_of:Addr}{fd_lines_of:FuncData}(c_18:Cal P w K mg base "lines_of" 4 ["text"] 1 vf a_lines_of fd_lines_of)(b_18:Binds K fd_lines_of ["text"] []){a_places_by_name:Addr}{fd_places_by_name:FuncData}(c_19:Cal P w K mg base "places_by_name" 1 ["lines"] 1 j8 a_places_by_name fd_places_by_name)(b_19:Binds K fd_places_by_name ["lines"] [])(n_len:mg "len" = none)(n_tuple:mg "tuple" = none)(n_sorted:mg "sorted" = none)(g_MOST_WARES:∃t,mg "MOST_WARES" = some (.int 12 t))(g_MOST_RUNS:∃t,mg "MOST_RUNS" = some (.int 200 t))(hr:Room 4 (A.deeper (envOfC "read" (qj q06) s.heap.objs.size fa cdv))):
  PSs (qv CX0 P w K mg base q8o "read" (qj q06) fa cdv A outer s H E).nox (za q06) (tDS K q8p):=by
 unfold q8p;refine(qm ?_ ?_);refine(qy (i:=1) ?_ ?_ ?_ ?_ ?_ ?_);exact q1h;exact rfl;exact(Or.inl rfl);refine(z5 c_18 b_18 hr (by decide) rfl ?_);walk_at "A";exact(qa (pv 0));exact qf;exact rfl;walk_at "L";refine(qm ?_ ?_);refine(qy (i:=2) ?_ ?_ ?_ ?_ ?_ ?_);exact q1h;exact rfl;exact(Or.inr rfl);refine(z5 c_19 b_19 hr (by decide) rfl ?_);walk_at "A";exact(qa (pv 1));exact qf;exact rfl;walk_at "L";refine(qm ?_ ?_);refine(zt ?_ (qr w8) zj);refine(zy q0t ?_ ?_);refine(ze (q6l) rfl n_len DL.zd ?_);walk_at "A";exact(qa (pv 2));exact qf;exact(ym rfl g_MOST_WARES);refine(qm ?_ ?_);refine(zt ?_ (qr w8) zj);refine(zy q0t ?_ ?_);refine(ze (xa) rfl n_len DL.zd ?_);walk_at "A";exact(qa (pv 1));exact qf;exact(ym rfl g_MOST_RUNS);refine(qm ?_ ?_);refine(qee (i:=3) rfl q1h rfl rfl (N':=["many","names","named"]) (cap:=[none,none,some 2]) (xg rfl rfl) (qi2 (q6z rfl (q6z rfl qfv))) ?_ (fun _ _ _ _ _=>(qbt rfl (q2p (zx qaj rfl (Or.inl rfl) (.inr rfl)) (q2p (zx qaj rfl (Or.inl rfl) (.inr rfl)) qbs)))) (fun _ _ _ _ _=>k9) (fun _ _ _ _ _=>?_));refine(k8 ?_);exact(qa (pv 1));refine(vc ?_);walk_at "A";exact(qa (pv 0));walk_at "A";refine(vg (q33) rfl n_tuple DL.boot_tuple ?_);walk_at "A";refine(zp ?_);refine(qjs (qi6 rfl) rfl n_sorted DL.boot_sorted ?_);walk_at "A";refine(zp ?_);refine(yl (N':=["name","named"]) (cap:=[none,some 2]) rfl (xg rfl rfl) (jm rfl) ?_ (fun _ _ _ _ _=>(zx qij rfl (Or.inl rfl) (.inr rfl))) (fun _ _ _ _ _=>k9) (fun _ _ _ _ _=>?_));refine(k8 ?_);exact(qa (pv 1));refine(qmn ?_ ?_);exact(qa (pv 1));exact(qa (pv 0));exact qf;exact qf;exact qf;refine(q2y 3 (qr ?_));refine(zc ?_);refine(vc ?_);walk_at "A";refine(vg (qmp rfl) rfl n_tuple DL.boot_tuple ?_);walk_at "A";exact(qa (pv 2));exact qf;walk_at "A";refine(vc ?_);walk_at "A";refine(ze (q6l) rfl n_len DL.zd ?_);walk_at "A";exact(qa (pv 2));exact qf;walk_at "A";refine(vg (q33) rfl n_tuple DL.boot_tuple ?_);walk_at "A";exact(qa (pv 3));exact qf;exact qf;exact qf
theorem qmy{fa:Addr}{dV:Value}{fd:FuncData}(F:Fun2 K "read" "read" q06 dV fa fd){a_lines_of:Addr}{fd_lines_of:FuncData}(c_18:Cal P w K mg base "lines_of" 4 ["text"] 1 vf a_lines_of fd_lines_of)(b_18:Binds K fd_lines_of ["text"] []){a_places_by_name:Addr}{fd_places_by_name:FuncData}(c_19:Cal P w K mg base "places_by_name" 1 ["lines"] 1 j8 a_places_by_name fd_places_by_name)(b_19:Binds K fd_places_by_name ["lines"] [])(n_len:mg "len" = none)(n_tuple:mg "tuple" = none)(n_sorted:mg "sorted" = none)(g_MOST_WARES:∃t,mg "MOST_WARES" = some (.int 12 t))(g_MOST_RUNS:∃t,mg "MOST_RUNS" = some (.int 200 t)): FnOk P w K mg base CX0 5 fa fd ["text"] (spD K 1 yo):=
 F.okn (k:=4) (n:=4) (ar:=1) (k1:=5) (u:=q8p) qeu rfl rfl rfl fun cdv A outer s H E hr=>(by first|(with_reducible exact qev c_18 b_18 c_19 b_19 n_len n_tuple n_sorted g_MOST_WARES g_MOST_RUNS hr)|exact qev c_18 b_18 c_19 b_19 n_len n_tuple n_sorted g_MOST_WARES g_MOST_RUNS hr)
noncomputable def q41:FX:=(v9 (zg 1 (qk (qq 1 [] vf) (qc (eV 0) qi))) (ya 1 x_lines_of (qc (eV 0) qi)) (v9 (zg 2 (qk (qq 1 [] j8) (qc (eV 1) qi))) xj (v9 (sIf (bCmp oGt (qk q12 (qc (eV 2) qi)) (eC (.int 12))) q02 j7) (xIf (bCmp oGt (qk q12 (qc (eV 2) qi)) (eC (.int 12))) (q9d "TooGreat" "most" (eC (.int 12))) xj) (v9 (sIf (bCmp oGt (qk jw (qc (eV 1) qi)) (eC (.int 200))) q02 j7) (xIf (bCmp oGt (qk jw (qc (eV 1) qi)) (eC (.int 200))) (q9d "TooGreat" "most" (eC (.int 200))) xj) xj))))
noncomputable def x_read:List D->Option XV:=fun ds=>(q41 (q5l 4 ds)).map (·.1)
theorem qmz{fa:Addr}{cdv:Value}{A:Around}{outer:List Env}{s:Shared}{H:Hp}{E:XK}{a_lines_of:Addr}{fd_lines_of:FuncData}(c_18:Cal P w K mg base "lines_of" 4 ["text"] 1 vf a_lines_of fd_lines_of)(b_18:Binds K fd_lines_of ["text"] []){a_places_by_name:Addr}{fd_places_by_name:FuncData}(c_19:Cal P w K mg base "places_by_name" 1 ["lines"] 1 j8 a_places_by_name fd_places_by_name)(b_19:Binds K fd_places_by_name ["lines"] [])(n_len:mg "len" = none)(n_tuple:mg "tuple" = none)(n_sorted:mg "sorted" = none)(g_MOST_WARES:∃t,mg "MOST_WARES" = some (.int 12 t))(g_MOST_RUNS:∃t,mg "MOST_RUNS" = some (.int 200 t))(gr_lines_of:FnOk P w K mg base (CXR P w) 4 a_lines_of fd_lines_of ["text"] (spR K 1 x_lines_of)){C_TooGreat fI_TooGreat:Addr}{fdI_TooGreat:FuncData}(ei_TooGreat:q03 K C_TooGreat fI_TooGreat=true)(gI_TooGreat:FnOk P w K mg base CX0 1 fI_TooGreat fdI_TooGreat ["self","most"] (spI C_TooGreat "most"))(bI_TooGreat:Binds K fdI_TooGreat ["self","most"] [])(tI_TooGreat:PySem.W.typeIn K (.ref fI_TooGreat)=some (.type "function"))(kp_TooGreat:PySem.W.keepIn K (.ref C_TooGreat)=true)(m_TooGreat:mg "TooGreat" = some (.ref C_TooGreat))(ns_TooGreat:PySem.W.nsIn K mainGlobals "TooGreat" = some (some (.ref C_TooGreat)))(hr:Room 4 (A.deeper (envOfC "read" (qj q06) s.heap.objs.size fa cdv))):
  PSs (qv (CXR P w) P w K mg base q8o "read" (qj q06) fa cdv A outer s H E) (za q06) (tXS K q41 E):=by
 unfold q41;refine(q0v (PS.nox ?_) (qp2 (i:=1) q1h rfl (Or.inl rfl) (qm8 gr_lines_of hr (by decide) rfl c_18.mg c_18.kp b_18 ?_)) (q0v (PS.nox ?_) q4m (q0v (PS.nox ?_) (qb8 (PT.nox ?_) (q5n (qaf ei_TooGreat gI_TooGreat bI_TooGreat tI_TooGreat kp_TooGreat hr (by decide) rfl m_TooGreat ns_TooGreat ?_)) q0k) (q0v (PS.nox ?_) (qb8 (PT.nox ?_) (q5n (qaf ei_TooGreat gI_TooGreat bI_TooGreat tI_TooGreat kp_TooGreat hr (by decide) rfl m_TooGreat ns_TooGreat ?_)) q0k) q0k))));refine(qy (i:=1) ?_ ?_ ?_ ?_ ?_ ?_);exact q1h;exact rfl;exact(Or.inl rfl);refine(z5 c_18 b_18 hr (by decide) rfl ?_);walk_at "A";exact(qa (pv 0));exact qf;exact rfl;walk_at "L";walk_at "A";exact(qa (pv 0));exact qf;refine(qy (i:=2) ?_ ?_ ?_ ?_ ?_ ?_);exact q1h;exact rfl;exact(Or.inr rfl);refine(z5 c_19 b_19 hr (by decide) rfl ?_);walk_at "A";exact(qa (pv 1));exact qf;exact rfl;walk_at "L";refine(zt ?_ (qr w8) zj);refine(zy q0t ?_ ?_);refine(ze (q6l) rfl n_len DL.zd ?_);walk_at "A";exact(qa (pv 2));exact qf;exact(ym rfl g_MOST_WARES);refine(zy q0t ?_ ?_);refine(ze (q6l) rfl n_len DL.zd ?_);walk_at "A";exact(qa (pv 2));exact qf;exact(ym rfl g_MOST_WARES);exact(ym rfl g_MOST_WARES);refine(zt ?_ (qr w8) zj);refine(zy q0t ?_ ?_);refine(ze (xa) rfl n_len DL.zd ?_);walk_at "A";exact(qa (pv 1));exact qf;exact(ym rfl g_MOST_RUNS);refine(zy q0t ?_ ?_);refine(ze (xa) rfl n_len DL.zd ?_);walk_at "A";exact(qa (pv 1));exact qf;exact(ym rfl g_MOST_RUNS);exact(ym rfl g_MOST_RUNS)
theorem qkh{fa:Addr}{dV:Value}{fd:FuncData}(F:Fun2 K "read" "read" q06 dV fa fd){a_lines_of:Addr}{fd_lines_of:FuncData}(c_18:Cal P w K mg base "lines_of" 4 ["text"] 1 vf a_lines_of fd_lines_of)(b_18:Binds K fd_lines_of ["text"] []){a_places_by_name:Addr}{fd_places_by_name:FuncData}(c_19:Cal P w K mg base "places_by_name" 1 ["lines"] 1 j8 a_places_by_name fd_places_by_name)(b_19:Binds K fd_places_by_name ["lines"] [])(n_len:mg "len" = none)(n_tuple:mg "tuple" = none)(n_sorted:mg "sorted" = none)(g_MOST_WARES:∃t,mg "MOST_WARES" = some (.int 12 t))(g_MOST_RUNS:∃t,mg "MOST_RUNS" = some (.int 200 t))(gr_lines_of:FnOk P w K mg base (CXR P w) 4 a_lines_of fd_lines_of ["text"] (spR K 1 x_lines_of)){C_TooGreat fI_TooGreat:Addr}{fdI_TooGreat:FuncData}(ei_TooGreat:q03 K C_TooGreat fI_TooGreat=true)(gI_TooGreat:FnOk P w K mg base CX0 1 fI_TooGreat fdI_TooGreat ["self","most"] (spI C_TooGreat "most"))(bI_TooGreat:Binds K fdI_TooGreat ["self","most"] [])(tI_TooGreat:PySem.W.typeIn K (.ref fI_TooGreat)=some (.type "function"))(kp_TooGreat:PySem.W.keepIn K (.ref C_TooGreat)=true)(m_TooGreat:mg "TooGreat" = some (.ref C_TooGreat))(ns_TooGreat:PySem.W.nsIn K mainGlobals "TooGreat" = some (some (.ref C_TooGreat))): FnOk P w K mg base (CXR P w) 5 fa fd ["text"] (spR K 1 x_read):=
 q5o (k:=4) (v:=q41) F qeu rfl rfl rfl fun cdv A outer s H E hr=>qmz c_18 b_18 c_19 b_19 n_len n_tuple n_sorted g_MOST_WARES g_MOST_RUNS gr_lines_of ei_TooGreat gI_TooGreat bI_TooGreat tI_TooGreat kp_TooGreat m_TooGreat ns_TooGreat hr
abbrev v5:Stmt:=top 31
noncomputable def q2j:List Str:=["_law_e","_law_others","_law_most"]
theorem q07:(q2j).Nodup:=by decide +kernel
theorem q74:FnScope q2j ["_law_e"] (qj v5):=⟨rfl,rfl,rfl,q07,rfl,by decide +kernel,by decide +kernel⟩
noncomputable def yz:FS:=(qw (zg 1 (eL (jf (qc (eUn (q0w [("NoText",false),("TooGreat",false)]) (eV 0)) (qc (eUn (q0w [("NoText",false),("TooGreat",false)]) (eV 0)) (qc (eUn (q0w [("NoText",false),("TooGreat",false)]) (eV 0)) (qc (eUn (q0w [("NoText",false),("TooGreat",false)]) (eV 0)) qi))))))) (qw (sIf (bOr (bCmp (oIn false) (eC (.bl true)) (eV 1)) (bOr (bT (eUn (q0w [("NoText",false),("TooGreat",false)]) (eV 0))) (v7 (bT (eUn (q0w [("NoText",true),("TooGreat",true)]) (eV 0)))))) (zv (eL (jf (qc (eC (.str "other")) qi)))) j7) (qw (sIf (q2v (bT (eUn (q0w [("NoText",true),("TooGreat",false)]) (eV 0))) (v7 (bT (eUn (q0w [("NoText",false),("TooGreat",true)]) (eV 0))))) (zv (eL (jf (qc (eC (.str "text")) qi)))) j7) (qw (sIf (q2v (bT (eUn (q0w [("NoText",false),("TooGreat",true)]) (eV 0))) (v7 (bT (eUn (q0w [("NoText",true),("TooGreat",false)]) (eV 0))))) (qw (zg 2 (eXF "TooGreat" "most" (eV 0))) (sIf (q2v (bT (q31 .int (eV 2))) (v7 (bT (q31 .bool (eV 2))))) (zv (eL (jf (qc (eC (.str "great")) (qc (eV 2) qi))))) j7)) j7) (zv (eL (jf (qc (eC (.str "other")) qi))))))))
noncomputable def yf:List D->Option D:=j6 3 yz
theorem q75{fa:Addr}{cdv:Value}{A:Around}{outer:List Env}{s:Shared}{H:Hp}{E:XK}{C_NoText:Addr}(ns_NoText:PySem.W.nsIn K mainGlobals "NoText" = some (some (.ref C_NoText)))(cx_NoText:yk K C_NoText)(m_NoText:mg "NoText" = some (.ref C_NoText)){C_TooGreat:Addr}(ns_TooGreat:PySem.W.nsIn K mainGlobals "TooGreat" = some (some (.ref C_TooGreat)))(cx_TooGreat:yk K C_TooGreat)(m_TooGreat:mg "TooGreat" = some (.ref C_TooGreat))(ci_TooGreat:ClsI K C_TooGreat "most"){C_NoRun:Addr}(m_NoRun:mg "NoRun" = some (.ref C_NoRun))(kt_NoText_NoRun:PySem.W.kitOne K (.ref C_NoText) (.ref C_NoRun)=some false){C_NoShare:Addr}(m_NoShare:mg "NoShare" = some (.ref C_NoShare))(kt_NoText_NoShare:PySem.W.kitOne K (.ref C_NoText) (.ref C_NoShare)=some false){C_NoStore:Addr}(m_NoStore:mg "NoStore" = some (.ref C_NoStore))(kt_NoText_NoStore:PySem.W.kitOne K (.ref C_NoText) (.ref C_NoStore)=some false){C_NoTree:Addr}(m_NoTree:mg "NoTree" = some (.ref C_NoTree))(kt_NoText_NoTree:PySem.W.kitOne K (.ref C_NoText) (.ref C_NoTree)=some false){C_NotThere:Addr}(m_NotThere:mg "NotThere" = some (.ref C_NotThere))(kt_NoText_NotThere:PySem.W.kitOne K (.ref C_NoText) (.ref C_NotThere)=some false)(kt_NoText_NoText:PySem.W.kitOne K (.ref C_NoText) (.ref C_NoText)=some true)(kt_NoText_TooGreat:PySem.W.kitOne K (.ref C_NoText) (.ref C_TooGreat)=some false)(kt_NoText_ValueError:PySem.W.kitOne K (.ref C_NoText) (.type "ValueError")=some true)(kt_TooGreat_NoRun:PySem.W.kitOne K (.ref C_TooGreat) (.ref C_NoRun)=some false)(kt_TooGreat_NoShare:PySem.W.kitOne K (.ref C_TooGreat) (.ref C_NoShare)=some false)(kt_TooGreat_NoStore:PySem.W.kitOne K (.ref C_TooGreat) (.ref C_NoStore)=some false)(kt_TooGreat_NoTree:PySem.W.kitOne K (.ref C_TooGreat) (.ref C_NoTree)=some false)(kt_TooGreat_NotThere:PySem.W.kitOne K (.ref C_TooGreat) (.ref C_NotThere)=some false)(kt_TooGreat_NoText:PySem.W.kitOne K (.ref C_TooGreat) (.ref C_NoText)=some false)(kt_TooGreat_TooGreat:PySem.W.kitOne K (.ref C_TooGreat) (.ref C_TooGreat)=some true)(kt_TooGreat_ValueError:PySem.W.kitOne K (.ref C_TooGreat) (.type "ValueError")=some true)(n_isinstance:mg "isinstance" = none)(n_ValueError:mg "ValueError" = none)(n_int:mg "int" = none)(n_bool:mg "bool" = none)(hr:Room 0 (A.deeper (envOfC "_law_word" (qj v5) s.heap.objs.size fa cdv))):
  PSs (qv CX0 P w K mg base q2j "_law_word" (qj v5) fa cdv A outer s H E).nox (za v5) (tDS K yz):=by
 unfold yz;refine(qm ?_ ?_);refine(qy (i:=1) ?_ ?_ ?_ ?_ ?_ ?_);exact q07;exact rfl;exact(Or.inl rfl);refine(zp ?_);refine(zi ?_);walk_at "A";refine(z6 ?_ ?_);refine(zb ns_NoText kt_NoText_NoRun rfl n_isinstance rfl m_NoRun ?_);exact(qa (pv 0));refine(z6 ?_ je);refine(zb ns_TooGreat kt_TooGreat_NoRun rfl n_isinstance rfl m_NoRun ?_);exact(qa (pv 0));walk_at "A";refine(z6 ?_ ?_);refine(zb ns_NoText kt_NoText_NoShare rfl n_isinstance rfl m_NoShare ?_);exact(qa (pv 0));refine(z6 ?_ je);refine(zb ns_TooGreat kt_TooGreat_NoShare rfl n_isinstance rfl m_NoShare ?_);exact(qa (pv 0));walk_at "A";refine(z6 ?_ ?_);refine(zb ns_NoText kt_NoText_NoStore rfl n_isinstance rfl m_NoStore ?_);exact(qa (pv 0));refine(z6 ?_ je);refine(zb ns_TooGreat kt_TooGreat_NoStore rfl n_isinstance rfl m_NoStore ?_);exact(qa (pv 0));walk_at "A";refine(z6 ?_ ?_);refine(zb ns_NoText kt_NoText_NoTree rfl n_isinstance rfl m_NoTree ?_);exact(qa (pv 0));refine(z6 ?_ je);refine(zb ns_TooGreat kt_TooGreat_NoTree rfl n_isinstance rfl m_NoTree ?_);exact(qa (pv 0));exact qf;exact rfl;walk_at "L";refine(qm ?_ ?_);refine(zt ?_ (qr ?_) zj);refine(PW.pt (q3c ?_ (q3c ?_ (q3v ?_))));refine(zy ql9 wo ?_);exact(qa (pv 1));refine(j5 ?_);refine(z6 ?_ ?_);refine(zb ns_NoText kt_NoText_NotThere rfl n_isinstance rfl m_NotThere ?_);exact(qa (pv 0));refine(z6 ?_ je);refine(zb ns_TooGreat kt_TooGreat_NotThere rfl n_isinstance rfl m_NotThere ?_);exact(qa (pv 0));refine(jz ?_);refine(j5 ?_);refine(z6 ?_ ?_);refine(q6i ns_NoText kt_NoText_ValueError rfl n_isinstance rfl n_ValueError PyProof.Rows.Boot.«ValueError» ?_);exact(qa (pv 0));refine(z6 ?_ je);refine(q6i ns_TooGreat kt_TooGreat_ValueError rfl n_isinstance rfl n_ValueError PyProof.Rows.Boot.«ValueError» ?_);exact(qa (pv 0));refine(zc ?_);refine(zp ?_);refine(zi ?_);walk_at "A";exact qp;exact qf;refine(qm ?_ ?_);refine(zt ?_ (qr ?_) zj);refine(PW.pt (q1y ?_ (q0j ?_)));refine(j5 ?_);refine(z6 ?_ ?_);refine(zb ns_NoText kt_NoText_NoText rfl n_isinstance rfl m_NoText ?_);exact(qa (pv 0));refine(z6 ?_ je);refine(zb ns_TooGreat kt_TooGreat_NoText rfl n_isinstance rfl m_NoText ?_);exact(qa (pv 0));refine(jz ?_);refine(j5 ?_);refine(z6 ?_ ?_);refine(zb ns_NoText kt_NoText_TooGreat rfl n_isinstance rfl m_TooGreat ?_);exact(qa (pv 0));refine(z6 ?_ je);refine(zb ns_TooGreat kt_TooGreat_TooGreat rfl n_isinstance rfl m_TooGreat ?_);exact(qa (pv 0));refine(zc ?_);refine(zp ?_);refine(zi ?_);walk_at "A";exact qp;exact qf;refine(qm ?_ ?_);refine(zt ?_ (qm ?_ ?_) zj);refine(PW.pt (q1y ?_ (q0j ?_)));refine(j5 ?_);refine(z6 ?_ ?_);refine(zb ns_NoText kt_NoText_TooGreat rfl n_isinstance rfl m_TooGreat ?_);exact(qa (pv 0));refine(z6 ?_ je);refine(zb ns_TooGreat kt_TooGreat_TooGreat rfl n_isinstance rfl m_TooGreat ?_);exact(qa (pv 0));refine(jz ?_);refine(j5 ?_);refine(z6 ?_ ?_);refine(zb ns_NoText kt_NoText_NoText rfl n_isinstance rfl m_NoText ?_);exact(qa (pv 0));refine(z6 ?_ je);refine(zb ns_TooGreat kt_TooGreat_NoText rfl n_isinstance rfl m_NoText ?_);exact(qa (pv 0));refine(qy (i:=2) ?_ ?_ ?_ ?_ ?_ ?_);exact q07;exact rfl;exact(Or.inl rfl);refine(qem ns_TooGreat ci_TooGreat ?_);exact(qa (pv 0));exact rfl;walk_at "L";refine(qr ?_);refine(zt ?_ (qr ?_) zj);refine(PW.pt (q1y ?_ (q0j ?_)));refine(j5 ?_);refine(q32 .int rfl n_isinstance rfl n_int DL.boot_int ?_);exact(qa (pv 2));refine(jz ?_);refine(j5 ?_);refine(q32 .bool rfl n_isinstance rfl n_bool DL.boot_bool ?_);exact(qa (pv 2));refine(zc ?_);refine(zp ?_);refine(zi ?_);walk_at "A";exact qp;walk_at "A";exact(qa (pv 2));exact qf;refine(qr ?_);refine(zc ?_);refine(zp ?_);refine(zi ?_);walk_at "A";exact qp;exact qf
theorem qe1{fa:Addr}{dV:Value}{fd:FuncData}(F:Fun2 K "_law_word" "_law_word" v5 dV fa fd){C_NoText:Addr}(ns_NoText:PySem.W.nsIn K mainGlobals "NoText" = some (some (.ref C_NoText)))(cx_NoText:yk K C_NoText)(m_NoText:mg "NoText" = some (.ref C_NoText)){C_TooGreat:Addr}(ns_TooGreat:PySem.W.nsIn K mainGlobals "TooGreat" = some (some (.ref C_TooGreat)))(cx_TooGreat:yk K C_TooGreat)(m_TooGreat:mg "TooGreat" = some (.ref C_TooGreat))(ci_TooGreat:ClsI K C_TooGreat "most"){C_NoRun:Addr}(m_NoRun:mg "NoRun" = some (.ref C_NoRun))(kt_NoText_NoRun:PySem.W.kitOne K (.ref C_NoText) (.ref C_NoRun)=some false){C_NoShare:Addr}(m_NoShare:mg "NoShare" = some (.ref C_NoShare))(kt_NoText_NoShare:PySem.W.kitOne K (.ref C_NoText) (.ref C_NoShare)=some false){C_NoStore:Addr}(m_NoStore:mg "NoStore" = some (.ref C_NoStore))(kt_NoText_NoStore:PySem.W.kitOne K (.ref C_NoText) (.ref C_NoStore)=some false){C_NoTree:Addr}(m_NoTree:mg "NoTree" = some (.ref C_NoTree))(kt_NoText_NoTree:PySem.W.kitOne K (.ref C_NoText) (.ref C_NoTree)=some false){C_NotThere:Addr}(m_NotThere:mg "NotThere" = some (.ref C_NotThere))(kt_NoText_NotThere:PySem.W.kitOne K (.ref C_NoText) (.ref C_NotThere)=some false)(kt_NoText_NoText:PySem.W.kitOne K (.ref C_NoText) (.ref C_NoText)=some true)(kt_NoText_TooGreat:PySem.W.kitOne K (.ref C_NoText) (.ref C_TooGreat)=some false)(kt_NoText_ValueError:PySem.W.kitOne K (.ref C_NoText) (.type "ValueError")=some true)(kt_TooGreat_NoRun:PySem.W.kitOne K (.ref C_TooGreat) (.ref C_NoRun)=some false)(kt_TooGreat_NoShare:PySem.W.kitOne K (.ref C_TooGreat) (.ref C_NoShare)=some false)(kt_TooGreat_NoStore:PySem.W.kitOne K (.ref C_TooGreat) (.ref C_NoStore)=some false)(kt_TooGreat_NoTree:PySem.W.kitOne K (.ref C_TooGreat) (.ref C_NoTree)=some false)(kt_TooGreat_NotThere:PySem.W.kitOne K (.ref C_TooGreat) (.ref C_NotThere)=some false)(kt_TooGreat_NoText:PySem.W.kitOne K (.ref C_TooGreat) (.ref C_NoText)=some false)(kt_TooGreat_TooGreat:PySem.W.kitOne K (.ref C_TooGreat) (.ref C_TooGreat)=some true)(kt_TooGreat_ValueError:PySem.W.kitOne K (.ref C_TooGreat) (.type "ValueError")=some true)(n_isinstance:mg "isinstance" = none)(n_ValueError:mg "ValueError" = none)(n_int:mg "int" = none)(n_bool:mg "bool" = none): FnOk P w K mg base CX0 1 fa fd ["_law_e"] (spD K 1 yf):=
 F.okn (k:=0) (n:=3) (ar:=1) (k1:=1) (u:=yz) q74 rfl rfl rfl fun cdv A outer s H E hr=>(by first|(with_reducible exact q75 ns_NoText cx_NoText m_NoText ns_TooGreat cx_TooGreat m_TooGreat ci_TooGreat m_NoRun kt_NoText_NoRun m_NoShare kt_NoText_NoShare m_NoStore kt_NoText_NoStore m_NoTree kt_NoText_NoTree m_NotThere kt_NoText_NotThere kt_NoText_NoText kt_NoText_TooGreat kt_NoText_ValueError kt_TooGreat_NoRun kt_TooGreat_NoShare kt_TooGreat_NoStore kt_TooGreat_NoTree kt_TooGreat_NotThere kt_TooGreat_NoText kt_TooGreat_TooGreat kt_TooGreat_ValueError n_isinstance n_ValueError n_int n_bool hr)|exact q75 ns_NoText cx_NoText m_NoText ns_TooGreat cx_TooGreat m_TooGreat ci_TooGreat m_NoRun kt_NoText_NoRun m_NoShare kt_NoText_NoShare m_NoStore kt_NoText_NoStore m_NoTree kt_NoText_NoTree m_NotThere kt_NoText_NotThere kt_NoText_NoText kt_NoText_TooGreat kt_NoText_ValueError kt_TooGreat_NoRun kt_TooGreat_NoShare kt_TooGreat_NoStore kt_TooGreat_NoTree kt_TooGreat_NotThere kt_TooGreat_NoText kt_TooGreat_TooGreat kt_TooGreat_ValueError n_isinstance n_ValueError n_int n_bool hr)
theorem qcz{fa:Addr}{cdv:Value}{A:Around}{outer:List Env}{s:Shared}{H:Hp}{E:XK}{aX:Addr}{C_NoText:Addr}(ns_NoText:PySem.W.nsIn K mainGlobals "NoText" = some (some (.ref C_NoText)))(cx_NoText:yk K C_NoText)(m_NoText:mg "NoText" = some (.ref C_NoText)){C_TooGreat:Addr}(ns_TooGreat:PySem.W.nsIn K mainGlobals "TooGreat" = some (some (.ref C_TooGreat)))(cx_TooGreat:yk K C_TooGreat)(m_TooGreat:mg "TooGreat" = some (.ref C_TooGreat))(ci_TooGreat:ClsI K C_TooGreat "most"){C_NoRun:Addr}(m_NoRun:mg "NoRun" = some (.ref C_NoRun))(kt_NoText_NoRun:PySem.W.kitOne K (.ref C_NoText) (.ref C_NoRun)=some false){C_NoShare:Addr}(m_NoShare:mg "NoShare" = some (.ref C_NoShare))(kt_NoText_NoShare:PySem.W.kitOne K (.ref C_NoText) (.ref C_NoShare)=some false){C_NoStore:Addr}(m_NoStore:mg "NoStore" = some (.ref C_NoStore))(kt_NoText_NoStore:PySem.W.kitOne K (.ref C_NoText) (.ref C_NoStore)=some false){C_NoTree:Addr}(m_NoTree:mg "NoTree" = some (.ref C_NoTree))(kt_NoText_NoTree:PySem.W.kitOne K (.ref C_NoText) (.ref C_NoTree)=some false){C_NotThere:Addr}(m_NotThere:mg "NotThere" = some (.ref C_NotThere))(kt_NoText_NotThere:PySem.W.kitOne K (.ref C_NoText) (.ref C_NotThere)=some false)(kt_NoText_NoText:PySem.W.kitOne K (.ref C_NoText) (.ref C_NoText)=some true)(kt_NoText_TooGreat:PySem.W.kitOne K (.ref C_NoText) (.ref C_TooGreat)=some false)(kt_NoText_ValueError:PySem.W.kitOne K (.ref C_NoText) (.type "ValueError")=some true)(kt_TooGreat_NoRun:PySem.W.kitOne K (.ref C_TooGreat) (.ref C_NoRun)=some false)(kt_TooGreat_NoShare:PySem.W.kitOne K (.ref C_TooGreat) (.ref C_NoShare)=some false)(kt_TooGreat_NoStore:PySem.W.kitOne K (.ref C_TooGreat) (.ref C_NoStore)=some false)(kt_TooGreat_NoTree:PySem.W.kitOne K (.ref C_TooGreat) (.ref C_NoTree)=some false)(kt_TooGreat_NotThere:PySem.W.kitOne K (.ref C_TooGreat) (.ref C_NotThere)=some false)(kt_TooGreat_NoText:PySem.W.kitOne K (.ref C_TooGreat) (.ref C_NoText)=some false)(kt_TooGreat_TooGreat:PySem.W.kitOne K (.ref C_TooGreat) (.ref C_TooGreat)=some true)(kt_TooGreat_ValueError:PySem.W.kitOne K (.ref C_TooGreat) (.type "ValueError")=some true)(n_isinstance:mg "isinstance" = none)(n_ValueError:mg "ValueError" = none)(n_int:mg "int" = none)(n_bool:mg "bool" = none)(hr:Room 0 (A.deeper (envOfC "_law_word" (qj v5) s.heap.objs.size fa cdv))):
  PSs (inX (qv CX0 P w K mg base q2j "_law_word" (qj v5) fa cdv A outer s H E).nox aX) (za v5) (tDS K yz):=by
 unfold yz;refine(qm ?_ ?_);refine(qy (i:=1) ?_ ?_ ?_ ?_ ?_ ?_);exact q07;exact rfl;exact(Or.inl rfl);refine(zp ?_);refine(zi ?_);walk_at "A";refine(z6 ?_ ?_);refine(zb ns_NoText kt_NoText_NoRun rfl n_isinstance rfl m_NoRun ?_);exact(qa (pv 0));refine(z6 ?_ je);refine(zb ns_TooGreat kt_TooGreat_NoRun rfl n_isinstance rfl m_NoRun ?_);exact(qa (pv 0));walk_at "A";refine(z6 ?_ ?_);refine(zb ns_NoText kt_NoText_NoShare rfl n_isinstance rfl m_NoShare ?_);exact(qa (pv 0));refine(z6 ?_ je);refine(zb ns_TooGreat kt_TooGreat_NoShare rfl n_isinstance rfl m_NoShare ?_);exact(qa (pv 0));walk_at "A";refine(z6 ?_ ?_);refine(zb ns_NoText kt_NoText_NoStore rfl n_isinstance rfl m_NoStore ?_);exact(qa (pv 0));refine(z6 ?_ je);refine(zb ns_TooGreat kt_TooGreat_NoStore rfl n_isinstance rfl m_NoStore ?_);exact(qa (pv 0));walk_at "A";refine(z6 ?_ ?_);refine(zb ns_NoText kt_NoText_NoTree rfl n_isinstance rfl m_NoTree ?_);exact(qa (pv 0));refine(z6 ?_ je);refine(zb ns_TooGreat kt_TooGreat_NoTree rfl n_isinstance rfl m_NoTree ?_);exact(qa (pv 0));exact qf;exact rfl;walk_at "L";refine(qm ?_ ?_);refine(zt ?_ (qr ?_) zj);refine(PW.pt (q3c ?_ (q3c ?_ (q3v ?_))));refine(zy ql9 wo ?_);exact(qa (pv 1));refine(j5 ?_);refine(z6 ?_ ?_);refine(zb ns_NoText kt_NoText_NotThere rfl n_isinstance rfl m_NotThere ?_);exact(qa (pv 0));refine(z6 ?_ je);refine(zb ns_TooGreat kt_TooGreat_NotThere rfl n_isinstance rfl m_NotThere ?_);exact(qa (pv 0));refine(jz ?_);refine(j5 ?_);refine(z6 ?_ ?_);refine(q6i ns_NoText kt_NoText_ValueError rfl n_isinstance rfl n_ValueError PyProof.Rows.Boot.«ValueError» ?_);exact(qa (pv 0));refine(z6 ?_ je);refine(q6i ns_TooGreat kt_TooGreat_ValueError rfl n_isinstance rfl n_ValueError PyProof.Rows.Boot.«ValueError» ?_);exact(qa (pv 0));refine(zc ?_);refine(zp ?_);refine(zi ?_);walk_at "A";exact qp;exact qf;refine(qm ?_ ?_);refine(zt ?_ (qr ?_) zj);refine(PW.pt (q1y ?_ (q0j ?_)));refine(j5 ?_);refine(z6 ?_ ?_);refine(zb ns_NoText kt_NoText_NoText rfl n_isinstance rfl m_NoText ?_);exact(qa (pv 0));refine(z6 ?_ je);refine(zb ns_TooGreat kt_TooGreat_NoText rfl n_isinstance rfl m_NoText ?_);exact(qa (pv 0));refine(jz ?_);refine(j5 ?_);refine(z6 ?_ ?_);refine(zb ns_NoText kt_NoText_TooGreat rfl n_isinstance rfl m_TooGreat ?_);exact(qa (pv 0));refine(z6 ?_ je);refine(zb ns_TooGreat kt_TooGreat_TooGreat rfl n_isinstance rfl m_TooGreat ?_);exact(qa (pv 0));refine(zc ?_);refine(zp ?_);refine(zi ?_);walk_at "A";exact qp;exact qf;refine(qm ?_ ?_);refine(zt ?_ (qm ?_ ?_) zj);refine(PW.pt (q1y ?_ (q0j ?_)));refine(j5 ?_);refine(z6 ?_ ?_);refine(zb ns_NoText kt_NoText_TooGreat rfl n_isinstance rfl m_TooGreat ?_);exact(qa (pv 0));refine(z6 ?_ je);refine(zb ns_TooGreat kt_TooGreat_TooGreat rfl n_isinstance rfl m_TooGreat ?_);exact(qa (pv 0));refine(jz ?_);refine(j5 ?_);refine(z6 ?_ ?_);refine(zb ns_NoText kt_NoText_NoText rfl n_isinstance rfl m_NoText ?_);exact(qa (pv 0));refine(z6 ?_ je);refine(zb ns_TooGreat kt_TooGreat_NoText rfl n_isinstance rfl m_NoText ?_);exact(qa (pv 0));refine(qy (i:=2) ?_ ?_ ?_ ?_ ?_ ?_);exact q07;exact rfl;exact(Or.inl rfl);refine(qem ns_TooGreat ci_TooGreat ?_);exact(qa (pv 0));exact rfl;walk_at "L";refine(qr ?_);refine(zt ?_ (qr ?_) zj);refine(PW.pt (q1y ?_ (q0j ?_)));refine(j5 ?_);refine(q32 .int rfl n_isinstance rfl n_int DL.boot_int ?_);exact(qa (pv 2));refine(jz ?_);refine(j5 ?_);refine(q32 .bool rfl n_isinstance rfl n_bool DL.boot_bool ?_);exact(qa (pv 2));refine(zc ?_);refine(zp ?_);refine(zi ?_);walk_at "A";exact qp;walk_at "A";exact(qa (pv 2));exact qf;refine(qr ?_);refine(zc ?_);refine(zp ?_);refine(zi ?_);walk_at "A";exact qp;exact qf
theorem qd0{fa:Addr}{dV:Value}{fd:FuncData}(F:Fun2 K "_law_word" "_law_word" v5 dV fa fd)(hmg:mg "_law_word" = some (.ref fa)){C_NoText:Addr}(ns_NoText:PySem.W.nsIn K mainGlobals "NoText" = some (some (.ref C_NoText)))(cx_NoText:yk K C_NoText)(m_NoText:mg "NoText" = some (.ref C_NoText)){C_TooGreat:Addr}(ns_TooGreat:PySem.W.nsIn K mainGlobals "TooGreat" = some (some (.ref C_TooGreat)))(cx_TooGreat:yk K C_TooGreat)(m_TooGreat:mg "TooGreat" = some (.ref C_TooGreat))(ci_TooGreat:ClsI K C_TooGreat "most"){C_NoRun:Addr}(m_NoRun:mg "NoRun" = some (.ref C_NoRun))(kt_NoText_NoRun:PySem.W.kitOne K (.ref C_NoText) (.ref C_NoRun)=some false){C_NoShare:Addr}(m_NoShare:mg "NoShare" = some (.ref C_NoShare))(kt_NoText_NoShare:PySem.W.kitOne K (.ref C_NoText) (.ref C_NoShare)=some false){C_NoStore:Addr}(m_NoStore:mg "NoStore" = some (.ref C_NoStore))(kt_NoText_NoStore:PySem.W.kitOne K (.ref C_NoText) (.ref C_NoStore)=some false){C_NoTree:Addr}(m_NoTree:mg "NoTree" = some (.ref C_NoTree))(kt_NoText_NoTree:PySem.W.kitOne K (.ref C_NoText) (.ref C_NoTree)=some false){C_NotThere:Addr}(m_NotThere:mg "NotThere" = some (.ref C_NotThere))(kt_NoText_NotThere:PySem.W.kitOne K (.ref C_NoText) (.ref C_NotThere)=some false)(kt_NoText_NoText:PySem.W.kitOne K (.ref C_NoText) (.ref C_NoText)=some true)(kt_NoText_TooGreat:PySem.W.kitOne K (.ref C_NoText) (.ref C_TooGreat)=some false)(kt_NoText_ValueError:PySem.W.kitOne K (.ref C_NoText) (.type "ValueError")=some true)(kt_TooGreat_NoRun:PySem.W.kitOne K (.ref C_TooGreat) (.ref C_NoRun)=some false)(kt_TooGreat_NoShare:PySem.W.kitOne K (.ref C_TooGreat) (.ref C_NoShare)=some false)(kt_TooGreat_NoStore:PySem.W.kitOne K (.ref C_TooGreat) (.ref C_NoStore)=some false)(kt_TooGreat_NoTree:PySem.W.kitOne K (.ref C_TooGreat) (.ref C_NoTree)=some false)(kt_TooGreat_NotThere:PySem.W.kitOne K (.ref C_TooGreat) (.ref C_NotThere)=some false)(kt_TooGreat_NoText:PySem.W.kitOne K (.ref C_TooGreat) (.ref C_NoText)=some false)(kt_TooGreat_TooGreat:PySem.W.kitOne K (.ref C_TooGreat) (.ref C_TooGreat)=some true)(kt_TooGreat_ValueError:PySem.W.kitOne K (.ref C_TooGreat) (.type "ValueError")=some true)(n_isinstance:mg "isinstance" = none)(n_ValueError:mg "ValueError" = none)(n_int:mg "int" = none)(n_bool:mg "bool" = none): CalH P w K mg base "_law_word" 1 ["_law_e"] 1 yf fa fd:=
 F.okH (k:=0) (n:=3) (ar:=1) (k1:=1) (u:=yz) q74 rfl rfl rfl hmg fun cdv A outer s H E a hr=>(by exact qcz ns_NoText cx_NoText m_NoText ns_TooGreat cx_TooGreat m_TooGreat ci_TooGreat m_NoRun kt_NoText_NoRun m_NoShare kt_NoText_NoShare m_NoStore kt_NoText_NoStore m_NoTree kt_NoText_NoTree m_NotThere kt_NoText_NotThere kt_NoText_NoText kt_NoText_TooGreat kt_NoText_ValueError kt_TooGreat_NoRun kt_TooGreat_NoShare kt_TooGreat_NoStore kt_TooGreat_NoTree kt_TooGreat_NotThere kt_TooGreat_NoText kt_TooGreat_TooGreat kt_TooGreat_ValueError n_isinstance n_ValueError n_int n_bool hr)
abbrev vz:Stmt:=top 32
noncomputable def q29:List Str:=["_law_thing","_law_seen","_law_e"]
theorem vp:(q29).Nodup:=by decide +kernel
theorem q9o:FnScope q29 ["_law_thing"] (qj vz):=⟨rfl,rfl,rfl,vp,rfl,by decide +kernel,by decide +kernel⟩
noncomputable def q0c:FS:=(qw (zg 1 (eL (jf qi))) (qw (q2f (q87 (qk (qq 1 [] yo) (qc (eV 0) qi))) (ya 1 x_read (qc (eV 0) qi)) ["TooGreat","NoText"] (qrb [("TooGreat",(sAs 2 "TooGreat" (zg 1 (qk (qq 1 [] yf) (qc (eV 2) qi))))),("NoText",(sAs 2 "NoText" (zg 1 (qk (qq 1 [] yf) (qc (eV 2) qi)))))])) (zv (eV 1))))
noncomputable def f_law_refused:List D->Option D:=j6 3 q0c
theorem q42{fa:Addr}{cdv:Value}{A:Around}{outer:List Env}{s:Shared}{H:Hp}{E:XK}{a_read:Addr}{fd_read:FuncData}(c_20:Cal P w K mg base "read" 5 ["text"] 1 yo a_read fd_read)(b_20:Binds K fd_read ["text"] []){a__law_word:Addr}{fd__law_word:FuncData}(c_16:Cal P w K mg base "_law_word" 1 ["_law_e"] 1 yf a__law_word fd__law_word)(b_16:Binds K fd__law_word ["_law_e"] []){C_NoText:Addr}(ns_NoText:PySem.W.nsIn K mainGlobals "NoText" = some (some (.ref C_NoText)))(cx_NoText:yk K C_NoText)(m_NoText:mg "NoText" = some (.ref C_NoText)){C_OftenError:Addr}(ns_OftenError:PySem.W.nsIn K mainGlobals "OftenError" = some (some (.ref C_OftenError)))(cx_OftenError:yk K C_OftenError)(m_OftenError:mg "OftenError" = some (.ref C_OftenError)){C_TooGreat:Addr}(ns_TooGreat:PySem.W.nsIn K mainGlobals "TooGreat" = some (some (.ref C_TooGreat)))(cx_TooGreat:yk K C_TooGreat)(m_TooGreat:mg "TooGreat" = some (.ref C_TooGreat))(tp_OftenError:PySem.W.typeIn K (.ref C_OftenError)=some (.type "type"))(mr_TooGreat_OftenError:PySem.W.mroIn K C_TooGreat (.ref C_OftenError)=some true)(mr_NoText_OftenError:PySem.W.mroIn K C_NoText (.ref C_OftenError)=some true)(gr_read:FnOk P w K mg base (CXR P w) 5 a_read fd_read ["text"] (spR K 1 x_read))(cH__law_word:CalH P w K mg base "_law_word" 1 ["_law_e"] 1 yf a__law_word fd__law_word)(hr:Room 5 (A.deeper (envOfC "_law_refused" (qj vz) s.heap.objs.size fa cdv))):
  PSs (qv CX0 P w K mg base q29 "_law_refused" (qj vz) fa cdv A outer s H E).nox (za vz) (tDS K q0c):=by
 unfold q0c;refine(qm ?_ ?_);refine(qy (i:=1) ?_ ?_ ?_ ?_ ?_ ?_);exact vp;exact rfl;exact(Or.inl rfl);refine(zp ?_);exact(zi qf);exact rfl;walk_at "L";refine(qm ?_ ?_);refine(qmg ⟨rfl,rfl⟩ ?_ ?_ ?_ ?_);intro pins σ0 Ex;refine PSs.nox ?_;refine(qr ?_);refine(qm3 ?_);refine(z5 c_20 b_20 hr (by decide) rfl ?_);walk_at "A";exact(qa (pv 0));exact qf;intro pins σ0 Ex;refine(qk8 (qmd (qmf gr_read hr (by decide) rfl c_20.mg c_20.kp b_20 ?_)));walk_at "A";exact(qa (pv 0));exact qf;intro y C hy hn;simp only [gx,g00,g1r] at hy;rcases hy with rfl|rfl;cases ns_TooGreat.symm.trans hn;refine(qlb (i:=2) cx_OftenError.1 tp_OftenError mr_TooGreat_OftenError ns_TooGreat cx_TooGreat rfl m_OftenError vp rfl rfl ?_);intro a;refine(qr ?_);refine(qy (i:=1) ?_ ?_ ?_ ?_ ?_ ?_);exact vp;exact rfl;exact(Or.inl rfl);refine(qet cH__law_word b_16 hr (by decide) rfl ?_);walk_at "A";exact(qa (pv 2));exact qf;exact rfl;walk_at "L";cases ns_NoText.symm.trans hn;refine(qlb (i:=2) cx_OftenError.1 tp_OftenError mr_NoText_OftenError ns_NoText cx_NoText rfl m_OftenError vp rfl rfl ?_);intro a;refine(qr ?_);refine(qy (i:=1) ?_ ?_ ?_ ?_ ?_ ?_);exact vp;exact rfl;exact(Or.inl rfl);refine(qet cH__law_word b_16 hr (by decide) rfl ?_);walk_at "A";exact(qa (pv 2));exact qf;exact rfl;walk_at "L";intro y hy;simp only [gx,g00,g1r] at hy;rcases hy with rfl|rfl;exact⟨_,ns_TooGreat⟩;exact⟨_,ns_NoText⟩;refine(qr ?_);refine(zc ?_);exact(qa (pv 1))
theorem q9p{fa:Addr}{dV:Value}{fd:FuncData}(F:Fun2 K "_law_refused" "_law_refused" vz dV fa fd){a_read:Addr}{fd_read:FuncData}(c_20:Cal P w K mg base "read" 5 ["text"] 1 yo a_read fd_read)(b_20:Binds K fd_read ["text"] []){a__law_word:Addr}{fd__law_word:FuncData}(c_16:Cal P w K mg base "_law_word" 1 ["_law_e"] 1 yf a__law_word fd__law_word)(b_16:Binds K fd__law_word ["_law_e"] []){C_NoText:Addr}(ns_NoText:PySem.W.nsIn K mainGlobals "NoText" = some (some (.ref C_NoText)))(cx_NoText:yk K C_NoText)(m_NoText:mg "NoText" = some (.ref C_NoText)){C_OftenError:Addr}(ns_OftenError:PySem.W.nsIn K mainGlobals "OftenError" = some (some (.ref C_OftenError)))(cx_OftenError:yk K C_OftenError)(m_OftenError:mg "OftenError" = some (.ref C_OftenError)){C_TooGreat:Addr}(ns_TooGreat:PySem.W.nsIn K mainGlobals "TooGreat" = some (some (.ref C_TooGreat)))(cx_TooGreat:yk K C_TooGreat)(m_TooGreat:mg "TooGreat" = some (.ref C_TooGreat))(tp_OftenError:PySem.W.typeIn K (.ref C_OftenError)=some (.type "type"))(mr_TooGreat_OftenError:PySem.W.mroIn K C_TooGreat (.ref C_OftenError)=some true)(mr_NoText_OftenError:PySem.W.mroIn K C_NoText (.ref C_OftenError)=some true)(gr_read:FnOk P w K mg base (CXR P w) 5 a_read fd_read ["text"] (spR K 1 x_read))(cH__law_word:CalH P w K mg base "_law_word" 1 ["_law_e"] 1 yf a__law_word fd__law_word): FnOk P w K mg base CX0 6 fa fd ["_law_thing"] (spD K 1 f_law_refused):=
 F.okn (k:=5) (n:=3) (ar:=1) (k1:=6) (u:=q0c) q9o rfl rfl rfl fun cdv A outer s H E hr=>(by first|(with_reducible exact q42 c_20 b_20 c_16 b_16 ns_NoText cx_NoText m_NoText ns_OftenError cx_OftenError m_OftenError ns_TooGreat cx_TooGreat m_TooGreat tp_OftenError mr_TooGreat_OftenError mr_NoText_OftenError gr_read cH__law_word hr)|exact q42 c_20 b_20 c_16 b_16 ns_NoText cx_NoText m_NoText ns_OftenError cx_OftenError m_OftenError ns_TooGreat cx_TooGreat m_TooGreat tp_OftenError mr_TooGreat_OftenError mr_NoText_OftenError gr_read cH__law_word hr)
abbrev kn:Stmt:=top 35
noncomputable def q3o:List Str:=["_law_many","_law_lines","_law_letters","_law_rows","_law_k"]
theorem q14:(q3o).Nodup:=by decide +kernel
theorem qd1:FnScope q3o ["_law_many","_law_lines"] (qj kn):=⟨rfl,rfl,rfl,q14,rfl,by decide +kernel,by decide +kernel⟩
noncomputable def wx:FS:=(q2x 3 (eOp j0 (eOp j0 (eC (.str "1: ")) (eOp oIxS (eV 2) (eOp oMod (eV 4) (eV 0)))) (eC (.str "x"))))
noncomputable def q1u:FS:=(qw (zg 2 (eC (.str "abcdefghijklmnopqrstuvwxyz"))) (qw (q27 3 (jf qi)) (qw (q28 (iR1 (qc (eV 1) qi)) (bN 4) wx) (q1d 3 (zv (eOp yw (eC (.str "\n")) (eV 3)))))))
noncomputable def q08:List D->Option D:=j6 5 q1u
theorem q65{fa:Addr}{cdv:Value}{A:Around}{outer:List Env}{s:Shared}{H:Hp}{E:XK}(n_range:mg "range" = none)(hr:Room 0 (A.deeper (envOfC "_law_great" (qj kn) s.heap.objs.size fa cdv))):
  PSs (qv CX0 P w K mg base q3o "_law_great" (qj kn) fa cdv A outer s H E).nox (za kn) (tDS K q1u):=by
 unfold q1u wx;refine(qm ?_ ?_);refine(qy (i:=2) ?_ ?_ ?_ qp ?_ ?_);exact q14;exact rfl;exact(Or.inl rfl);exact rfl;walk_at "L";refine(qm ?_ ?_);exact(q88 (i:=3) q14 rfl (Or.inl rfl) (zi qf));refine(qm ?_ ?_);refine(q20 pq rfl ?_ (zx q14 rfl (Or.inl rfl) (.inl rfl)) (qr ?_));refine(y9 rfl n_range ?_);walk_at "A";exact(qa (pv 1));exact qf;refine(q89 (pv 3) ?_);refine(qo xl ?_ qp);refine(qo xl qp ?_);refine(q10 ?_ ?_);exact(qa (pv 2));refine(qo zr ?_ ?_);exact(qa (pv 4));exact(qa (pv 0));refine(q2y 3 (qr ?_));refine(zc ?_);refine(q3y qp ?_);exact(qa (pv 3))
theorem qd2{fa:Addr}{dV:Value}{fd:FuncData}(F:Fun2 K "_law_great" "_law_great" kn dV fa fd)(n_range:mg "range" = none): FnOk P w K mg base CX0 1 fa fd ["_law_many","_law_lines"] (spD K 2 q08):=
 F.okn (k:=0) (n:=5) (ar:=2) (k1:=1) (u:=q1u) qd1 rfl rfl rfl fun cdv A outer s H E hr=>(by first|(with_reducible exact q65 n_range hr)|exact q65 n_range hr)
abbrev yp:Stmt:=top 36
noncomputable def q36:List Str:=["_law_script","_law_bad","_law_many","_law_lines","_law_text","_law_due","_law_at"]
theorem xn:(q36).Nodup:=by decide +kernel
theorem qb2:FnScope q36 ["_law_script","_law_bad"] (qj yp):=⟨rfl,rfl,rfl,xn,rfl,by decide +kernel,by decide +kernel⟩
noncomputable def kx:FS:=(qw (zg 4 (qk (qq 2 [] q08) (qc (eV 2) (qc (eV 3) qi)))) (qw (zg 5 (eL (jf qi))) (qw (sIf (bCmp oGt (eV 3) (eC (.int 200))) (zg 5 (eL (jf (qc (eC (.str "great")) (qc (eC (.int 200)) qi))))) j7) (qw (sIf (bCmp oGt (eV 2) (eC (.int 12))) (zg 5 (eL (jf (qc (eC (.str "great")) (qc (eC (.int 12)) qi))))) j7) (qw (sIf (bCmp q5i (qk (qq 1 [] f_law_refused) (qc (eV 4) qi)) (eV 5)) (zv (eC (.bl false))) j7) (qw (zg 6 (eOp oMod (qk (qq 2 [] qx) (qc (eV 0) (qc (eOp zu (eC (.int 70)) (eV 2)) qi))) (eC (.int 2)))) (sIf (bCmp q5i (qk (qq 1 [] f_law_refused) (qc (eOp oIx (eL (jf (qc (eOp j0 (eOp j0 (eV 4) (eC (.str "\n"))) (eV 1)) (qc (eOp j0 (eOp j0 (eV 1) (eC (.str "\n"))) (eV 4)) qi)))) (eV 6)) qi)) (eL (jf (qc (eC (.str "text")) qi)))) (zv (eC (.bl false))) j7)))))))
noncomputable def q15:FS:=(qw (q28 (xq (eL (jf (qc (vt (qc (eC (.int 11)) (qc (eC (.int 40)) qi))) (qc (vt (qc (eC (.int 12)) (qc (eC (.int 199)) qi))) (qc (vt (qc (eC (.int 13)) (qc (eC (.int 40)) qi))) (qc (vt (qc (eC (.int 14)) (qc (eC (.int 202)) qi))) (qc (vt (qc (eC (.int 12)) (qc (eC (.int 200)) qi))) (qc (vt (qc (eC (.int 12)) (qc (eC (.int 201)) qi))) (qc (vt (qc (eC (.int 3)) (qc (eC (.int 202)) qi))) (qc (vt (qc (eC (.int 13)) (qc (eC (.int 201)) qi))) qi))))))))))) (q30 2 (yu (bN 2) (yu (bN 3) q2z))) kx) (zv (eC (.bl true))))
noncomputable def wg:List D->Option D:=j6 7 q15
theorem q57{fa:Addr}{cdv:Value}{A:Around}{outer:List Env}{s:Shared}{H:Hp}{E:XK}{a__law_great:Addr}{fd__law_great:FuncData}(c_7:Cal P w K mg base "_law_great" 1 ["_law_many","_law_lines"] 2 q08 a__law_great fd__law_great)(b_7:Binds K fd__law_great ["_law_many","_law_lines"] []){a__law_refused:Addr}{fd__law_refused:FuncData}(c_12:Cal P w K mg base "_law_refused" 6 ["_law_thing"] 1 f_law_refused a__law_refused fd__law_refused)(b_12:Binds K fd__law_refused ["_law_thing"] []){a__law_mixed:Addr}{fd__law_mixed:FuncData}(c_8:Cal P w K mg base "_law_mixed" 1 ["_law_script","_law_k"] 2 qx a__law_mixed fd__law_mixed)(b_8:Binds K fd__law_mixed ["_law_script","_law_k"] [])(hr:Room 6 (A.deeper (envOfC "_law_bounds" (qj yp) s.heap.objs.size fa cdv))):
  PSs (qv CX0 P w K mg base q36 "_law_bounds" (qj yp) fa cdv A outer s H E).nox (za yp) (tDS K q15):=by
 unfold q15 kx;refine(qm ?_ ?_);refine(q20 (hp:=?hp) (hc:=?hc) ?ia ?ib ?ic ?id);(case hp=>exact pq);(case hc=>exact rfl);(case id=>intro _;rfl);(case ib=>exact(qbt rfl (q2p (zx xn rfl (Or.inl rfl) (.inl rfl)) (q2p (zx xn rfl (Or.inl rfl) (.inl rfl)) qbs))));rotate_left;refine(qm ?_ ?_);rotate_right;refine(k8 ?_);refine(zp ?_);refine(zi ?_);walk_at "A";refine(vc ?_);walk_at "A";exact qh;walk_at "A";exact qh;exact qf;walk_at "A";refine(vc ?_);walk_at "A";exact qh;walk_at "A";exact qh;exact qf;walk_at "A";refine(vc ?_);walk_at "A";exact qh;walk_at "A";exact qh;exact qf;walk_at "A";refine(vc ?_);walk_at "A";exact qh;walk_at "A";exact qh;exact qf;walk_at "A";refine(vc ?_);walk_at "A";exact qh;walk_at "A";exact qh;exact qf;walk_at "A";refine(vc ?_);walk_at "A";exact qh;walk_at "A";exact qh;exact qf;walk_at "A";refine(vc ?_);walk_at "A";exact qh;walk_at "A";exact qh;exact qf;walk_at "A";refine(vc ?_);walk_at "A";exact qh;walk_at "A";exact qh;exact qf;exact qf;refine(qy (i:=4) ?_ ?_ ?_ ?_ ?_ ?_);exact xn;exact rfl;exact(Or.inl rfl);refine(z5 c_7 b_7 hr (by decide) rfl ?_);walk_at "A";exact(qa (pv 2));walk_at "A";exact(qa (pv 3));exact qf;exact rfl;walk_at "L";refine(qm ?_ ?_);refine(qy (i:=5) ?_ ?_ ?_ ?_ ?_ ?_);exact xn;exact rfl;exact(Or.inl rfl);refine(zp ?_);exact(zi qf);exact rfl;walk_at "L";refine(qm ?_ ?_);refine(zt ?_ (qr ?_) zj);refine(zy q0t ?_ qh);exact(qa (pv 3));refine(qy (i:=5) ?_ ?_ ?_ ?_ ?_ ?_);exact xn;exact rfl;exact(Or.inl rfl);refine(zp ?_);refine(zi ?_);walk_at "A";exact qp;walk_at "A";exact qh;exact qf;exact rfl;walk_at "L";refine(qm ?_ ?_);refine(zt ?_ (qr ?_) zj);refine(zy q0t ?_ qh);exact(qa (pv 2));refine(qy (i:=5) ?_ ?_ ?_ ?_ ?_ ?_);exact xn;exact rfl;exact(Or.inl rfl);refine(zp ?_);refine(zi ?_);walk_at "A";exact qp;walk_at "A";exact qh;exact qf;exact rfl;walk_at "L";refine(qm ?_ ?_);refine(zt ?_ (qr ?_) zj);refine(zy (q5j hr.units) ?_ ?_);refine(z5 c_12 b_12 hr (by decide) rfl ?_);walk_at "A";exact(qa (pv 4));exact qf;exact(qa (pv 5));exact(zc wo);refine(qm ?_ ?_);refine(qy (i:=6) ?_ ?_ ?_ ?_ ?_ ?_);exact xn;exact rfl;exact(Or.inl rfl);refine(qo zr ?_ qh);refine(z5 c_8 b_8 hr (by decide) rfl ?_);walk_at "A";exact(qa (pv 0));walk_at "A";refine(qo zm qh ?_);exact(qa (pv 2));exact qf;exact rfl;walk_at "L";refine(qr ?_);refine(zt ?_ (qr ?_) zj);refine(zy (q5j hr.units) ?_ ?_);refine(z5 c_12 b_12 hr (by decide) rfl ?_);walk_at "A";refine(vx ?_ ?_);refine(zp ?_);refine(zi ?_);walk_at "A";refine(qo xl ?_ ?_);refine(qo xl ?_ qp);exact(qa (pv 4));exact(qa (pv 1));walk_at "A";refine(qo xl ?_ ?_);refine(qo xl ?_ qp);exact(qa (pv 1));exact(qa (pv 4));exact qf;exact(qa (pv 6));exact qf;refine(zp ?_);refine(zi ?_);walk_at "A";exact qp;exact qf;exact(zc wo);refine(qr ?_);exact(zc wo)
theorem qb3{fa:Addr}{dV:Value}{fd:FuncData}(F:Fun2 K "_law_bounds" "_law_bounds" yp dV fa fd){a__law_great:Addr}{fd__law_great:FuncData}(c_7:Cal P w K mg base "_law_great" 1 ["_law_many","_law_lines"] 2 q08 a__law_great fd__law_great)(b_7:Binds K fd__law_great ["_law_many","_law_lines"] []){a__law_refused:Addr}{fd__law_refused:FuncData}(c_12:Cal P w K mg base "_law_refused" 6 ["_law_thing"] 1 f_law_refused a__law_refused fd__law_refused)(b_12:Binds K fd__law_refused ["_law_thing"] []){a__law_mixed:Addr}{fd__law_mixed:FuncData}(c_8:Cal P w K mg base "_law_mixed" 1 ["_law_script","_law_k"] 2 qx a__law_mixed fd__law_mixed)(b_8:Binds K fd__law_mixed ["_law_script","_law_k"] []): FnOk P w K mg base CX0 7 fa fd ["_law_script","_law_bad"] (spD K 2 wg):=
 F.okn (k:=6) (n:=7) (ar:=2) (k1:=7) (u:=q15) qb2 rfl rfl rfl fun cdv A outer s H E hr=>(by first|(with_reducible exact q57 c_7 b_7 c_12 b_12 c_8 b_8 hr)|exact q57 c_7 b_7 c_12 b_12 c_8 b_8 hr)
abbrev y0:Stmt:=top 33
noncomputable def q2a:List Str:=["_law_text","_law_number","_law_kind","_law_far","_law_at","_law_gaps"]
theorem vq:(q2a).Nodup:=by decide +kernel
theorem q9q:FnScope q2a ["_law_text","_law_number"] (qj y0):=⟨rfl,rfl,rfl,vq,rfl,by decide +kernel,by decide +kernel⟩
theorem q7k:(["_law_k","_law_text"]:List Str).Nodup:=by decide +kernel
noncomputable def q0d:FS:=(qw (zg 2 (eOp oMod (eV 1) (eC (.int 3)))) (qw (zg 3 (eOp oDiv (eV 1) (eC (.int 3)))) (qw (zg 4 (eOp oMod (eV 3) (eOp zu (qk jw (qc (eV 0) qi)) (eC (.int 1))))) (qw (sIf (bCmp oEq (eV 2) (eC (.int 0))) (zv (eOp j0 (eOp j0 (kr (eV 0) oNo (oAt (eV 4))) (eOp oIxS (eC (.str "?-_.A,\t")) (eOp oMod (eOp oDiv (eV 3) (eC (.int 4096))) (eC (.int 7))))) (kr (eV 0) (oAt (eV 4)) oNo))) j7) (qw (zg 5 (eOp zu (eL (jf (qc (eC (.int 0)) (qc (qk jw (qc (eV 0) qi)) qi)))) (eL (jl (iR1 (qc (qk jw (qc (eV 0) qi)) qi)) [none,some 0] (bN 0) (bCmp q0z (eOp oIxS (eV 1) (eV 0)) (eC (.str " \n"))) (eV 0))))) (qw (zg 4 (eOp oIx (eV 5) (eOp oMod (eV 3) (qk jw (qc (eV 5) qi))))) (zv (eOp j0 (eOp j0 (kr (eV 0) oNo (oAt (eV 4))) (eOp oIxS (eC (.str " \n")) (eOp oSub (eV 2) (eC (.int 1))))) (kr (eV 0) (oAt (eV 4)) oNo)))))))))
noncomputable def kc:List D->Option D:=j6 6 q0d
theorem q43{fa:Addr}{cdv:Value}{A:Around}{outer:List Env}{s:Shared}{H:Hp}{E:XK}(n_len:mg "len" = none)(n_range:mg "range" = none)(hr:Room 0 (A.deeper (envOfC "_law_spoiled" (qj y0) s.heap.objs.size fa cdv))):
  PSs (qv CX0 P w K mg base q2a "_law_spoiled" (qj y0) fa cdv A outer s H E).nox (za y0) (tDS K q0d):=by
 unfold q0d;refine(qm ?_ ?_);refine(qy (i:=2) ?_ ?_ ?_ ?_ ?_ ?_);exact vq;exact rfl;exact(Or.inl rfl);refine(qo zr ?_ qh);exact(qa (pv 1));exact rfl;walk_at "L";refine(qm ?_ ?_);refine(qy (i:=3) ?_ ?_ ?_ ?_ ?_ ?_);exact vq;exact rfl;exact(Or.inl rfl);refine(qo q0s ?_ qh);exact(qa (pv 1));exact rfl;walk_at "L";refine(qm ?_ ?_);refine(qy (i:=4) ?_ ?_ ?_ ?_ ?_ ?_);exact vq;exact rfl;exact(Or.inl rfl);refine(qo zr ?_ ?_);exact(qa (pv 3));refine(qo zm ?_ qh);refine(ze (xa) rfl n_len DL.zd ?_);walk_at "A";exact(qa (pv 0));exact qf;exact rfl;walk_at "L";refine(qm ?_ ?_);refine(zt ?_ (qr ?_) zj);refine(zy (q0u hr.units) ?_ qh);exact(qa (pv 2));refine(zc ?_);refine(qo xl ?_ ?_);refine(qo xl ?_ ?_);refine(vj ?_ xh (jq ?_));exact(qa (pv 0));exact(qa (pv 4));refine(q10 qp ?_);refine(qo zr ?_ qh);refine(qo q0s ?_ qh);exact(qa (pv 3));refine(vj ?_ (jq ?_) xh);exact(qa (pv 0));exact(qa (pv 4));refine(qm ?_ ?_);refine(qy (i:=5) ?_ ?_ ?_ ?_ ?_ ?_);exact vq;exact rfl;exact(Or.inl rfl);refine(qo zm ?_ ?_);refine(zp ?_);refine(zi ?_);walk_at "A";exact qh;walk_at "A";refine(ze (xa) rfl n_len DL.zd ?_);walk_at "A";exact(qa (pv 0));exact qf;exact qf;refine(zp ?_);refine(yl (N':=["_law_k","_law_text"]) (cap:=[none,some 0]) rfl (xg rfl rfl) (jm rfl) ?_ (fun _ _ _ _ _=>(zx q7k rfl (Or.inl rfl) (.inr rfl))) (fun _ _ _ _ _=>(qoi ?_)) (fun _ _ _ _ _=>?_));refine(y9 rfl n_range ?_);walk_at "A";refine(ze (xa) rfl n_len DL.zd ?_);walk_at "A";exact(qa (pv 0));exact qf;exact qf;refine(zy qcc ?_ qp);refine(q10 ?_ ?_);exact(qa (pv 1));exact(qa (pv 0));exact(qa (pv 0));exact rfl;walk_at "L";refine(qm ?_ ?_);refine(qy (i:=4) ?_ ?_ ?_ ?_ ?_ ?_);exact vq;exact rfl;exact(Or.inl rfl);refine(vx ?_ ?_);exact(qa (pv 5));refine(qo zr ?_ ?_);exact(qa (pv 3));refine(ze (xa) rfl n_len DL.zd ?_);walk_at "A";exact(qa (pv 5));exact qf;exact rfl;walk_at "L";refine(qr ?_);refine(zc ?_);refine(qo xl ?_ ?_);refine(qo xl ?_ ?_);refine(vj ?_ xh (jq ?_));exact(qa (pv 0));exact(qa (pv 4));refine(q10 qp ?_);refine(qo qhs ?_ qh);exact(qa (pv 2));refine(vj ?_ (jq ?_) xh);exact(qa (pv 0));exact(qa (pv 4))
theorem q9r{fa:Addr}{dV:Value}{fd:FuncData}(F:Fun2 K "_law_spoiled" "_law_spoiled" y0 dV fa fd)(n_len:mg "len" = none)(n_range:mg "range" = none): FnOk P w K mg base CX0 1 fa fd ["_law_text","_law_number"] (spD K 2 kc):=
 F.okn (k:=0) (n:=6) (ar:=2) (k1:=1) (u:=q0d) q9q rfl rfl rfl fun cdv A outer s H E hr=>(by first|(with_reducible exact q43 n_len n_range hr)|exact q43 n_len n_range hr)
abbrev q6m:Stmt:=top 37
noncomputable def qgl:List Str:=["_law_script","_law_pile_here","_law_names_here","_law_lines","_law_many","_law_basket","_law_text","_law_k","_law_at","_law_bad","_law_thing"]
theorem ke:(qgl).Nodup:=by decide +kernel
theorem qpg:FnScope qgl ["_law_script"] (qj q6m):=⟨rfl,rfl,rfl,ke,rfl,by decide +kernel,by decide +kernel⟩
theorem qki:(["_law_ware","_law_names_here"]:List Str).Nodup:=by decide +kernel
noncomputable def q4x:FS:=(q2x 3 (eOp j0 (eOp j0 (qk q4q (qc (eV 4) qi)) (eC (.str ":"))) (eOp yw (eC (.str "")) (eL (jl (xq (eV 5)) [none,some 2] (bN 0) j9 (eOp j0 (eC (.str " ")) (eOp oIx (eV 1) (eV 0))))))))
noncomputable def q7l:FS:=(qw (sIf (bCmp q5i (qk (qq 1 [] f_law_refused) (qc (qk (qq 2 [] kc) (qc (eV 6) (qc (qk (qq 2 [] qx) (qc (eV 0) (qc (eOp zu (eC (.int 40)) (eV 7)) qi))) qi))) qi)) (eL (jf (qc (eC (.str "text")) qi)))) (zv (eC (.bl false))) j7) (sIf (bCmp qbn (qk jw (qc (eOp oIx (eOp oIx (qk (qq 1 [] yo) (qc (eV 6) qi)) (eC (.int 1))) (eC (.int 1))) qi)) (qk jw (qc (eV 3) qi))) (zv (eC (.bl false))) j7))
noncomputable def q7m:FS:=(qw (zg 8 (eOp oMod (qk (qq 2 [] qx) (qc (eV 0) (qc (eOp zu (eC (.int 50)) (eV 7)) qi))) (eOp zu (qk jw (qc (eV 3) qi)) (eC (.int 1))))) (qw (zg 9 (qk (qq 1 [] vn) (qc (eOp zu (qk (qq 2 [] qx) (qc (eV 0) (qc (eC (.int 60)) qi))) (eOp xi (eC (.int 5)) (eV 7))) qi))) (sIf (bCmp q5i (qk (qq 1 [] f_law_refused) (qc (eOp yw (eC (.str "\n")) (eOp zu (eOp zu (eSl (eV 3) oNo (oAt (eV 8))) (eL (jf (qc (eV 9) qi)))) (eSl (eV 3) (oAt (eV 8)) oNo))) qi)) (eL (jf (qc (eC (.str "text")) qi)))) (zv (eC (.bl false))) j7)))
noncomputable def q7n:FS:=(sIf (bCmp q5i (qk (qq 1 [] f_law_refused) (qc (eV 10) qi)) (eL (jf (qc (eC (.str "text")) qi)))) (zv (eC (.bl false))) j7)
noncomputable def qba:FS:=(qw (zg 1 (qk (qq 2 [] yc) (qc (eV 0) (qc (eC (.int 12)) qi)))) (qw (zg 2 (qk (qq 3 [] q05) (qc (eV 0) (qc (eC (.str "abcdefghijklmnopqrstuvwxyz")) (qc (eC (.int 12)) qi))))) (qw (q27 3 (jf (qc (eOp j0 (eC (.str "5: ")) (eOp oIx (eV 2) (eC (.int 0)))) qi))) (qw (q28 (xq (eOp oIx (eV 1) (eC (.int 1)))) (q30 2 (yu (bN 4) (yu (bN 5) q2z))) q4x) (q1d 3 (qw (zg 6 (eOp yw (eC (.str "\n")) (eV 3))) (qw (q28 (iR1 (qc (eC (.int 6)) qi)) (bN 7) q7l) (qw (q28 (iR1 (qc (eC (.int 8)) qi)) (bN 7) q7m) (qw (q28 (xq (eL (jf (qc (eC .non) (qc (eC (.int 3)) (qc (eC (.bl true)) (qc (vt (qc (eC (.str "1: a")) qi)) (qc (eL (jf (qc (eC (.str "1: a")) qi))) (qc qos (qc (eUn q98 (eC (.int 1))) qi)))))))))) (bN 10) q7n) (qw (sIf (q2v (bCmp oEq (eOp oMod (qk (qq 2 [] qx) (qc (eV 0) (qc (eC (.int 61)) qi))) (eC (.int 4))) (eC (.int 0))) (v7 (bT (qk (qq 2 [] wg) (qc (eV 0) (qc (qk (qq 1 [] vn) (qc (qk (qq 2 [] qx) (qc (eV 0) (qc (eC (.int 62)) qi))) qi)) qi)))))) (zv (eC (.bl false))) j7) (zv (eOp oEq (qk jw (qc (eOp oIx (eOp oIx (qk (qq 1 [] yo) (qc (eV 6) qi)) (eC (.int 1))) (eC (.int 1))) qi)) (qk jw (qc (eV 3) qi))))))))))))))
noncomputable def qgm:List D->Option D:=j6 11 qba
theorem qik{fa:Addr}{cdv:Value}{A:Around}{outer:List Env}{s:Shared}{H:Hp}{E:XK}{a__law_pile:Addr}{fd__law_pile:FuncData}(c_10:Cal P w K mg base "_law_pile" 3 ["_law_script","_law_most_wares"] 2 yc a__law_pile fd__law_pile)(b_10:Binds K fd__law_pile ["_law_script","_law_most_wares"] []){a__law_names:Addr}{fd__law_names:FuncData}(c_9:Cal P w K mg base "_law_names" 2 ["_law_script","_law_letters","_law_many"] 3 q05 a__law_names fd__law_names)(b_9:Binds K fd__law_names ["_law_script","_law_letters","_law_many"] []){a__law_bad_line:Addr}{fd__law_bad_line:FuncData}(c_5:Cal P w K mg base "_law_bad_line" 1 ["_law_number"] 1 vn a__law_bad_line fd__law_bad_line)(b_5:Binds K fd__law_bad_line ["_law_number"] []){a__law_refused:Addr}{fd__law_refused:FuncData}(c_12:Cal P w K mg base "_law_refused" 6 ["_law_thing"] 1 f_law_refused a__law_refused fd__law_refused)(b_12:Binds K fd__law_refused ["_law_thing"] []){a__law_mixed:Addr}{fd__law_mixed:FuncData}(c_8:Cal P w K mg base "_law_mixed" 1 ["_law_script","_law_k"] 2 qx a__law_mixed fd__law_mixed)(b_8:Binds K fd__law_mixed ["_law_script","_law_k"] []){a__law_bounds:Addr}{fd__law_bounds:FuncData}(c_6:Cal P w K mg base "_law_bounds" 7 ["_law_script","_law_bad"] 2 wg a__law_bounds fd__law_bounds)(b_6:Binds K fd__law_bounds ["_law_script","_law_bad"] []){a__law_spoiled:Addr}{fd__law_spoiled:FuncData}(c_15:Cal P w K mg base "_law_spoiled" 1 ["_law_text","_law_number"] 2 kc a__law_spoiled fd__law_spoiled)(b_15:Binds K fd__law_spoiled ["_law_text","_law_number"] []){a_read:Addr}{fd_read:FuncData}(c_20:Cal P w K mg base "read" 5 ["text"] 1 yo a_read fd_read)(b_20:Binds K fd_read ["text"] [])(n_range:mg "range" = none)(n_len:mg "len" = none)(n_str:mg "str" = none)(hr:Room 7 (A.deeper (envOfC "law" (qj q6m) s.heap.objs.size fa cdv))):
  PSs (qv CX0 P w K mg base qgl "law" (qj q6m) fa cdv A outer s H E).nox (za q6m) (tDS K qba):=by
 unfold qba q7n q7m q7l q4x;refine(qm ?_ ?_);refine(qy (i:=1) ?_ ?_ ?_ ?_ ?_ ?_);exact ke;exact rfl;exact(Or.inl rfl);refine(z5 c_10 b_10 hr (by decide) rfl ?_);walk_at "A";exact(qa (pv 0));walk_at "A";exact qh;exact qf;exact rfl;walk_at "L";refine(qm ?_ ?_);refine(qy (i:=2) ?_ ?_ ?_ ?_ ?_ ?_);exact ke;exact rfl;exact(Or.inr rfl);refine(z5 c_9 b_9 hr (by decide) rfl ?_);walk_at "A";exact(qa (pv 0));walk_at "A";exact qp;walk_at "A";exact qh;exact qf;exact rfl;walk_at "L";refine(qm ?_ ?_);refine(q88 (i:=3) ke rfl (Or.inl rfl) (zi ?_));walk_at "A";refine(qo xl qp ?_);refine(vx ?_ qh);exact(qa (pv 2));exact qf;refine(qm ?_ ?_);refine(q20 pq rfl ?_ (qbt rfl (q2p (zx ke rfl (Or.inl rfl) (.inl rfl)) (q2p (zx ke rfl (Or.inl rfl) (.inl rfl)) qbs))) (qr ?_));refine(k8 ?_);refine(vx ?_ qh);exact(qa (pv 1));refine(q89 (pv 3) ?_);refine(qo xl ?_ ?_);refine(qo xl ?_ qp);refine(vg (qih) rfl n_str DL.boot_str ?_);walk_at "A";exact(qa (pv 4));exact qf;refine(q3y qp ?_);refine(zp ?_);refine(yl (N':=["_law_ware","_law_names_here"]) (cap:=[none,some 2]) rfl (xg rfl rfl) (jm rfl) ?_ (fun _ _ _ _ _=>(zx qki rfl (Or.inl rfl) (.inr rfl))) (fun _ _ _ _ _=>k9) (fun _ _ _ _ _=>?_));refine(k8 ?_);exact(qa (pv 5));refine(qo xl qp ?_);refine(vx ?_ ?_);exact(qa (pv 1));exact(qa (pv 0));refine(q2y 3 (qm ?_ ?_));refine(qy (i:=6) ?_ ?_ ?_ ?_ ?_ ?_);exact ke;exact rfl;exact(Or.inl rfl);refine(q3y qp ?_);exact(qa (pv 3));exact rfl;walk_at "L";refine(qm ?_ ?_);refine(q20 pq rfl ?_ (zx ke rfl (Or.inl rfl) (.inl rfl)) (qm ?_ ?_));refine(y9 rfl n_range ?_);walk_at "A";exact qh;exact qf;refine(zt ?_ (qr ?_) zj);refine(zy (q5j hr.units) ?_ ?_);refine(z5 c_12 b_12 hr (by decide) rfl ?_);walk_at "A";refine(z5 c_15 b_15 hr (by decide) rfl ?_);walk_at "A";exact(qa (pv 6));walk_at "A";refine(z5 c_8 b_8 hr (by decide) rfl ?_);walk_at "A";exact(qa (pv 0));walk_at "A";refine(qo zm qh ?_);exact(qa (pv 7));exact qf;exact qf;exact qf;refine(zp ?_);refine(zi ?_);walk_at "A";exact qp;exact qf;exact(zc wo);refine(qr ?_);refine(zt ?_ (qr ?_) zj);refine(zy qht ?_ ?_);refine(ze (xa) rfl n_len DL.zd ?_);walk_at "A";refine(vx ?_ qh);refine(vx ?_ qh);refine(z5 c_20 b_20 hr (by decide) rfl ?_);walk_at "A";exact(qa (pv 6));exact qf;exact qf;refine(ze (xa) rfl n_len DL.zd ?_);walk_at "A";exact(qa (pv 3));exact qf;exact(zc wo);refine(qm ?_ ?_);refine(q20 pq rfl ?_ (zx ke rfl (Or.inl rfl) (.inl rfl)) (qm ?_ ?_));refine(y9 rfl n_range ?_);walk_at "A";exact qh;exact qf;refine(qy (i:=8) ?_ ?_ ?_ ?_ ?_ ?_);exact ke;exact rfl;exact(Or.inl rfl);refine(qo zr ?_ ?_);refine(z5 c_8 b_8 hr (by decide) rfl ?_);walk_at "A";exact(qa (pv 0));walk_at "A";refine(qo zm qh ?_);exact(qa (pv 7));exact qf;refine(qo zm ?_ qh);refine(ze (xa) rfl n_len DL.zd ?_);walk_at "A";exact(qa (pv 3));exact qf;exact rfl;walk_at "L";refine(qm ?_ ?_);refine(qy (i:=9) ?_ ?_ ?_ ?_ ?_ ?_);exact ke;exact rfl;exact(Or.inl rfl);refine(z5 c_5 b_5 hr (by decide) rfl ?_);walk_at "A";refine(qo zm ?_ ?_);refine(z5 c_8 b_8 hr (by decide) rfl ?_);walk_at "A";exact(qa (pv 0));walk_at "A";exact qh;exact qf;refine(qo xt qh ?_);exact(qa (pv 7));exact qf;exact rfl;walk_at "L";refine(qr ?_);refine(zt ?_ (qr ?_) zj);refine(zy (q5j hr.units) ?_ ?_);refine(z5 c_12 b_12 hr (by decide) rfl ?_);walk_at "A";refine(q3y qp ?_);refine(qo zm ?_ ?_);refine(qo zm ?_ ?_);refine(q34 ?_ xh (jq ?_));exact(qa (pv 3));exact(qa (pv 8));refine(zp ?_);refine(zi ?_);walk_at "A";exact(qa (pv 9));exact qf;refine(q34 ?_ (jq ?_) xh);exact(qa (pv 3));exact(qa (pv 8));exact qf;refine(zp ?_);refine(zi ?_);walk_at "A";exact qp;exact qf;exact(zc wo);refine(qm ?_ ?_);refine(q20 pq rfl ?_ (zx ke rfl (Or.inl rfl) (.inl rfl)) (qr ?_));refine(k8 ?_);refine(zp ?_);refine(zi ?_);walk_at "A";exact qoa;walk_at "A";exact qh;walk_at "A";exact wo;walk_at "A";refine(vc ?_);walk_at "A";exact qp;exact qf;walk_at "A";refine(zp ?_);refine(zi ?_);walk_at "A";exact qp;exact qf;walk_at "A";exact qot;walk_at "A";exact(qc0 qh);exact qf;refine(zt ?_ (qr ?_) zj);refine(zy (q5j hr.units) ?_ ?_);refine(z5 c_12 b_12 hr (by decide) rfl ?_);walk_at "A";exact(qa (pv 10));exact qf;refine(zp ?_);refine(zi ?_);walk_at "A";exact qp;exact qf;exact(zc wo);refine(qm ?_ ?_);refine(zt ?_ (qr ?_) zj);refine(PW.pt (q1y ?_ (q0j ?_)));refine(zy (q0u hr.units) ?_ qh);refine(qo zr ?_ qh);refine(z5 c_8 b_8 hr (by decide) rfl ?_);walk_at "A";exact(qa (pv 0));walk_at "A";exact qh;exact qf;refine(jz ?_);refine(j5 ?_);refine(z5 c_6 b_6 hr (by decide) rfl ?_);walk_at "A";exact(qa (pv 0));walk_at "A";refine(z5 c_5 b_5 hr (by decide) rfl ?_);walk_at "A";refine(z5 c_8 b_8 hr (by decide) rfl ?_);walk_at "A";exact(qa (pv 0));walk_at "A";exact qh;exact qf;exact qf;exact qf;exact(zc wo);refine(qr ?_);refine(zc ?_);refine(q5f (q0u hr.units) ?_ ?_);refine(ze (xa) rfl n_len DL.zd ?_);walk_at "A";refine(vx ?_ qh);refine(vx ?_ qh);refine(z5 c_20 b_20 hr (by decide) rfl ?_);walk_at "A";exact(qa (pv 6));exact qf;exact qf;refine(ze (xa) rfl n_len DL.zd ?_);walk_at "A";exact(qa (pv 3));exact qf
theorem qph{fa:Addr}{dV:Value}{fd:FuncData}(F:Fun2 K "law" "law" q6m dV fa fd){a__law_pile:Addr}{fd__law_pile:FuncData}(c_10:Cal P w K mg base "_law_pile" 3 ["_law_script","_law_most_wares"] 2 yc a__law_pile fd__law_pile)(b_10:Binds K fd__law_pile ["_law_script","_law_most_wares"] []){a__law_names:Addr}{fd__law_names:FuncData}(c_9:Cal P w K mg base "_law_names" 2 ["_law_script","_law_letters","_law_many"] 3 q05 a__law_names fd__law_names)(b_9:Binds K fd__law_names ["_law_script","_law_letters","_law_many"] []){a__law_bad_line:Addr}{fd__law_bad_line:FuncData}(c_5:Cal P w K mg base "_law_bad_line" 1 ["_law_number"] 1 vn a__law_bad_line fd__law_bad_line)(b_5:Binds K fd__law_bad_line ["_law_number"] []){a__law_refused:Addr}{fd__law_refused:FuncData}(c_12:Cal P w K mg base "_law_refused" 6 ["_law_thing"] 1 f_law_refused a__law_refused fd__law_refused)(b_12:Binds K fd__law_refused ["_law_thing"] []){a__law_mixed:Addr}{fd__law_mixed:FuncData}(c_8:Cal P w K mg base "_law_mixed" 1 ["_law_script","_law_k"] 2 qx a__law_mixed fd__law_mixed)(b_8:Binds K fd__law_mixed ["_law_script","_law_k"] []){a__law_bounds:Addr}{fd__law_bounds:FuncData}(c_6:Cal P w K mg base "_law_bounds" 7 ["_law_script","_law_bad"] 2 wg a__law_bounds fd__law_bounds)(b_6:Binds K fd__law_bounds ["_law_script","_law_bad"] []){a__law_spoiled:Addr}{fd__law_spoiled:FuncData}(c_15:Cal P w K mg base "_law_spoiled" 1 ["_law_text","_law_number"] 2 kc a__law_spoiled fd__law_spoiled)(b_15:Binds K fd__law_spoiled ["_law_text","_law_number"] []){a_read:Addr}{fd_read:FuncData}(c_20:Cal P w K mg base "read" 5 ["text"] 1 yo a_read fd_read)(b_20:Binds K fd_read ["text"] [])(n_range:mg "range" = none)(n_len:mg "len" = none)(n_str:mg "str" = none): FnOk P w K mg base CX0 8 fa fd ["_law_script"] (spD K 1 qgm):=
 F.okn (k:=7) (n:=11) (ar:=1) (k1:=8) (u:=qba) qpg rfl rfl rfl fun cdv A outer s H E hr=>(by first|(with_reducible exact qik c_10 b_10 c_9 b_9 c_5 b_5 c_12 b_12 c_8 b_8 c_6 b_6 c_15 b_15 c_20 b_20 n_range n_len n_str hr)|exact qik c_10 b_10 c_9 b_9 c_5 b_5 c_12 b_12 c_8 b_8 c_6 b_6 c_15 b_15 c_20 b_20 n_range n_len n_str hr)
end
end My
namespace DL
open PySem L2
theorem qd3(a b:Int): decide (V.int a=V.int b)=decide (a=b):=g0s.mpr ⟨fun h=>by injection h,fun h=>by rw [h]⟩
theorem yq(a b:Int): oEq (.int a) (.int b)=some (.bl (decide (a=b))):=by
 simp only [oEq,qft,flD,q7d,g6,pd,g1a,qd3]
theorem q9s(a b:Int): qbn (.int a) (.int b)=some (.bl (!decide (a=b))):=by
 simp only [qbn,flD,q7d,g6,pd,qd3]
theorem qil(a b:Bool): oEq (.bl a) (.bl b)=some (.bl (a==b)):=by
 cases a <;> cases b <;> rfl
theorem q1i(a b:Int)(h:0<b): oMod (.int a) (.int b)=some (.int (a%b)):=by simp [oMod,oI,h]
theorem q4y(a b:Int)(h:0<b)(h2:b<1073741824): oDiv (.int a) (.int b)=some (.int (a / b)):=by simp [oDiv,oI,h,h2]
theorem js(a b:Int): zu (.int a) (.int b)=some (.int (a+b)):=rfl
theorem q4z(a b:Int): oSub (.int a) (.int b)=some (.int (a-b)):=rfl
theorem qew(a b:Int): oLt' (.int a) (.int b)=some (.bl (decide (a<b))):=rfl
theorem jv(a b:Int): oLe (.int a) (.int b)=some (.bl (decide (a<=b))):=rfl
theorem ko(a b:Int): oGt (.int a) (.int b)=some (.bl (decide (b<a))):=rfl
theorem qex(a b:Int): oGe (.int a) (.int b)=some (.bl (decide (b<=a))):=rfl
theorem qkj(a b:Int): oMin [.int a,.int b]=some (.int (if b<a then b else a)):=rfl
theorem q3i(xs ys:List D)(h:xs.length+ys.length<=1000000): zu (.lst xs) (.lst ys)=some (.lst (xs++ys)):=by
 show(oAdd (.lst xs) (.lst ys)).or (qbx (.lst xs) (.lst ys))=_;simp only [oAdd,oI,t7,qbx,lim,gy h]
theorem qkk(a b:Int)(h:0<=b)(h2:b<=1000000)(h3:a.natAbs<2 ^ 64): oPow (.int a) (.int b)=some (.int (a ^ b.toNat)):=by simp [oPow,oI,h,h2,h3]
theorem wy(bs:List Bool): q5g [.lst (bs.map .bl)]=some (.bl (bs.all id)):=by simp [q5g,o1L,q8c]
theorem qey{α : Type}{xs:List α}{i:Int}(h0:0<=i): atI xs i=xs[i.toNat]? :=by
 unfold atI ixN;rw [gy h0]
 by_cases h:i<xs.length
 ·rw [gy h];rfl
 ·rw [ma h,g3b (by omega)];rfl
section
variable{b:FB}{body:FS}{d:D}{ds:List D}{ρ ρ1 ρ2:Rho}
theorem yg(h1:b d ρ = some ρ1)(h2:body ρ1=some (.nx, ρ2)): runFor b body (d :: ds) ρ = runFor b body ds ρ2:=by simp only [runFor,h1,h2,g6]
end
theorem q50{b:FB}{c:FT}{f:FE}{ρ : Rho}(p:D->Bool)(g:D->D): ∀ {ds:List D},(∀d∈ds,∃ ρ1,b d ρ = some ρ1/\c ρ1=some (p d)/\(p d=true->f ρ1=some (g d)))->jk b c f ρ ds=some ((ds.filter p).map g)
 | [],_=>rfl
 | d :: ds,h=>by
  obtain⟨ρ1,e1,e2,e3⟩:=h d gd;have ih:=q50 p g fun e he=>h e (gi _ he);simp only [jk,e1,e2,g6];cases hp:p d with
  | true=>simp only [pd,e3 hp,g6,ih,mq,List.filter_cons,hp,m7]
  | false=>simp only [nr,ua,ih,List.filter_cons,hp]
theorem jy{b:FB}{f:FE}{ρ : Rho}(g:D->D){ds:List D}(h:∀d∈ds,∃ ρ1,b d ρ = some ρ1/\f ρ1=some (g d)): jk b j9 f ρ ds=some (ds.map g):=by
 have:=q50 (b:=b) (c:=j9) (f:=f) (ρ := ρ) (fun _=>true) g (ds:=ds) fun d hd=>let⟨ρ1,e1,e2⟩:=h d hd; ⟨ρ1,e1,rfl,fun _=>e2⟩
 rw [List.filter_eq_self.mpr (fun _ _=>rfl)] at this;exact this
theorem q09(lo:Int)(n:Nat): zf lo (n+1)=.int lo :: zf (lo+1) n:=by
 unfold zf;rw [g1l,m7,mh]
 congr 1
 ·simp
 ·apply g07
  intro a _;simp only [Function.comp,Nat.succ_eq_add_one,Int.natCast_add]
  congr 1
  omega
theorem q16(lo:Int)(n:Nat): (zf lo n).length=n:=by simp [zf]
theorem wz(fa:FA)(ρ : Rho)(j:Int)(h:fa ρ = some [.int j])(h1 : -(2 ^ 62)<=j)(h2:j<2 ^ 62): iR1 fa ρ = some (zf 0 j.toNat):=by
 simp only [iR1,h,g6,gm h1,gm h2,Bool.and_self,pd]
theorem qe2{α : Type}(xs:List D)(k:Nat): cutD xs none (some (k:Int))=xs.take k:=by
 unfold cutD;rw [HT.sIx_nat,HT.sIx_none];simp only [ux,Nat.sub_zero]
 by_cases h:k<=xs.length
 ·rw [g36 h]
 ·rw [g2z (by omega),g2s,ny (by omega)]
theorem q7o{α : Type}(xs:List D)(k:Nat): cutD xs (some (k:Int)) none=xs.drop k:=by
 unfold cutD;rw [HT.sIx_nat,HT.sIx_none]
 by_cases h:k<=xs.length
 ·rw [g36 h,ny (by rw [ni];exact gw _)]
 ·rw [g2z (by omega),g0q,g39 (by omega)];simp
section
variable{ρ ρ1 ρ':Rho}{f g:FE}{d x y z:D}{i n m ar:Nat}{fa fk:FA}{ds es:List D}{t t2:FT}{c:Bool}{u w:FS}{r:Option (Fl×Rho)}
theorem x_c:eC d ρ = some d:=rfl
theorem x_v(h : ρ[i]? = some (some (.fz d))): eV i ρ = some d:=by unfold eV;rw [h]
theorem qt{o:D->D->Option D}(h1:f ρ = some x)(h2:g ρ = some y)(h3:o x y=some z): eOp o f g ρ = some z:=by unfold eOp;rw [h1,g6,h2,g6,h3]
theorem qd4{o:D->Option D}(h1:f ρ = some x)(h3:o x=some z): eUn o f ρ = some z:=by unfold eUn;rw [h1,g6,h3]
theorem ql:qi ρ = some []:=rfl
theorem qg(h1:f ρ = some d)(h2:fa ρ = some ds): qc f fa ρ = some (d :: ds):=by unfold qc;rw [h1,g6,h2,mq]
theorem qqn(h1:fa ρ = some ds)(h2:fk ρ = some es)(hn:ds.length=n)(hm:es.length=m): qjv n m fa fk ρ = some (ds++es):=by unfold qjv;rw [h1,g6,h2,g6,gy ⟨hn,hm⟩]
theorem x_call{o:List D->Option D}(h1:fa ρ = some ds)(h2:o ds=some d): qk o fa ρ = some d:=by unfold qk;rw [h1,g6,h2]
theorem z8{o:List D->Option D}{dds:List D}(h1:fa ρ = some ds)(hl:(ds++dds).length=ar)(h2:o (ds++dds)=some d): qk (qq ar dds o) fa ρ = some d:=by unfold qk qq;rw [h1,g6,gy hl,h2]
theorem qpi{o:List D->Option D}(h1:fa ρ = some ds)(hl:ds.length=ar)(h2:o ds=some d): qk (qfx ar o) fa ρ = some d:=by unfold qk qfx;rw [h1,g6,gy hl,h2]
theorem q6n(h1:fa ρ = some ds)(hl:ds.length<=lim): vt fa ρ = some (.tup ds):=by unfold vt;rw [h1,g6,gy hl]
theorem vy(h1:fa ρ = some ds)(hl:ds.length<=lim): jf fa ρ = some ds:=by unfold jf;rw [h1,g6,gy hl]
theorem x_l(h1:fa ρ = some ds): eL fa ρ = some (.lst ds):=by unfold eL;rw [h1,mq]
theorem qez{o:List D->Option (List D)}(h1:fa ρ = some ds)(h2:o ds=some es): q2e o fa ρ = some es:=by unfold q2e;rw [h1,g6,h2]
theorem qqo(h1:f ρ = some (.bl c)): qjm f ρ = some (.bl (!c)):=by unfold qjm;rw [h1,g6];rfl
theorem q1j(h1:f ρ = some (.bl c))(hc:c=true)(h2:g ρ = some d): q4f f g ρ = some d:=by subst hc;unfold q4f;rw [h1,g6];exact h2
theorem q2q(h1:f ρ = some (.bl c))(hc:c=false): q4f f g ρ = some (.bl false):=by subst hc;unfold q4f;rw [h1,g6];rfl
theorem qpj(h1:f ρ = some (.bl c))(hc:c=true): eOr f g ρ = some (.bl true):=by subst hc;unfold eOr;rw [h1,g6];rfl
theorem qpk(h1:f ρ = some (.bl c))(hc:c=false)(h2:g ρ = some d): eOr f g ρ = some d:=by subst hc;unfold eOr;rw [h1,g6];exact h2
theorem qgn{T:Ty}(h1:f ρ = some d): q31 T f ρ = some (.bl (zk T d)):=by unfold q31;rw [h1,mq]
theorem q0h:oNo ρ = some none:=rfl
theorem x_at{k:Int}(h1:f ρ = some (.int k)): oAt f ρ = some (some k):=by unfold oAt;rw [h1,g6]
theorem qd5{lo hi:FO}{a b:Option Int}(h1:f ρ = some x)(h2:lo ρ = some a)(h3:hi ρ = some b)(h4:oSl x a b=some y): eSl f lo hi ρ = some y:=by unfold eSl;rw [h1,g6,h2,g6,h3,g6,h4]
theorem vv{it:FA}{cap:List (Option Nat)}{b:FB}{q:FT}(h1:it ρ = some ds)(hl:ds.length<=lim)(h2:jk b q f (ve cap ρ) ds=some es): jl it cap b q f ρ = some es:=by unfold jl;rw [h1,g6,gy hl,h2]
theorem q0a(h1:f ρ = some d)(h2:q4g d=some ds): xq f ρ = some ds:=by unfold xq;rw [h1,g6,h2]
theorem qpl{xs ys:List D}(h1:fa ρ = some [x,y])(h2:q4g x=some xs)(h3:q4g y=some ys): qop fa ρ = some (qoo xs ys):=by unfold qop;rw [h1,g6];simp only [h2,h3,g6,mq]
theorem ja{o:D->D->Option D}(h1:f ρ = some x)(h2:g ρ = some y)(h3:o x y=some (.bl c)): bCmp o f g ρ = some c:=by unfold bCmp;rw [qt h1 h2 h3,g6];rfl
theorem q3p(h1:f ρ = some d)(h2:qbo d=some c): bT f ρ = some c:=by unfold bT;rw [h1,g6,h2]
theorem yh(h1:t ρ = some c): v7 t ρ = some (!c):=by unfold v7;rw [h1,mq]
theorem qd6{e:Bool}(h1:t ρ = some c)(hc:c=true)(h2:t2 ρ = some e): q2v t t2 ρ = some e:=by subst hc;unfold q2v;rw [h1,g6];exact h2
theorem qd7(h1:t ρ = some c)(hc:c=false): q2v t t2 ρ = some false:=by subst hc;unfold q2v;rw [h1,g6];rfl
theorem q9t(h1:t ρ = some c)(hc:c=true): bOr t t2 ρ = some true:=by subst hc;unfold bOr;rw [h1,g6];rfl
theorem q2r{e:Bool}(h1:t ρ = some c)(hc:c=false)(h2:t2 ρ = some e): bOr t t2 ρ = some e:=by subst hc;unfold bOr;rw [h1,g6];exact h2
theorem q00(h1:u ρ = some (.nx, ρ1))(h2:w ρ1=r): qw u w ρ = r:=by unfold qw;rw [h1,g6];exact h2
theorem qd8(h1:t ρ = some c)(hc:c=true)(h2:u ρ = r): sIf t u w ρ = r:=by subst hc;unfold sIf;rw [h1,g6];exact h2
theorem jg(h1:t ρ = some c)(hc:c=false)(h2:w ρ = r): sIf t u w ρ = r:=by subst hc;unfold sIf;rw [h1,g6];exact h2
theorem qld(h1:f ρ = some d): zv f ρ = some (.rt d, ρ):=by unfold zv;rw [h1,mq]
theorem jd:j7 ρ = some (.nx, ρ):=rfl
theorem zo(h1:f ρ = some d): zg i f ρ = some (.nx, ρ.set i (some (.fz d))):=by unfold zg;rw [h1,mq]
theorem q6o(h1:fa ρ = some ds): q27 i fa ρ = some (.nx, ρ.set i (some (.ow ds))):=by unfold q27;rw [h1,mq]
theorem q37(h0 : ρ[i]? = some (some (.ow ds)))(h1:f ρ = some d)(hl:ds.length<lim): q2x i f ρ = some (.nx, ρ.set i (some (.ow (ds++[d])))):=by unfold q2x q7h;rw [h0];simp only [g6,h1,gy hl]
theorem q51{it:FA}{b:FB}{body:FS}(h1:it ρ = some ds)(h2:runFor b body ds ρ = r): q28 it b body ρ = r:=by unfold q28;rw [h1,g6];exact h2
theorem qqp(h1:frz i ρ = ρ1)(h2:u ρ1=r): q1d i u ρ = r:=by unfold q1d;rw [h1];exact h2
theorem qim(h:u (ds.map (fun d=>some (.fz d))++List.replicate (n-ds.length) none)=some (.rt d, ρ')): j6 n u ds=some d:=by unfold j6;rw [h]
end
theorem eV0(d:D)(r:Rho): eV 0 (some (.fz d) :: r)=some d:=rfl
theorem eVs(i:Nat)(x:Option B)(r:Rho): eV (i+1) (x :: r)=eV i r:=rfl
theorem qgo(ds:List D): jw [.tup ds]=some (.int ds.length):=rfl
theorem q2k(ds:List D): jw [.lst ds]=some (.int ds.length):=rfl
theorem qrf(i:Int): (match D.int i with | .int i=>some (some i)|_=>none:Option (Option Int))=some (some i):=rfl
theorem qrg(ds:List D)(r:Rho): frz 0 (some (.ow ds) :: r)=some (.fz (.lst ds)) :: r:=rfl
theorem frzs(i:Nat)(x:Option B)(r:Rho): frz (i+1) (x :: r)=x :: frz i r:=by
 unfold frz;rw [g1c];cases h:r[i]? with
 | none=>rfl
 | some y=>
  cases y with
  | none=>rfl
  | some z=>cases z <;> rfl
theorem q52(a b:Int)(h : -(2 ^ 64)<b/\b<2 ^ 64): xi (.int a) (.int b)=some (.int (a*b)):=by
 have h2:(decide (-(2 ^ 64)<b)&&decide (b<2 ^ 64))=true:=by rw [gm h.1,gm h.2];rfl
 show(if((decide (-(2 ^ 64)<a)&&decide (a<2 ^ 64)) || (decide (-(2 ^ 64)<b)&&decide (b<2 ^ 64)))=true then some (D.int (a*b)) else none).or _=_;rw [h2,g3g,gy rfl,g1a]
theorem q3q(a b:Int)(h : -(2 ^ 64)<a/\a<2 ^ 64): xi (.int a) (.int b)=some (.int (a*b)):=by
 have h2:(decide (-(2 ^ 64)<a)&&decide (a<2 ^ 64))=true:=by rw [gm h.1,gm h.2];rfl
 show(if((decide (-(2 ^ 64)<a)&&decide (a<2 ^ 64)) || (decide (-(2 ^ 64)<b)&&decide (b<2 ^ 64)))=true then some (D.int (a*b)) else none).or _=_;rw [h2,Bool.true_or,gy rfl,g1a]
theorem q66(ds:List D)(i:Int): oIx (.lst ds) (.int i)=atI ds i:=rfl
theorem qrh(ds:List D)(i:Int): oIx (.tup ds) (.int i)=atI ds i:=rfl
theorem q9u{α : Type}(xs:List α)(n:Nat): atI xs (no_index (OfNat.ofNat n:Int))=xs[n]? :=by
 show atI xs (n:Int)=xs[n]?;rw [qey (show(0:Int)<=(n:Int) by omega)]
 rfl
theorem vw{α : Type}(xs:List α)(n:Nat): atI xs (n:Int)=xs[n]? :=by
 rw [qey (show(0:Int)<=(n:Int) by omega)]
 rfl
theorem qn0(ds:List D): ql8 [.lst ds]=some ds:=rfl
theorem qn1(ds:List D): ql8 [.tup ds]=some ds:=rfl
theorem q7p(ds:List D): ka [.lst ds]=some (.tup ds):=rfl
theorem qkl(ds:List D): ka [.tup ds]=some (.tup ds):=rfl
theorem qgp(ds:List D)(r:Rho): q7h 0 (some (.ow ds) :: r)=some ds:=rfl
theorem qgq(i:Nat)(x:Option B)(r:Rho): q7h (i+1) (x :: r)=q7h i r:=rfl
theorem qpm{n:Nat}{u:FS}{ds:List D}{d:D}(h:(u (ds.map (fun d=>some (.fz d))++List.replicate (n-ds.length) none)).map Prod.fst=some (.rt d)): j6 n u ds=some d:=by
 cases e:u (ds.map (fun d=>some (.fz d))++List.replicate (n-ds.length) none) with
 | none=>rw [e] at h;cases h
 | some p=>
  obtain⟨fl, ρ'⟩:=p;rw [e] at h;have h':fl=.rt d:=by simpa using h
  subst h';exact qim e
theorem qn2:zk .int .non=false/\(∀b:Bool,zk .int (.bl b)=true)/\(∀i:Int,zk .int (.int i)=true)/\(∀x:Str,zk .int (.str x)=false)/\(∀ds:List D,zk .int (.tup ds)=false)/\(∀ds:List D,zk .int (.lst ds)=false)/\(∀(ks:List Key) (vs:List D),zk .int (.dct ks vs)=false)/\(∀(ks:List (List Int)) (vs:List D),zk .int (.dtt ks vs)=false)/\zk .bool .non=false/\(∀b:Bool,zk .bool (.bl b)=true)/\(∀i:Int,zk .bool (.int i)=false)/\(∀x:Str,zk .bool (.str x)=false)/\(∀ds:List D,zk .bool (.tup ds)=false)/\(∀ds:List D,zk .bool (.lst ds)=false)/\(∀(ks:List Key) (vs:List D),zk .bool (.dct ks vs)=false)/\(∀(ks:List (List Int)) (vs:List D),zk .bool (.dtt ks vs)=false)/\zk .tuple .non=false/\(∀b:Bool,zk .tuple (.bl b)=false)/\(∀i:Int,zk .tuple (.int i)=false)/\(∀x:Str,zk .tuple (.str x)=false)/\(∀ds:List D,zk .tuple (.tup ds)=true)/\(∀ds:List D,zk .tuple (.lst ds)=false)/\(∀(ks:List Key) (vs:List D),zk .tuple (.dct ks vs)=false)/\(∀(ks:List (List Int)) (vs:List D),zk .tuple (.dtt ks vs)=false)/\zk .list .non=false/\(∀b:Bool,zk .list (.bl b)=false)/\(∀i:Int,zk .list (.int i)=false)/\(∀x:Str,zk .list (.str x)=false)/\(∀ds:List D,zk .list (.tup ds)=false)/\(∀ds:List D,zk .list (.lst ds)=true)/\(∀(ks:List Key) (vs:List D),zk .list (.dct ks vs)=false)/\(∀(ks:List (List Int)) (vs:List D),zk .list (.dtt ks vs)=false)/\zk .str .non=false/\(∀b:Bool,zk .str (.bl b)=false)/\(∀i:Int,zk .str (.int i)=false)/\(∀x:Str,zk .str (.str x)=true)/\(∀ds:List D,zk .str (.tup ds)=false)/\(∀ds:List D,zk .str (.lst ds)=false)/\(∀(ks:List Key) (vs:List D),zk .str (.dct ks vs)=false)/\(∀(ks:List (List Int)) (vs:List D),zk .str (.dtt ks vs)=false)/\zk .dict .non=false/\(∀b:Bool,zk .dict (.bl b)=false)/\(∀i:Int,zk .dict (.int i)=false)/\(∀x:Str,zk .dict (.str x)=false)/\(∀ds:List D,zk .dict (.tup ds)=false)/\(∀ds:List D,zk .dict (.lst ds)=false)/\(∀(ks:List Key) (vs:List D),zk .dict (.dct ks vs)=true)/\(∀(ks:List (List Int)) (vs:List D),zk .dict (.dtt ks vs)=true):=by
 refine⟨?_,?_,?_,?_,?_,?_,?_,?_,?_,?_,?_,?_,?_,?_,?_,?_,?_,?_,?_,?_,?_,?_,?_,?_,?_,?_,?_,?_,?_,?_,?_,?_,?_,?_,?_,?_,?_,?_,?_,?_,?_,?_,?_,?_,?_,?_,?_,?_⟩ <;> intros <;> rfl
theorem q9v{x:Int}{n:Nat}(hn:0<n): ∃k:Nat,k<n/\oMod (.int x) (.int (n:Int))=some (.int (k:Int)):=by
 have h1:=uk x (show(n:Int)≠0 by omega);have h2:=t8 x (show(0:Int)<(n:Int) by omega);refine⟨(x%n).toNat,by omega,?_⟩;rw [q1i _ _ (by omega),g05 h1]
end DL
open PySem PyProof.Rows L2 DL
local macro_rules | `(tactic| simp! [$a,*])=> `(tactic| simp (config:={decide:=true,implicitDefEqProofs:=false}) only [j6,qw,sIf,zg,zv,qqd,j7,q27,qr8,qr9,q87,q28,q1d,qqg,eOp,eC,eV0,eVs,qk,qc,qi,vt,eL,jf,q2e,eSl,oNo,oAt,qrf,q2v,bCmp,v7,bT,bOr,q4f,eOr,qjm,eIf,q31,qn2,eUn,isB,qbo,q98,qgo,q2k,qrg,frzs,xq,q4g,qq,qfx,qjv,bN,q30,yu,q2z,ve,qoh,m7,g0h,gs,nt,g7,Nat.reduceAdd,Nat.reduceSub,Nat.reduceEqDiff,List.replicate,pf,pk,my,List.set_cons_zero,List.set_cons_succ,List.set_nil,g1e,g1c,g6,Option.bind_none,mq,Option.map_none,g1q,Option.join_none,q1i,q4y,js,q4z,q52,q3q,yq,q9s,qil,qew,jv,ko,qex,q7p,qkl,pd,ua,decide_true,decide_false,nr,g3d,Bool.not_false,and_true,true_and,and_self,ite_true,ite_false,Int.reduceSub,Int.reduceMod,Int.reduceAdd,Int.reduceDiv,Int.reducePow,Int.reduceMul,Int.reduceNeg,Int.reduceEq,Int.reduceLT,Int.reduceLE,Int.reduceToNat,q66,qrh,q9u,qn0,qn1,qkk,reduceCtorEq,List.isEmpty_nil,List.isEmpty_cons,List.isEmpty_iff, $a,*])
namespace My
open PySem PyProof.Rows L2 DL
local macro_rules | `(tactic| walk_at "xo")=> `(tactic| first|assumption|exact yq _ _|exact q9s _ _|exact qil _ _|exact q1i _ _ (by decide)|exact q4y _ _ (by decide) (by decide)|exact js _ _|exact q4z _ _|exact qew _ _|exact jv _ _|exact ko _ _|exact qex _ _|exact qkj _ _|rfl)
local macro_rules | `(tactic| walk_at "xb")=> `(tactic| first|assumption|rfl|exact gm (by omega)|exact gq (by omega)|(simp;done)|(simp;omega))
local macro_rules | `(tactic| walk_at "xe")=> `(tactic| first|assumption|exact x_c|exact x_v rfl|exact ql|exact q0h|(apply qt;(walk_at "xe");(walk_at "xe");(walk_at "xo"))|(apply qd4;(walk_at "xe");(walk_at "xo"))|(apply qg;(walk_at "xe");(walk_at "xe"))|(apply q6n;(walk_at "xe");(first|decide|(simp only [gs,nt];decide)))|(apply x_l;(walk_at "xe"))|(apply vy;(walk_at "xe");(first|decide|(simp only [gs,nt];decide)))|(apply qez;(walk_at "xe");(walk_at "xo"))|(apply qgn;(walk_at "xe"))|(apply qqo;(walk_at "xe"))|(apply x_at;(walk_at "xe"))|(apply qd5;(walk_at "xe");(walk_at "xe");(walk_at "xe");(walk_at "xo"))|(apply z8;(walk_at "xe");exact rfl;(walk_at "xo"))|(apply qpi;(walk_at "xe");exact rfl;(walk_at "xo"))|(apply qqn;(walk_at "xe");(walk_at "xe");exact rfl;exact rfl)|(apply x_call;(walk_at "xe");(walk_at "xo"))|(apply q0a;(walk_at "xe");(walk_at "xo"))|(apply qpl;(walk_at "xe");(walk_at "xo");(walk_at "xo"))|(apply q1j;(walk_at "xe");(walk_at "xb");(walk_at "xe"))|(apply q2q;(walk_at "xe");(walk_at "xb"))|(apply qpj;(walk_at "xe");(walk_at "xb"))|(apply qpk;(walk_at "xe");(walk_at "xb");(walk_at "xe"))|(apply ja;(walk_at "xe");(walk_at "xe");(walk_at "xo"))|(apply q3p;(walk_at "xe");(walk_at "xo"))|(apply yh;(walk_at "xe"))|(apply qd6;(walk_at "xe");(walk_at "xb");(walk_at "xe"))|(apply qd7;(walk_at "xe");(walk_at "xb"))|(apply q9t;(walk_at "xe");(walk_at "xb"))|(apply q2r;(walk_at "xe");(walk_at "xb");(walk_at "xe")))
local macro_rules | `(tactic| walk_at "xs")=> `(tactic| first|(apply zo;(walk_at "xe"))|exact jd|(apply qld;(walk_at "xe"))|(apply q6o;(walk_at "xe"))|(apply q37;exact rfl;(walk_at "xe");(walk_at "xo")))
abbrev TI(ns:List Int): D:=.tup (ns.map .int)
def jh:Nat->Int->Int->List Int
 | 0,_,_=>[]
 | n+1,m,k=>if m%2=1 then k :: jh n (m / 2) (k+1) else jh n (m / 2) (k+1)
theorem q17:∀(n:Nat) (m k x:Int),x∈jh n m k->k<=x/\x<k+n
 | 0,_,_,_,h=>by cases h
 | n+1,m,k,x,h=>by
  unfold jh at h
  split at h
  ·rcases gx.mp h with rfl|h
   ·omega
   ·have:=q17 n _ _ _ h;omega
  ·have:=q17 n _ _ _ h;omega
theorem q2b:∀(n:Nat) (m k:Int),(jh n m k).Pairwise (· < ·)
 | 0,_,_=>.nil
 | n+1,m,k=>by
  unfold jh
  split
  ·refine .cons (fun x hx=>?_) (q2b n _ _)
   have:=q17 n _ _ _ hx;omega
  ·exact q2b n _ _
theorem lb1{m k:Int}{acc:List D}(hm:m%2=1)(hl:acc.length<lim): wb [some (.fz (.int m)),some (.ow acc),some (.fz (.int k))]=some (.nx,[some (.fz (.int (m / 2))),some (.ow (acc++[.int k])),some (.fz (.int k))]):=by
 refine q00 (qd8 (by(walk_at "xe")) (gm hm) (q37 rfl (by(walk_at "xe")) hl)) ?_
 (walk_at "xs")
theorem lb0{m k:Int}{acc:List D}(hm:¬m%2=1): wb [some (.fz (.int m)),some (.ow acc),some (.fz (.int k))]=some (.nx,[some (.fz (.int (m / 2))),some (.ow acc),some (.fz (.int k))]):=by
 refine q00 (jg (by(walk_at "xe")) (gq hm) jd) ?_
 (walk_at "xs")
theorem q38:∀(n:Nat) (m k:Int) (acc:List D) (b:Option B),acc.length+n<=100->∃b' m',
  runFor (bN 2) wb (zf k n) [some (.fz (.int m)),some (.ow acc),b]=some (.nx,[some (.fz (.int m')),some (.ow (acc++(jh n m k).map .int)),b'])
 | 0,m,k,acc,b,_=>⟨b,m,by simp [zf,runFor,jh]⟩
 | n+1,m,k,acc,b,h=>by
  rw [q09]
  by_cases hm:m%2=1
  ·obtain⟨b',m',ih⟩:=q38 n (m / 2) (k+1) (acc++[.int k]) (some (.fz (.int k))) (by simp;omega)
   refine⟨b',m',?_⟩;rw [yg (b:=bN 2) rfl (lb1 hm (by show _<1000000;omega)),ih,jh,gy hm];simp
  ·obtain⟨b',m',ih⟩:=q38 n (m / 2) (k+1) acc (some (.fz (.int k))) (by omega)
   refine⟨b',m',?_⟩;rw [yg (b:=bN 2) rfl (lb0 hm),ih,jh,ma hm]
theorem qgr(m:Int): q23 [.int m]=some (TI (jh 12 m 0)):=by
 obtain⟨b',m',h⟩:=q38 12 m 0 [] none (by simp);refine qim (q00 (q6o (vy ql (by decide))) (q00 (q51 (ds:=zf 0 12) rfl h) (qqp rfl (qld ?_))));exact x_call (qg (x_v rfl) ql) rfl
theorem qd9(w:Nat)(h:w<=12): q04 [.int (w:Int)]=some (.int (2 ^ w)):=by
 have:w=0\/w=1\/w=2\/w=3\/w=4\/w=5\/w=6\/w=7\/w=8\/w=9\/w=10\/w=11\/w=12:=by omega
 rcases this with rfl|rfl|rfl|rfl|rfl|rfl|rfl|rfl|rfl|rfl|rfl|rfl|rfl <;> rfl
theorem wj(ns:List Int)(k:Int)(h0:0<=k)(h1:k<=1000000): ∃m,qx [.lst (ns.map .int),.int k]=some (.int m)/\0<=m/\m<2147483629:=by
 have hkk:xi (.int k) (.int k)=some (.int (k*k)):=q52 _ _ ⟨by omega,by omega⟩;have hx:∀x:Int,xi (.int (x%2147483647)) (.int (x%2147483647))=some (.int ((x%2147483647)*(x%2147483647))):=fun x=>
  q52 _ _ ⟨by have:=uk x (show(2147483647:Int)≠0 by decide);omega,by have:=t8 x (show(0:Int)<2147483647 by decide);omega⟩
 have fin:∀x:Int,0<=x%2147483629/\x%2147483629<2147483629:=fun x=>⟨uk x (by decide),t8 x (by decide)⟩
 by_cases hn:0<ns.length
 ·obtain⟨j,hj,hm⟩:=q9v (x:=k) hn
  have hn':(0:Int)<(ns.length:Int):=by omega
  have hi:atI (ns.map D.int) (j:Int)=some (.int ns[j]):=by rw [vw,gz,m6 hj];rfl
  simp! [qx,kh,hkk,hx,hm,hn',hi];exact⟨_,rfl,fin _⟩
 ·have hn':¬(0:Int)<(ns.length:Int):=by omega
  simp! [qx,kh,hkk,hx,hn'];exact⟨_,rfl,fin _⟩
abbrev Run:=Int×List Int
abbrev q18(r:Run): D:=.tup [.int r.1,TI r.2]
abbrev q6p(w:Nat)(rs:List Run): D:=.tup [.int (w:Int),.tup (rs.map q18)]
structure RunOk(w:Nat)(most:Int)(r:Run): Prop where
 m1:1<=r.1
 m2:r.1<=most
 rise:r.2.Pairwise (· < ·)
 mem:∀x∈r.2,0<=x/\x<(w:Int)
theorem q76:∀(n:Nat) (m k:Int) (w:Nat),0<=m->m<2 ^ w->∀x∈jh n m k,x<k+w
 | 0,_,_,_,_,_,_,h=>by cases h
 | n+1,m,k,0,h0,h1,x,h=>by
  have:m=0:=by have:m<1:=h1;omega
  subst this;unfold jh at h;rw [ma (by decide)] at h;have z:∀n k,jh n 0 k=[]:=fun n=>by
   induction n with
   | zero=>intro k;rfl
   | succ n ih=>intro k;unfold jh;rw [ma (by decide)];exact ih _
  rw [show(0:Int) / 2=0 by decide,z] at h;cases h
 | n+1,m,k,w+1,h0,h1,x,h=>by
  have hp:(2:Int) ^ (w+1)=2 ^ w*2:=Int.pow_succ 2 w;have ih:=q76 n (m / 2) (k+1) w (by omega) (by omega) x;unfold jh at h
  split at h
  ·rcases gx.mp h with rfl|h
   ·omega
   ·have:=ih h;omega
  ·have:=ih h;omega
def runOf(n:Int)(w:Nat)(most:Int): Run:=(1+n / 4096%most,jh 12 (n%2 ^ w) 0)
theorem q8q(n:Int)(w:Nat)(most:Int)(hw:w<=12)(hm:0<most): yb [.int n,.int (w:Int),.int most]=some (q18 (runOf n w most)):=by
 have hp:=qd9 w hw;have hpos:(0:Int)<2 ^ w:=Int.pow_pos (by decide);have ls:=qgr (n%2 ^ w);simp! [yb,q24,hp,hm,hpos,ls]
 rfl
theorem qda(n:Int)(w:Nat)(most:Int)(hm:0<most): RunOk w most (runOf n w most):=by
 have a:=uk (n / 4096) (show most≠0 by omega);have b:=t8 (n / 4096) hm;have hpos:(0:Int)<2 ^ w:=Int.pow_pos (by decide);have c:=uk n (show(2:Int) ^ w≠0 by omega);have d:=t8 n hpos;refine⟨by show 1<=1+_;omega,by show 1+_<=most;omega,q2b _ _ _,fun x hx=>?_⟩;have e:=q17 _ _ _ _ hx;have f:=q76 _ _ _ w c d x hx;omega
theorem q58(ns:List Int)(x1:Option B)(fst:Int)(w:Nat)(most:Int)(hw:w<=12)(hm:0<most): ∀(n:Nat) (k:Int) (acc:List Run) (b6 b7:Option B),0<=k->k+n<=1000->acc.length+n<=1000->(∀r∈acc,RunOk w most r) ->
  ∃(rs:List Run) (b6' b7':Option B),runFor (bN 6) va (zf k n) [some (.fz (.lst (ns.map .int))),x1,some (.fz (.int fst)),some (.fz (.int (w:Int))),some (.fz (.int most)),some (.ow (acc.map q18)),b6,b7] =
   some (.nx,[some (.fz (.lst (ns.map .int))),x1,some (.fz (.int fst)),some (.fz (.int (w:Int))),some (.fz (.int most)),some (.ow (rs.map q18)),b6',b7'])/\rs.length=acc.length+n/\∀r∈rs,RunOk w most r
 | 0,k,acc,b6,b7,_,_,_,ha=>⟨acc,b6,b7,by simp [zf,runFor],by simp,ha⟩
 | n + 1,k,acc,b6,b7,h0,h1,h2,ha=>by
  obtain⟨m1,e1,p1,q1⟩:=wj ns (3*k+1) (by omega) (by omega);obtain⟨m2,e2,p2,q2⟩:=wj ns (3*k+2) (by omega) (by omega);obtain⟨m3,e3,p3,q3⟩:=wj ns (3*k+3) (by omega) (by omega);have body:∃N b7',va [some (.fz (.lst (ns.map .int))),x1,some (.fz (.int fst)),some (.fz (.int (w:Int))),some (.fz (.int most)),some (.ow (acc.map q18)),some (.fz (.int k)),b7] =
    some (.nx,[some (.fz (.lst (ns.map .int))),x1,some (.fz (.int fst)),some (.fz (.int (w:Int))),some (.fz (.int most)),some (.ow ((acc++[runOf N w most]).map q18)),some (.fz (.int k)),b7']):=by
   have lr:=fun n=>q8q n w most hw hm;have happ:∀(d:D) (x6 x7:Option B),q2x 5 (eC d) [some (.fz (.lst (ns.map .int))),x1,some (.fz (.int fst)),some (.fz (.int (w:Int))),some (.fz (.int most)),some (.ow (acc.map q18)),x6,x7]=some (.nx,[some (.fz (.lst (ns.map .int))),x1,some (.fz (.int fst)),some (.fz (.int (w:Int))),some (.fz (.int most)),some (.ow (acc.map q18++[d])),x6,x7]):=fun d x6 x7=>
    q37 rfl rfl (by rw [g7];show _<1000000;omega)
   have hl:acc.length<lim:=by show _<1000000;omega
   by_cases c1:1<k
   ·by_cases c2:m3%3=0
    ·simp! [va,e1,e2,e3,c1,c2,lr,q2x,qgp,qgq,hl,ng]
     exact⟨_,_,rfl⟩
    ·simp! [va,e1,e2,e3,c1,c2,lr,q2x,qgp,qgq,hl,ng]
     exact⟨_,_,rfl⟩
   ·simp! [va,e1,e2,e3,c1,lr,q2x,qgp,qgq,hl,ng]
    exact⟨_,_,rfl⟩
  obtain⟨N,b7',eb⟩:=body;obtain⟨rs,c6,c7,er,el,ho⟩:=q58 ns x1 fst w most hw hm n (k+1) (acc++[runOf N w most]) (some (.fz (.int k))) b7' (by omega) (by omega) (by simp;omega) (fun r hr=>by
   rcases mz.mp hr with hr|hr
   ·exact ha r hr
   ·rw [mi.mp hr];exact qda N w most hm)
  refine⟨rs,c6,c7,?_,by rw [el];simp;omega,ho⟩;rw [q09,yg (b:=bN 6) rfl eb,er]
theorem qe3(ns:List Int)(hl:ns.length<=63)(W:Nat)(hW:W<=12): ∃(w:Nat) (rs:List Run),yc [.lst (ns.map .int),.int (W:Int)]=some (q6p w rs)/\w<=W/\rs.length<=62/\∀r∈rs,RunOk w 1000000000000 r:=by
 obtain⟨fst,hf⟩:∃fst:Int,(0<ns.length->atI (ns.map D.int) 0=some (.int fst))/\(¬ 0<ns.length->fst=0):=by
  cases ns with
  | nil=>exact⟨0,fun h=>absurd h (by simp),fun _=>rfl⟩
  | cons a r=>exact⟨a,fun _=>by rw [q9u];rfl,fun h=>absurd (by simp) h⟩
 obtain⟨w,hw,em⟩:=q9v (x:=fst) (n:=W+1) (by omega);rw [show((W+1:Nat):Int)=(W:Int)+1 by omega] at em;obtain⟨most,emost,hmost,hmost2⟩:∃most:Int,atI [D.int 3,D.int 40,D.int 1000000000000] (fst / 16%3)=some (.int most)/\0<most/\most<=1000000000000:=by
  have a:=uk (fst / 16) (show(3:Int)≠0 by decide);have b:=t8 (fst / 16) (show(0:Int)<3 by decide);have:fst / 16%3=0\/fst / 16%3=1\/fst / 16%3=2:=by omega
  rcases this with e|e|e <;> rw [e]
  ·exact⟨3,rfl,by decide,by decide⟩
  ·exact⟨40,rfl,by decide,by decide⟩
  ·exact⟨1000000000000,rfl,by decide,by decide⟩
 have widen:∀r,RunOk w most r->RunOk w 1000000000000 r:=fun r h=>⟨h.m1,by have:=h.m2;omega,h.rise,h.mem⟩
 have lr:=fun n=>q8q n w most (by omega) hmost;have sl:oSl (.lst (ns.map D.int)) (some 1) (some 63)=some (.lst ((ns.drop 1).map D.int)):=by
  show some (D.lst (DL.cutD (ns.map D.int) (some ((1:Nat):Int)) (some ((63:Nat):Int))))=_;unfold DL.cutD;rw [HT.sIx_nat,HT.sIx_nat,g7,g2z hl]
  by_cases h:1<=ns.length
  ·rw [g36 h,ny (by simp),List.map_drop]
  ·have:ns=[]:=by cases ns with
    | nil=>rfl
    | cons a r=>simp at h
   subst this;rfl
 have cmp:jk (bN 0) j9 (qk (qq 3 [] yb) (qc (eV 0) (qc (eV 1) (qc (eV 2) qi)))) [none,some (.fz (.int (w:Int))),some (.fz (.int most))] ((ns.drop 1).map D.int)=some (((ns.drop 1).map fun n=>runOf n w most).map q18):=by
  have:=jy (b:=bN 0) (f:=qk (qq 3 [] yb) (qc (eV 0) (qc (eV 1) (qc (eV 2) qi)))) (ρ :=[none,some (.fz (.int (w:Int))),some (.fz (.int most))]) (fun d=>match d with | .int n=>q18 (runOf n w most)|_=>.non) (ds:=(ns.drop 1).map D.int) fun d hd=>by
   obtain⟨n,hn,rfl⟩:=gp.mp hd;refine⟨_,rfl,?_⟩;simp! [lr]
  rw [this,mh,mh];rfl
 have ll:(ns.drop 1).length<=lim:=by rw [ni];show _<=1000000;omega
 obtain⟨tn,htn,etn⟩:=q9v (x:=fst / 96) (n:=25) (by omega);have etn':fst / 96%25=(tn:Int):=by
  have:=q1i (fst / 96) 25 (by decide);rw [show((25:Nat):Int)=25 from rfl,this] at etn;injection etn with e;injection e
 have er:iR1 (fun _=>some [.int (tn:Int)]) []=some (zf 0 tn):=wz _ _ (tn:Int) rfl (by omega) (by omega);have er2:∀ ρ : Rho,iR1 (qc (eOp oMod (eOp oDiv (eV 2) (eC (.int 96))) (eC (.int 25))) qi) (some (.fz (.lst (ns.map D.int))) :: some (.fz (.int (W:Int))) :: some (.fz (.int fst)) :: ρ)=some (zf 0 tn):=fun ρ =>
  wz _ _ (tn:Int) (by simp! [etn']) (by omega) (by omega)
 obtain⟨rs,b6,b7,el,e2,e3⟩:=q58 ns (some (.fz (.int (W:Int)))) fst w most (by omega) hmost tn 0 [] none none (by omega) (by omega) (by simp;omega) (fun r hr=>by cases hr);have two:fst / 48%2=0\/¬fst / 48%2=0:=by omega
 have c1:((ns.drop 1).map fun n=>runOf n w most).length<=62:=by rw [g7,ni];omega
 have c2:∀r∈(ns.drop 1).map fun n=>runOf n w most,RunOk w 1000000000000 r:=fun r hr=>by
  obtain⟨n,_,rfl⟩:=gp.mp hr;exact widen _ (qda n w most hmost)
 have d1:rs.length<=62:=by rw [e2];simp;omega
 rcases two with h2|h2
 ·refine⟨w,(ns.drop 1).map fun n=>runOf n w most,?_,by omega,c1,c2⟩
  by_cases hn:0<ns.length
  ·have hn':(0:Int)<(ns.length:Int):=by omega
   have hi:=hf.1 hn;rw [show(0:Int)=((0:Nat):Int) from rfl,vw] at hi;simp! [yc,yx,hn',hi,em,emost,h2,sl,jl,ll,cmp]
  ·have hn':¬(0:Int)<(ns.length:Int):=by omega
   have hz:=hf.2 hn;subst hz;have e3:most=3:=by
    rw [show(0:Int) / 16%3=0 by decide,q9u,g1e] at emost;exact(D.int.inj (n3 emost)).symm
   subst e3;simp! [yc,yx,hn',em,sl,jl,ll,cmp]
 ·refine⟨w,rs,?_,by omega,d1,fun r hr=>widen r (e3 r hr)⟩
  by_cases hn:0<ns.length
  ·have hn':(0:Int)<(ns.length:Int):=by omega
   have hi:=hf.1 hn;rw [show(0:Int)=((0:Nat):Int) from rfl,vw] at hi;simp only [g0h] at el;simp! [yc,yx,hn',hi,em,emost,h2,er2,el]
  ·have hn':¬(0:Int)<(ns.length:Int):=by omega
   have hz:=hf.2 hn;subst hz;exact absurd rfl h2
end My
namespace Tx
open PySem Builtin Builtin.Str
abbrev txt(l:List Nat): Str:=⟨l.toArray⟩
theorem qdb(x:Str): x=txt x.cps.toList:=by obtain⟨c⟩:=x;simp [txt]
theorem q44{a b:List Nat}(h:txt a=txt b): a=b:=by
 have:=n6 (fun x:Str=>x.cps.toList) h
 simpa [txt] using this
theorem jc(a:List Nat): (txt a).cps.toList=a:=by simp [txt]
theorem jo(a:List Nat): (txt a).length=a.length:=by simp [txt,Str.length]
theorem q1k(a b:List Nat): txt a++txt b=txt (a++b):=by show Str.mk (a.toArray++b.toArray)=_;simp [txt]
def jn(c:Nat): List (List Nat)->List Nat
 | []=>[]
 | [x]=>x
 | x :: y :: r=>x++c :: jn c (y :: r)
theorem zw(c:Nat)(x y:List Nat)(r:List (List Nat)): jn c (x :: y :: r)=x++c :: jn c (y :: r):=rfl
theorem q67(c:Nat): ∀ls:List (List Nat),Str.join (txt [c]) (ls.map txt)=txt (jn c ls)
 | []=>rfl
 | [x]=>rfl
 | x :: y :: r=>by
  show txt x++txt [c]++Str.join (txt [c]) ((y :: r).map txt)=_;rw [q67 c (y :: r),q1k,q1k,zw,mn];rfl
theorem qkm(c:Nat)(ls:List (List Nat)): Txt.join (txt [c]) (ls.map txt)=txt (jn c ls):=by
 unfold Txt.join;rw [StrLaws.glued_eq_join,q67]
theorem qak:∀ls:List (List Nat),Str.join (txt []) (ls.map txt)=txt ls.flatten
 | []=>rfl
 | [x]=>by show txt x=_;simp
 | x :: y :: r=>by
  show txt x++txt []++Str.join (txt []) ((y :: r).map txt)=_;rw [qak (y :: r),q1k,q1k,my];rfl
theorem join_nil(ls:List (List Nat)): Txt.join (txt []) (ls.map txt)=txt ls.flatten:=by
 unfold Txt.join;rw [StrLaws.glued_eq_join,qak]
theorem qin{c:Nat}: ∀ {a b r s:List Nat},c∉a->c∉b->a++c :: r=b++c :: s->a=b/\r=s
 | [],[],r,s,_,_,h=>by simpa using h
 | [],y :: b,r,s,_,h2,h=>by
  simp only [pk,pf,g37] at h;exact absurd (h.1 ▸ gd) h2
 | x :: a,[],r,s,h1,_,h=>by
  simp only [pk,pf,g37] at h;exact absurd (h.1 ▸ gd) h1
 | x :: a,y :: b,r,s,h1,h2,h=>by
  simp only [pf,g37] at h;obtain⟨e1,e2⟩:=qin (fun z=>h1 (gi _ z)) (fun z=>h2 (gi _ z)) h.2;exact⟨by rw [h.1,e1],e2⟩
theorem qdc{c:Nat}: ∀ {xs ys:List (List Nat)},xs≠[]->ys≠[]->(∀l∈xs,c∉l)->(∀l∈ys,c∉l)->jn c xs=jn c ys->xs=ys
 | [],_,h,_,_,_,_=>absurd rfl h
 | _ :: _,[],_,h,_,_,_=>absurd rfl h
 | [x],[y],_,_,_,_,h=>by simpa [jn] using h
 | [x],y :: y2 :: r,_,_,h1,_,h=>by
  rw [zw] at h;have:c∈x:=by rw [show x=_ from h];simp
  exact absurd this (h1 x gd)
 | x :: x2 :: r,[y],_,_,_,h2,h=>by
  rw [zw] at h;have:c∈y:=by rw [show y=_ from h.symm];simp
  exact absurd this (h2 y gd)
 | x :: x2 :: r,y :: y2 :: s,_,_,h1,h2,h=>by
  rw [zw,zw] at h;obtain⟨e1,e2⟩:=qin (h1 x gd) (h2 y gd) h;have:=qdc (by simp) (by simp) (fun l hl=>h1 l (gi _ hl)) (fun l hl=>h2 l (gi _ hl)) e2;rw [e1,this]
theorem qkn(x y:Str)(h:x.length=0->True): Txt.split x y≠[]:=by
 unfold Txt.split
 split
 ·simp
 ·split
  ·simp
  ·rw [StrLaws.partsBetween_eq]
   obtain⟨p,r,e⟩:=StrLaws.partsFrom_ne x y.length 0 (occurrences x y 0 x.length (x.length+1));rw [e];simp
theorem qn3(l:List Str): l=(l.map fun x=>x.cps.toList).map txt:=by
 rw [mh]
 conv=>lhs;rw [<- List.map_id l]
 exact g07 fun x _=>qdb x
theorem qko{c:Nat}{ls:List (List Nat)}(h0:ls≠[])(hf:∀l∈ls,c∉l): Txt.split (txt (jn c ls)) (txt [c])=ls.map txt:=by
 have h1:=StrLaws.join_split (txt (jn c ls)) (txt [c]);have h2:=StrLaws.split_free (txt (jn c ls)) c;have h3:=qkn (txt (jn c ls)) (txt [c]) fun _=>trivial;have e:=qn3 (Txt.split (txt (jn c ls)) (txt [c]));rw [e,q67] at h1;have:=qdc (by intro z;rw [g0w] at z;exact h3 z) h0 (fun l hl=>by
  obtain⟨p,hp,rfl⟩:=gp.mp hl;exact h2 p hp) hf (q44 h1)
 rw [e,this]
theorem qal(x y:Str): (partsBetween x (occurrences x y 0 x.length (x.length+1)) y.length).length<=x.length+2:=by
 unfold partsBetween;have h:=StrLaws.occ_length_le_len x y 0 x.length (x.length+1);simp only [g7,tw,gs,gc,gj,nt];omega
theorem split_len(x y:Str): (Txt.split x y).length<=x.length+2:=by
 unfold Txt.split
 split
 ·simp
 ·split
  ·simp
  ·exact qal x y
theorem qio{c:List Nat}{ls:List Str}{B:Nat}(hB:∀y∈ls,y.length<=B)(h:ls.length*B+ls.length*c.length<=16777216): JoinOk (txt c) ls=true:=by
 unfold JoinOk;have:=StrLaws.joinFits (sep:=txt c) (texts:=ls) (B:=B) hB (by rw [jo];exact h);rw [this];rfl
theorem qip(l:List Nat)(c:Nat): (!(occurrences (txt l) (txt [c]) 0 (txt l).length 1).isEmpty)=decide (c∈l):=by
 have:=StrLaws.found_one (txt l) c;rw [jc] at this;exact this
theorem q45(c:Nat): ∀ls:List (List Nat),(jn c ls).length<=(ls.map List.length).sum+ls.length
 | []=>by simp [jn]
 | [x]=>by simp [jn]
 | x :: y :: r=>by
  have:=q45 c (y :: r);rw [zw,gc,gs,m7,g3e,gs];omega
end Tx
namespace Tx
open PySem PySem.W PySem.NumText
def dg(m:Nat): List Nat:=(Nat.toDigits 10 m).map Char.toNat
theorem qn4(m:Nat): Str.ofString (toString ((m:Nat):Int))=txt (dg m):=by
 rw [qdb (Str.ofString (toString ((m:Nat):Int))),KIN.signs_num];rfl
theorem q1l{m c:Nat}(h:c∈dg m): 48<=c/\c<=57:=by
 obtain⟨ch,hch,e⟩:=gp.mp h;have r:=PyProof.Rows.digit_range (Nat.isDigit_of_mem_toDigits (by decide) (by decide) hch);rw [<- e];exact r
theorem qle(m:Nat): dg m≠[]:=by
 unfold dg;intro e;have h:=toDigits_len_ge 10 m;rw [g0w.mp e] at h;exact absurd h (by decide)
theorem q46{k m:Nat}(hk:1<=k)(h:m<10 ^ k): (dg m).length<=k:=by
 unfold dg;rw [g7];exact toDigits_len_pow (by decide) hk h
theorem qn5{m:Nat}(hl:(dg m).length<=4300): PySem.intText? (txt (dg m))=some (m:Int):=by
 have e:=intText_digits (x:=txt (dg m)) (fun c hc=>by rw [jc] at hc;exact q1l hc) (by rw [jc];exact qle m) (by rw [jo];exact hl);rw [jc] at e;have v:=KIN.val_back m;unfold dg at e ⊢;rw [v] at e;exact e
theorem qri:∀d:Nat,d<10->1<=d->(Nat.digitChar d).toNat≠48:=by decide
theorem qf0(m:Nat)(h:1<=m): ∃c r,dg m=c :: r/\c≠48:=by
 induction m using Nat.strongRecOn with
 | _ m ih=>
  by_cases h10:m<10
  ·unfold dg
   rw [g1f h10];exact⟨_,_,rfl,qri m h10 h⟩
  ·have hm:m%10<10:=p7 m (by decide)
   have t:Nat.toDigits 10 (m / 10)++Nat.toDigits 10 (m%10)=Nat.toDigits 10 (10*(m / 10)+m%10):=Nat.toDigits_append_toDigits (by decide) (by omega) hm;rw [Nat.div_add_mod] at t;obtain⟨c,r,e,hc⟩:=ih (m / 10) (by omega) (by omega);unfold dg at e ⊢;rw [<- t,ng,e];exact⟨c,_,rfl,hc⟩
open Builtin Builtin.Str
theorem sE:("" : Str)=txt []:=rfl
theorem sSp:(" " : Str)=txt [32]:=rfl
theorem sNl:("\n" : Str)=txt [10]:=rfl
theorem sCo:(":" : Str)=txt [58]:=rfl
theorem s0:("0" : Str)=txt [48]:=rfl
def ltr:List Nat:=(List.range 26).map (· + 97)
def fig:List Nat:=(List.range 10).map (· + 48)
theorem qpn:("0123456789" : Str)=txt fig:=by rfl
theorem qgs:("abcdefghijklmnopqrstuvwxyz" : Str)=txt ltr:=by rfl
theorem qn6:∀i<26,occurrences (txt ltr) (txt [97+i]) 0 26 1=[i]:=by
 simp only [StrLaws.occ_eq]
 decide +kernel
end Tx
namespace DL
open PySem PyProof.Rows L2 Tx Builtin Builtin.Str
abbrev S(l:List Nat): D:=.str (txt l)
theorem q0q:∀ls:List (List Nat),q0x (ls.map S)=some (ls.map txt)
 | []=>rfl
 | l :: ls=>by rw [m7,q0x,q0q ls];rfl
theorem jt{a b:List Nat}(h:a.length+b.length<=1000000): j0 (S a) (S b)=some (S (a++b)):=by
 unfold j0;simp only [jo];rw [gy h,q1k]
theorem qam{c:Nat}{ls:List (List Nat)}{B:Nat}(hB:∀l∈ls,l.length<=B)(h:ls.length*B+ls.length<=16777216): yw (S [c]) (.lst (ls.map S))=some (S (jn c ls)):=by
 show(q0x (ls.map S)).bind _=_;rw [q0q,g6];rw [gy (qio (B:=B) (fun y hy=>by obtain⟨l,hl,rfl⟩:=gp.mp hy;rw [jo];exact hB l hl) (by rw [g7,gj,Nat.mul_one];exact h)),qkm]
theorem qan{ls:List (List Nat)}{B:Nat}(hB:∀l∈ls,l.length<=B)(h:ls.length*B<=16777216): yw (S []) (.lst (ls.map S))=some (S ls.flatten):=by
 show(q0x (ls.map S)).bind _=_;rw [q0q,g6];rw [gy (qio (B:=B) (fun y hy=>by obtain⟨l,hl,rfl⟩:=gp.mp hy;rw [jo];exact hB l hl) (by rw [g7,nt,Nat.mul_zero,Nat.add_zero];exact h)),Tx.join_nil]
theorem q7q(c:Nat)(l:List Nat): q0z (S [c]) (S l)=some (.bl (decide (c∈l))):=by
 unfold q0z;simp only [qip]
theorem q1m{l:List Nat}{i c:Nat}(h:l[i]? = some c)(hl:l.length<=1000000): oIxS (S l) (.int (i:Int))=some (S [c]):=by
 unfold oIxS;simp only [jo,jc];rw [gy hl,vw,h];rfl
theorem q6c(a b:Str): decide (V.str a=V.str b)=decide (a=b):=g0s.mpr ⟨fun h=>by injection h,fun h=>by rw [h]⟩
theorem q0r(a b:List Nat): oEq (S a) (S b)=some (.bl (decide (a=b))):=by
 have:oEq (S a) (S b)=some (.bl (decide (txt a=txt b))):=by
  simp [oEq,qft,flD,q7d,q6c]
 rw [this]
 congr 2
 exact g0s.mpr ⟨fun h=>q44 h,fun h=>by rw [h]⟩
theorem q53(l:List Nat)(k:Nat): Txt.slice (txt l) none (some (k:Int))=txt (l.take k):=by
 by_cases h:k<=l.length
 ·have:=StrLaws.sliceText_to (x:=txt l) (j:=(k:Int)) ⟨by omega,by rw [jc];omega⟩
  rw [jc] at this;show StrLaws.sliceText (txt l) none (some (k:Int))=_;rw [this,ux,show((k:Int)-0).toNat=k by omega]
 ·have h2:strSliceIndices none (some (k:Int)) 1 (txt l).length=strSliceIndices none (some ((l.length:Nat):Int)) 1 (txt l).length:=by
   rw [jo];have a:¬((k:Int)<0):=by omega
   have b:¬((l.length:Int)<0):=by omega
   have c:min (k:Int) (l.length:Int)=min (l.length:Int) (l.length:Int):=by omega
   simp only [strSliceIndices,a,b,ua];simp [c]
  have this:=StrLaws.sliceText_to (x:=txt l) (j:=((l.length:Nat):Int)) ⟨by omega,by rw [jc];omega⟩;rw [jc] at this;have e:Txt.slice (txt l) none (some (k:Int))=StrLaws.sliceText (txt l) none (some ((l.length:Nat):Int)):=by
   unfold Txt.slice StrLaws.sliceText;rw [h2]
  rw [e,this,ux,ny (g13 (Nat.lt_of_not_le h))]
  congr 2
  rw [ny];omega
theorem q8r{l:List Nat}{k:Nat}(h:k<=l.length): Txt.slice (txt l) (some (k:Int)) none=txt (l.drop k):=by
 have:=StrLaws.sliceText_from (x:=txt l) (i:=(k:Int)) ⟨by omega,by rw [jc];omega⟩;rw [jc] at this;show StrLaws.sliceText (txt l) (some (k:Int)) none=_;rw [this,ny]
 ·rfl
 ·rw [ni];omega
theorem q2l(l:List Nat)(c:Nat): Txt.slice (txt (l++[c])) none (some (-1))=txt l:=by
 have h:(txt (l++[c])).length=l.length+1:=by rw [jo,gc];rfl
 have:=StrLaws.sliceText_to_neg (x:=txt (l++[c])) (j:= -1) (by decide) (by rw [h];omega);rw [jc,h] at this;show StrLaws.sliceText (txt (l++[c])) none (some (-1))=_;rw [this,ux,show(-1+((l.length+1:Nat):Int)-0).toNat=l.length by omega,List.take_left]
section
variable{u w:FS}{t:FT}{f:FE}{fa:FA}{ρ ρ1:Rho}{d:D}{ds:List D}{i n:Nat}{c:Bool}{r:Option Fl}
abbrev g1(x:Option (Fl×Rho)): Option Fl:=x.map Prod.fst
theorem jb(h:g1 (u (ds.map (fun d=>some (.fz d))++List.replicate (n-ds.length) none))=some (.rt d)): j6 n u ds=some d:=qpm h
theorem qz(h1:u ρ = some (.nx, ρ1))(h2:g1 (w ρ1)=r): g1 (qw u w ρ)=r:=by unfold qw;rw [h1,g6];exact h2
theorem q39(h1:g1 (u ρ)=some (.rt d)): g1 (qw u w ρ)=some (.rt d):=by
 cases e:u ρ with
 | none=>rw [e] at h1;cases h1
 | some p=>
  obtain⟨fl, ρ2⟩:=p;rw [e] at h1;cases h1;unfold qw;rw [e,g6];rfl
theorem q3a(h1:t ρ = some c)(hc:c=true)(h2:g1 (u ρ)=r): g1 (sIf t u w ρ)=r:=by subst hc;unfold sIf;rw [h1,g6];exact h2
theorem y_ret(h1:f ρ = some d): g1 (zv f ρ)=some (.rt d):=by unfold zv;rw [h1,mq];rfl
theorem q8s(h1:frz i ρ = ρ1)(h2:g1 (u ρ1)=r): g1 (q1d i u ρ)=r:=by unfold q1d;rw [h1];exact h2
end
section
variable{f g:FE}{lo hi:FO}{ρ : Rho}{l:List Nat}
theorem q1v{a b:Option Int}{m:List Nat}(h1:f ρ = some (S l))(h2:lo ρ = some a)(h3:hi ρ = some b)(h4:l.length<=1000000)(h5:Txt.slice (txt l) a b=txt m): kr f lo hi ρ = some (S m):=by
 unfold kr;rw [h1,g6,h2,g6,h3,g6];simp only [jo];rw [gy h4,h5]
theorem q8t(h1:f ρ = some (S l)): q9f f ρ = some ((l.map fun c=>[c]).map S):=by
 unfold q9f;rw [h1,g6];simp only [q3z,jc,mh]
 rfl
theorem q7r{m:Nat}(h2:m.log2<1920): q4q [.int (m:Int)]=some (S (dg m)):=by
 unfold q4q;simp only [Int.natAbs_natCast];rw [gy h2];exact n6 (fun x=>some (D.str x)) (qn4 m)
theorem qao{m:Nat}(h:(dg m).length<=640): q1o [S (dg m)]=some (.int (m:Int)):=by
 unfold q1o;simp only [jo];rw [gy h,qn5 (by omega)];rfl
theorem q8u(h:l.length<=1000000): jw [S l]=some (.int l.length):=by
 unfold jw;simp only [jo];rw [gy h]
theorem q47{c:Nat}{ls:List (List Nat)}(h1:f ρ = some (S (jn c ls)))(h2:g ρ = some (S [c]))(h0:ls≠[])(hf:∀l∈ls,c∉l)(hl:(jn c ls).length+2<=1000000): kb f g ρ = some (ls.map S):=by
 unfold kb;rw [h1,g6,h2,g6];have hp:=qal (txt (jn c ls)) (txt [c]);have hs:=split_len (txt (jn c ls)) (txt [c]);have hz:(txt (jn c ls)).length=(jn c ls).length:=jo _;simp only [];rw [gy ⟨rfl,by rw [hz];show _<=1000000;omega,by show _<=1000000;omega,by show _<=1000000;omega⟩,qko h0 hf,mh]
 rfl
theorem qkp{ls:List (List Nat)}(h1:f ρ = some (.lst (ls.map S)))(hn:ls.Nodup)(hl:ls.length<=1000): q40 f ρ = some (.int ls.length):=by
 have one:∀(a b:List Str),(a++b).Nodup->b.foldl step_dedup a=a++b:=by
  intro a b
  induction b generalizing a with
  | nil=>intro _;simp
  | cons y b ih=>
   intro h;have hy:y∉a:=fun z=>by
    rw [g0f] at h;exact h.2.2 y z y gd rfl
   rw [uh,wa hy,ih _ (by rw [mn];exact h),mn];rfl
 unfold q40;rw [h1,g6];simp only [q0q,g6,g7];rw [gy (by show _<4096;omega)];have hnd:(ls.map txt).Nodup:=List.Pairwise.map txt (fun a b h z=>h (q44 z)) hn;have:=one [] (ls.map txt) (by simpa using hnd);unfold xk;rw [this,pk,g7]
end
end DL
namespace My
open PySem PyProof.Rows L2 DL Tx
structure NmOk(nm:List (List Nat)): Prop where
 nd:nm.Nodup
 one:∀n∈nm,1<=n.length/\n.length<=8/\∀c∈n,97<=c/\c<=122
theorem qn7(fa:FA)(ρ : Rho)(a b:Nat)(h:fa ρ = some [.int (a:Int),.int (b:Int)])(h2:b<2 ^ 60)(h1:a<2 ^ 60): iR2 fa ρ = some (zf (a:Int) (b-a)):=by
 unfold iR2;rw [h,g6];simp only [];rw [gy (by simp only [gu,nu];omega)]
 congr 2
 omega
theorem map_range(lo:Nat)(n:Nat)(g:Nat->List Nat)(G:D->D)(h:∀k:Nat,G (.int (k:Int))=S (g k)): (zf (lo:Int) n).map G=((List.range n).map fun k=>g (lo+k)).map S:=by
 unfold zf;rw [mh,mh];refine g07 fun k _=>?_;have:=h (lo+k);simp only [Function.comp];rw [<- this]
 congr 2
theorem q48(ns:List Int): ∃mx:Nat->Nat,∀k:Nat,k<=1000000->qx [.lst (ns.map .int),.int (k:Int)]=some (.int (mx k:Int)):=by
 classical
 refine⟨fun k=>if h:k<=1000000 then(wj ns (k:Int) (by omega) (by omega)).choose.toNat else 0,fun k hk=>?_⟩;have h:=(wj ns (k:Int) (by omega) (by omega)).choose_spec;dsimp only;rw [dif_pos hk,g05 h.2.1];exact h.1
theorem jr(a b:Nat)(h:0<b): oMod (.int (a:Int)) (.int (b:Int))=some (.int ((a%b:Nat):Int)):=by
 rw [q1i _ _ (by omega)];rfl
theorem qpo(i:Nat)(h:i<26): ltr[i]? = some (97+i):=by
 unfold ltr;rw [gz,g06 h,mq,Nat.add_comm]
theorem q8v(i:Nat)(h:i<26): oIxS (S ltr) (.int (i:Int))=some (S [97+i]):=q1m (qpo i h) (by decide)
def nmA(wd:List Nat)(i W:Nat): List (List Nat):=((List.range (min W 8)).map fun k=>wd.take (0+k+1))++((List.range (max 1 (W-7)-1)).map fun k=>[97+(i+(1+k))%26])
def nmB(st:List Nat)(at' t W:Nat): List (List Nat):=(List.range W).map fun k=>st.take at'++[97+(t+5*(0+k))%26]++st.drop at'
theorem ky{n:Nat}{g:Nat->List Nat}(h:∀a b,a<n->b<n->g a=g b->a=b): ((List.range n).map g).Nodup:=by
 rw [uo,g1i];refine g30 ?_ (List.nodup_range (n:=n));intro a b ha hb hab e;exact hab (h a b (mv.mp ha) (mv.mp hb) e)
theorem qpp{wd:List Nat}{i W:Nat}(hw:wd.length=8)(hc:∀c∈wd,97<=c/\c<=122)(h0:wd[0]? = some (97+i))(hi:i<26)(hW:W<=12): NmOk (nmA wd i W)/\(nmA wd i W).length=W:=by
 refine⟨⟨?_,?_⟩,?_⟩
 ·unfold nmA
  rw [g0f];refine⟨ky fun a b ha hb e=>?_,ky fun a b ha hb e=>?_,fun x hx y hy e=>?_⟩
  ·have:=n6 List.length e
   rw [mf,mf,hw] at this;omega
  ·injection e with e
   omega
  ·obtain⟨a,ha,rfl⟩:=gp.mp hx
   obtain⟨b,hb,rfl⟩:=gp.mp hy;have ha:=mv.mp ha;have hb:=mv.mp hb;have h1:=n6 List.length e;rw [mf,hw,gj] at h1;have ha0:a=0:=by omega
   subst ha0;have h2:=n6 (fun l:List Nat=>l[0]?) e;simp only [g1e] at h2;rw [g2n (by omega),h0] at h2;injection h2 with h2
   omega
 ·intro n hn
  rcases mz.mp hn with hn|hn
  ·obtain⟨a,ha,rfl⟩:=gp.mp hn
   have ha:=mv.mp ha;rw [mf,hw];exact⟨by omega,by omega,fun c h=>hc c (uw h)⟩
  ·obtain⟨a,ha,rfl⟩:=gp.mp hn
   refine⟨by simp,by simp,fun c h=>?_⟩;rw [mi.mp h];omega
 ·unfold nmA
  rw [gc,g7,g7,nj,nj];omega
theorem qpq{st:List Nat}{at' t W:Nat}(hs:st.length<=7)(hc:∀c∈st,97<=c/\c<=122)(ha:at'<=st.length)(hW:W<=12): NmOk (nmB st at' t W)/\(nmB st at' t W).length=W:=by
 refine⟨⟨?_,?_⟩,by unfold nmB;simp⟩
 ·unfold nmB
  refine ky fun a b ha' hb e=>?_;rw [mn,mn] at e;have e2:=List.append_cancel_left e;injection e2 with e3 e4
  omega
 ·intro n hn
  obtain⟨a,ha',rfl⟩:=gp.mp hn;refine⟨by simp only [gc,gj];omega,by simp only [gc,gj,mf,ni];omega,fun c h=>?_⟩;simp only [mz,mi] at h;rcases h with(h|h)|h
  ·exact hc c (uw h)
  ·subst h;omega
  ·exact hc c (g26 h)
theorem qiq(i:Nat)(h:i<26): q6j q4o (S ltr) (S [97+i])=some (.int (i:Int)):=by
 unfold q6j q4o;simp only [jo];rw [show ltr.length=26 from rfl,qn6 i h]
theorem qdd(ns:List Int)(W:Nat)(hW:W<=12): ∃nm:List (List Nat),q05 [.lst (ns.map .int),.str "abcdefghijklmnopqrstuvwxyz",.int (W:Int)]=some (.lst (nm.map S))/\nm.length=W/\NmOk nm:=by
 obtain⟨mx,hmx⟩:=q48 ns;rw [qgs]
 let wd:List Nat:=(List.range 8).map fun k=>97+mx (303+(0+k))%26
 have hwl:wd.length=8:=by simp [wd]
 have hwc:∀c∈wd,97<=c/\c<=122:=fun c hc=>by
  obtain⟨k,_,rfl⟩:=gp.mp hc;omega
 have hw0:wd[0]? = some (97+mx 303%26):=rfl;have hword:∀(x1 x2:Option B) (r:Rho),eOp yw (eC (.str "")) (eL (jl (iR1 (qc (eC (.int 8)) qi)) [none,some 1,some 0] (bN 0) j9 (eOp oIxS (eV 1) (eOp oMod (qk (qq 2 [] qx) (qc (eV 2) (qc (eOp zu (eC (.int 303)) (eV 0)) qi))) (eC (.int 26))))))
   (some (.fz (.lst (ns.map .int))) :: some (.fz (S ltr)) :: r)=some (S wd):=fun x1 x2 r=>by
  have e1:wd=(((List.range 8).map fun k=>[97+mx (303+(0+k))%26])).flatten:=by
   show List.map _ _=_;rw [<- List.flatMap_def,List.map_eq_flatMap]
  rw [e1];refine qt x_c (x_l (vv (wz _ _ 8 (qg x_c ql) (by decide) (by decide)) (by rw [q16];decide) ?_)) (by rw [sE];exact qan (B:=1) (fun l hl=>by obtain⟨k,_,rfl⟩:=gp.mp hl;simp) (by simp));have:=jy (b:=bN 0) (f:=eOp oIxS (eV 1) (eOp oMod (qk (qq 2 [] qx) (qc (eV 2) (qc (eOp zu (eC (.int 303)) (eV 0)) qi))) (eC (.int 26)))) (ρ :=ve [none,some 1,some 0] (some (.fz (.lst (ns.map .int))) :: some (.fz (S ltr)) :: r)) (fun d=>match d with | .int n=>S [97+mx (303+n.toNat)%26]|_=>.non) (ds:=zf 0 8) fun d hd=>by
   obtain⟨k,hk,rfl⟩:=gp.mp hd;have hk:=mv.mp hk;refine⟨_,rfl,?_⟩;rw [show((0:Int)+(k:Int))=(k:Int) by omega];refine qt (x_v rfl) (qt (z8 (qg (x_v rfl) (qg (qt x_c (x_v rfl) (js _ _)) ql)) rfl (hmx (303+k) (by omega))) x_c (jr _ 26 (by decide))) ?_;exact q8v _ (p7 _ (by decide))
  rw [show(8:Int).toNat=8 from rfl,this];exact n6 some (map_range 0 8 (fun k=>[97+mx (303+k)%26]) _ fun k=>rfl)
 by_cases h4:mx 312%4=0
 ·obtain⟨hok,hlen⟩:=qpp (W:=W) hwl hwc hw0 (p7 _ (by decide)) hW
  refine⟨_,?_,hlen,hok⟩;refine jb ?_;refine qz (zo (z8 (qg (x_v rfl) (qg x_c ql)) rfl (hmx 301 (by decide)))) (qz (zo (hword none none _)) (q39 (q3a (ja (qt (z8 (qg (x_v rfl) (qg x_c ql)) rfl (hmx 312 (by decide))) x_c (jr _ 4 (by decide))) x_c (yq _ _)) (gm (by omega)) ?_)));refine qz (zo (qt (x_v rfl) (qt (x_v rfl) x_c (q1m (i:=0) hw0 (by rw [hwl];decide))) (qiq _ (p7 _ (by decide))))) ?_;refine qz (q6o (ds:=((List.range (max 1 (W-7)-1)).map fun k=>[97+(mx 303%26+(1+k))%26]).map S) (vv (qn7 _ _ 1 (max 1 (W-7)) (qg x_c (qg (x_call (qg x_c (qg (qt (x_v rfl) x_c (q4z _ _)) ql)) ?_) ql)) (by omega) (by omega)) (by rw [q16];show _<=1000000;omega) ?_)) ?_
  ·show some (D.int (if(1:Int)<(W:Int)-7 then(W:Int)-7 else 1))=_
   congr 2
   split <;> omega
  ·have:=jy (b:=bN 0) (f:=eOp oIxS (eV 1) (eOp oMod (eOp zu (eV 2) (eV 0)) (eC (.int 26)))) (ρ :=[none,some (.fz (S ltr)),some (.fz (.int ((mx 303%26:Nat):Int)))]) (fun d=>match d with | .int n=>S [97+(mx 303%26+n.toNat)%26]|_=>.non) (ds:=zf ((1:Nat):Int) (max 1 (W-7)-1)) fun d hd=>by
    obtain⟨k,hk,rfl⟩:=gp.mp hd;refine⟨_,rfl,?_⟩;rw [show(((1:Nat):Int)+(k:Int))=((1+k:Nat):Int) by omega];refine qt (x_v rfl) (qt (qt (x_v rfl) (x_v rfl) (js _ _)) x_c (jr (mx 303%26+(1+k)) 26 (by decide))) ?_;exact q8v _ (p7 _ (by decide))
   refine this.trans ?_;exact n6 some (map_range 1 (max 1 (W-7)-1) (fun k=>[97+(mx 303%26+k)%26]) _ fun k=>rfl)
  refine q8s rfl (y_ret ?_);refine qt (x:=.lst (((List.range (min W 8)).map fun k=>wd.take (0+k+1)).map S)) (x_l (vv (ds:=zf ((0:Nat):Int) (min W 8)) ?_ (by rw [q16];show _<=1000000;omega) ?_)) (x_v rfl) ?_
  ·refine wz _ _ ((min W 8:Nat):Int) (qg (x_call (qg (x_v rfl) (qg x_c ql)) ?_) ql) (by omega) (by omega)
   show some (D.int (if(8:Int)<(W:Int) then 8 else(W:Int)))=_
   congr 2
   split <;> omega
  ·have:=jy (b:=bN 0) (f:=kr (eV 1) oNo (oAt (eOp zu (eV 0) (eC (.int 1))))) (ρ :=[none,some (.fz (S wd))]) (fun d=>match d with | .int n=>S (wd.take (n.toNat+1))|_=>.non) (ds:=zf ((0:Nat):Int) (min W 8)) fun d hd=>by
    obtain⟨k,hk,rfl⟩:=gp.mp hd;refine⟨_,rfl,?_⟩;rw [show(((0:Nat):Int)+(k:Int))=(k:Int) by omega];exact q1v (x_v rfl) q0h (x_at (qt (x_v rfl) x_c (js _ _))) (by rw [hwl];decide) (q53 wd (k+1))
   refine this.trans ?_;exact n6 some (map_range 0 (min W 8) (fun k=>wd.take (k+1)) _ fun k=>rfl)
  ·rw [q3i _ _ (by simp only [g7,nj];omega), <- ng];rfl
 ·have hsz:mx 302%8<8:=p7 _ (by decide)
  have hst:(wd.take (mx 302%8)).length=mx 302%8:=by rw [mf,hwl];omega
  obtain⟨hok,hlen⟩:=qpq (st:=wd.take (mx 302%8)) (at':=mx 311%(mx 302%8+1)) (t:=mx 301) (W:=W) (by omega) (fun c hc=>hwc c (uw hc)) (by have:=p7 (mx 311) (show 0<mx 302%8+1 by omega);omega) hW;refine⟨_,?_,hlen,hok⟩;refine jb ?_;refine qz (zo (z8 (qg (x_v rfl) (qg x_c ql)) rfl (hmx 301 (by decide)))) (qz (zo (hword none none _)) (qz (jg (ja (qt (z8 (qg (x_v rfl) (qg x_c ql)) rfl (hmx 312 (by decide))) x_c (jr _ 4 (by decide))) x_c (yq _ _)) (gq (by omega)) jd) (q8s rfl ?_)));refine qz (zo (qt (z8 (qg (x_v rfl) (qg x_c ql)) rfl (hmx 302 (by decide))) x_c (jr _ 8 (by decide)))) ?_;refine qz (zo (q1v (x_v rfl) q0h (x_at (x_v rfl)) (by rw [hwl];decide) (q53 wd _))) ?_;refine qz (zo (qt (z8 (qg (x_v rfl) (qg x_c ql)) rfl (hmx 311 (by decide))) (qt (x_v rfl) x_c (js _ _)) (jr _ (mx 302%8+1) (by omega)))) ?_;refine y_ret (x_l (vv (ds:=zf ((0:Nat):Int) W) ?_ (by rw [q16];show _<=1000000;omega) ?_))
  ·exact wz _ _ (W:Int) (qg (x_v rfl) ql) (by omega) (by omega)
  have hta:mx 311%(mx 302%8+1)<=(wd.take (mx 302%8)).length:=by have:=p7 (mx 311) (show 0<mx 302%8+1 by omega);omega
  generalize mx 311%(mx 302%8+1)=at' at *;generalize wd.take (mx 302%8)=st at *;have:=jy (b:=bN 0) (f:=eOp j0 (eOp j0 (kr (eV 1) oNo (oAt (eV 3))) (eOp oIxS (eV 2) (eOp oMod (eOp zu (eV 4) (eOp xi (eC (.int 5)) (eV 0))) (eC (.int 26))))) (kr (eV 1) (oAt (eV 3)) oNo)) (ρ :=[none,some (.fz (S st)),some (.fz (S ltr)),some (.fz (.int (at':Int))),some (.fz (.int (mx 301:Int)))]) (fun d=>match d with | .int n=>S (st.take at'++[97+(mx 301+5*n.toNat)%26]++st.drop at')|_=>.non) (ds:=zf ((0:Nat):Int) W) fun d hd=>by
   obtain⟨k,hk,rfl⟩:=gp.mp hd;have hk:=mv.mp hk;refine⟨_,rfl,?_⟩;rw [show(((0:Nat):Int)+(k:Int))=(k:Int) by omega];refine qt (qt (q1v (x_v rfl) q0h (x_at (x_v rfl)) (by show _<=1000000;omega) (q53 st _)) (qt (x_v rfl) (qt (qt (x_v rfl) (qt x_c (x_v rfl) (q3q _ _ (by decide))) (js _ _)) x_c (jr (mx 301+5*k) 26 (by decide))) (q8v _ (p7 _ (by decide)))) (jt (by rw [mf,gj];omega))) (q1v (x_v rfl) (x_at (x_v rfl)) q0h (by show _<=1000000;omega) (q8r hta)) (jt (by simp only [gc,mf,gj,ni];omega))
  refine this.trans ?_;exact n6 some (map_range 0 W (fun k=>st.take at'++[97+(mx 301+5*k)%26]++st.drop at') _ fun k=>rfl)
abbrev LS(nm:List (List Nat)): D:=.lst (nm.map S)
abbrev TS(nm:List (List Nat)): D:=.tup (nm.map S)
def pick(nm:List (List Nat))(b:List Int): List (List Nat):=b.map fun x=>nm.getD x.toNat []
def q19(m:Nat)(ls:List (List Nat)): List Nat:=(dg m++[58])++(ls.map fun n=>32 :: n).flatten
theorem q6q:∀(ls:List (List Nat)) (x:List Nat),x++(ls.map fun n=>32 :: n).flatten=jn 32 (x :: ls)
 | [],x=>by simp [jn]
 | n :: ls,x=>by
  rw [zw, <- q6q ls n,m7,p6];rfl
theorem lg{m:Nat}(h:m<10 ^ 16): m.log2<1920:=by
 by_cases h0:m=0
 ·subst h0;decide
 ·have:m.log2<64:=(Nat.log2_lt h0).mpr (Nat.lt_trans h (by decide))
  omega
structure BOk(nm:List (List Nat))(b:List Int): Prop where
 len:b.length<=12
 mem:∀x∈b,0<=x/\x<(nm.length:Int)
theorem getD_mem{nm:List (List Nat)}{i:Nat}(h:i<nm.length): nm.getD i []∈nm:=by
 rw [n5,m6 h];exact g0t h
theorem q54{nm:List (List Nat)}{b:List Int}(hb:BOk nm b){n:List Nat}(h:n∈pick nm b): n∈nm:=by
 obtain⟨x,hx,rfl⟩:=gp.mp h;have:=hb.mem x hx;exact getD_mem (by omega)
theorem blanks{nm:List (List Nat)}(hok:NmOk nm){b:List Int}(hb:BOk nm b): jk (bN 0) j9 (eOp j0 (eC (.str " ")) (eOp oIx (eV 1) (eV 0))) [none,some (.fz (LS nm))] (b.map D.int)=some (((pick nm b).map fun n=>32 :: n).map S):=by
 have:=jy (b:=bN 0) (f:=eOp j0 (eC (.str " ")) (eOp oIx (eV 1) (eV 0))) (ρ :=[none,some (.fz (LS nm))]) (fun d=>match d with | .int x=>S (32 :: nm.getD x.toNat [])|_=>.non) (ds:=b.map D.int) fun d hd=>by
  obtain⟨x,hx,rfl⟩:=gp.mp hd;have h:=hb.mem x hx;obtain⟨i,rfl⟩:=g32 h.1;have hi:i<nm.length:=by omega
  refine⟨_,rfl,qt x_c (qt (x_v rfl) (x_v rfl) ((q66 _ _).trans (by rw [vw,gz,m6 hi];rfl))) ?_⟩;rw [sSp,jt (by have:=(hok.one _ (g0t hi)).2.1;rw [gj];omega)];simp only [g2f,n5,m6 hi,g2r]
  rfl
 rw [this];unfold pick;rw [mh,mh,mh];rfl
theorem qap{nm:List (List Nat)}(hok:NmOk nm){b:List Int}(hb:BOk nm b): ∀l∈(pick nm b).map fun n=>32 :: n,l.length<=9:=fun l hl=>by
 obtain⟨n,hn,rfl⟩:=gp.mp hl;have:=(hok.one n (q54 hb hn)).2.1;rw [gs];omega
theorem q7s{B:Nat}: ∀ {ls:List (List Nat)},(∀l∈ls,l.length<=B)->ls.flatten.length<=ls.length*B
 | [],_=>by simp
 | l :: ls,h=>by
  have h1:=h l gd;have h2:=q7s (ls:=ls) fun l hl=>h l (gi _ hl);rw [p6,gc,gs,g3h];omega
theorem qn8{nm:List (List Nat)}(hok:NmOk nm){b:List Int}(hb:BOk nm b): yw (S []) (.lst (((pick nm b).map fun n=>32 :: n).map S))=some (S ((pick nm b).map fun n=>32 :: n).flatten):=qan (qap hok hb) (by
 have:=hb.len;rw [g7];unfold pick;rw [g7];omega)
theorem qf1{nm:List (List Nat)}(hok:NmOk nm){b:List Int}(hb:BOk nm b): ((pick nm b).map fun n=>32 :: n).flatten.length<=108:=by
 have h2:=q7s (qap hok hb);have h3:=hb.len;rw [g7] at h2;unfold pick at h2 ⊢;rw [g7] at h2;omega
structure ROk(nm:List (List Nat))(r:Run): Prop where
 m0:0<=r.1
 m1:r.1<10 ^ 16
 b:BOk nm r.2
def lnR(nm:List (List Nat))(r:Run): List Nat:=q19 r.1.toNat (pick nm r.2)
structure TOk(nm:List (List Nat))(r:Run): Prop where
 m1:1<=r.1
 m2:r.1<=1000000000000
 b:BOk nm r.2
 nd:r.2.Nodup
theorem TOk.r{nm:List (List Nat)}{r:Run}(h:TOk nm r): ROk nm r:=⟨by have:=h.m1;omega,by have:=h.m2;omega,h.b⟩
theorem q6r{nm:List (List Nat)}(hok:NmOk nm){rs:List Run}(hr:∀r∈rs,TOk nm r): ∀l∈rs.map (lnR nm),l.length<=122:=fun l hl=>by
 obtain⟨r,h,rfl⟩:=gp.mp hl;have h:=hr r h;have h1:=q46 (k:=13) (m:=r.1.toNat) (by decide) (by have:=h.m1;have:=h.m2;omega);have h2:=qf1 hok h.b;unfold lnR q19;rw [gc,gc,gj];omega
theorem qf2{nm:List (List Nat)}(hok:NmOk nm){ls:List (List Nat)}(hr:∀l∈ls,l.length<=122)(hl:ls.length<=300): yw (S [10]) (.lst (ls.map S))=some (S (jn 10 ls)):=
 qam (B:=122) hr (by omega)
theorem qn9{nm:List (List Nat)}(hok:NmOk nm){r:Run}(h:ROk nm r)(x0 x1 x3:Option B)(q:Rho): eOp j0 (eOp j0 (qk q4q (qc (eV 4) qi)) (eC (.str ":"))) (eOp yw (eC (.str "")) (eL (jl (xq (eV 5)) [none,some 2] (bN 0) j9 (eOp j0 (eC (.str " ")) (eOp oIx (eV 1) (eV 0))))))
  (x0 :: x1 :: some (.fz (LS nm)) :: x3 :: some (.fz (.int r.1)) :: some (.fz (TI r.2)) :: q)=some (S (lnR nm r)):=by
 have h1:=q46 (k:=16) (m:=r.1.toNat) (by decide) (by have:=h.m0;have:=h.m1;omega);have h2:=qf1 hok h.b;have hs:q4q [.int r.1]=some (S (dg r.1.toNat)):=by
  have:=q7r (m:=r.1.toNat) (lg (by have:=h.m0;have:=h.m1;omega));rw [g05 h.m0] at this;exact this
 refine qt (qt (x_call (qg (x_v rfl) ql) hs) x_c (by rw [sCo];exact jt (by rw [gj];omega))) (qt x_c (x_l (vv (ds:=r.2.map D.int) (q0a (x_v rfl) rfl) (by rw [g7];have:=h.b.len;show _<=1000000;omega) (blanks hok h.b))) (by rw [sE];exact qn8 hok h.b)) ?_;exact jt (by rw [gc,gj];omega)
theorem qaq{nm:List (List Nat)}(hok:NmOk nm)(x0 x1:Option B)(q:Rho): ∀(rs:List Run) (acc:List (List Nat)) (b3 b4:Option B),(∀r∈rs,ROk nm r)->acc.length+rs.length<=100 ->
  ∃b3' b4',runFor (q30 2 (yu (bN 4) (yu (bN 5) q2z))) q4x (rs.map q18) (x0 :: x1 :: some (.fz (LS nm)) :: some (.ow (acc.map S)) :: b3 :: b4 :: q)=some (.nx,(x0 :: x1 :: some (.fz (LS nm)) :: some (.ow ((acc++rs.map (lnR nm)).map S)) :: b3' :: b4' :: q))
 | [],acc,b3,b4,_,_=>⟨b3,b4,by simp [runFor]⟩
 | r :: rs,acc,b3,b4,h,hl=>by
  rw [gs] at hl;obtain⟨b3',b4',ih⟩:=qaq hok x0 x1 q rs (acc++[lnR nm r]) (some (.fz (.int r.1))) (some (.fz (TI r.2))) (fun r' hr'=>h r' (gi _ hr')) (by simp;omega);refine⟨b3',b4',?_⟩;have body:q4x (x0 :: x1 :: some (.fz (LS nm)) :: some (.ow (acc.map S)) :: some (.fz (.int r.1)) :: some (.fz (TI r.2)) :: q)=some (.nx,(x0 :: x1 :: some (.fz (LS nm)) :: some (.ow (acc.map S++[S (lnR nm r)])) :: some (.fz (.int r.1)) :: some (.fz (TI r.2)) :: q)):=(q37 rfl (qn9 hok (h r gd) x0 x1 _ q) (by rw [g7];show _<1000000;omega))
  rw [m7,yg (ρ1:=(x0 :: x1 :: some (.fz (LS nm)) :: some (.ow (acc.map S)) :: some (.fz (.int r.1)) :: some (.fz (TI r.2)) :: q)) rfl body];rw [ng] at ih;refine ih.trans ?_;rw [m7,mn];rfl
theorem q6s{o1 o2:D->D->Option D}{a b c:FE}{ρ : Rho}{x y z r:D}(h1:a ρ = some x)(h2:b ρ = some y)(h3:o1 x y=some (.bl true))(h4:c ρ = some z)(h5:o2 y z=some r): q22 o1 o2 a b c ρ = some r:=by
 unfold q22;rw [h1,g6,h2,g6,h3,g6];show(c ρ).bind _=_;rw [h4,g6,h5]
theorem q7t{o1 o2:D->D->Option D}{a b c:FE}{ρ : Rho}{x y z:D}{q:Bool}(h1:a ρ = some x)(h2:b ρ = some y)(h3:o1 x y=some (.bl true))(h4:c ρ = some z)(h5:o2 y z=some (.bl q)): q3x o1 o2 a b c ρ = some q:=by
 unfold q3x;rw [q6s h1 h2 h3 h4 h5];rfl
theorem qf3:jw [S (dg 1000000000000)]=some (.int 13):=by rfl
theorem qir{l t:List Nat}(h:∀c∈l,c∈t)(x:D)(hx:x=S t): jk (bN 0) j9 (eOp q0z (eV 0) (eC x)) [none] ((l.map fun c=>[c]).map S)=some ((l.map fun _=>true).map D.bl):=by
 subst hx;have:=jy (b:=bN 0) (f:=eOp q0z (eV 0) (eC (S t))) (ρ :=[none]) (fun _=>.bl true) (ds:=(l.map fun c=>[c]).map S) fun d hd=>by
  obtain⟨z,hz,rfl⟩:=gp.mp hd;obtain⟨c,hc,rfl⟩:=gp.mp hz;refine⟨_,rfl,qt (x_v rfl) x_c ?_⟩;rw [q7q,gm (h c hc)]
 rw [this,mh,mh,mh];rfl
theorem all_true{α : Type}: ∀l:List α,(l.map fun _=>true).all id=true
 | []=>rfl
 | _ :: l=>by simp
theorem qf4{c:Nat}(h:48<=c/\c<=57): c∈fig:=gp.mpr ⟨c-48,mv.mpr (by omega),by omega⟩
theorem qf5{c:Nat}(h:97<=c/\c<=122): c∈ltr:=gp.mpr ⟨c-97,mv.mpr (by omega),by omega⟩
theorem qgt{m:Nat}(h1:1<=m)(h2:m<=1000000000000): wc [S (dg m)]=some (.bl true):=by
 have hl:=q46 (k:=13) (m:=m) (by decide) (by omega);have hn:1<=(dg m).length:=by
  cases e:dg m with
  | nil=>exact absurd e (qle m)
  | cons _ _=>simp
 obtain⟨c,r,e,hc⟩:=qf0 m h1;refine jb ?_;refine qz (jg (yh (q7t x_c (x_call (qg (x_v rfl) ql) (q8u (by omega))) ?_ (x_call (qg (x_call (qg x_c ql) (q7r (m:=1000000000000) (by decide))) ql) qf3) (jv _ _))) ?_ jd) ?_
 ·rw [jv,gm (by omega)]
 ·rw [gm (by omega)];rfl
 refine qz (jg (q2r (ja (qt (x_v rfl) x_c (q1m (i:=0) (c:=c) (by rw [e];rfl) (by omega))) x_c (by rw [s0];exact q0r _ _)) (gq (by intro z;injection z with z;exact hc z)) (yh (q3p (x_call (qg (x_l (vv (q8t (x_v rfl)) (by rw [g7,g7];show _<=1000000;omega) (qir (t:=fig) (fun c hc=>qf4 (q1l hc)) _ (by rw [qpn])))) ql) (wy _)) rfl))) (by rw [all_true];rfl) jd) ?_;refine y_ret (qt (x_call (qg (x_v rfl) ql) (qao (by omega))) x_c ?_);rw [jv,gm (by omega)]
theorem qgu{m:Nat}(h1:1<=m)(h2:m<=1000000000000): xm [S (dg m++[58])]=some (.bl true):=by
 have hl:=q46 (k:=13) (m:=m) (by decide) (by omega);refine jb (y_ret (q1j (qt (x_v rfl) x_c (?_:_=some (D.bl true))) rfl (z8 (qg (q1v (x_v rfl) q0h (x_at (qd4 x_c rfl)) (by rw [gc,gj];omega) (q2l _ _)) ql) rfl (qgt h1 h2))));rw [sCo];show q0y (txt (dg m++[58])) (txt [58])=_;rw [<- q1k];unfold q0y;rw [PySem.W.KT.ends_app]
theorem qgv{n:List Nat}(h:1<=n.length/\n.length<=8/\∀c∈n,97<=c/\c<=122): vk [S n]=some (.bl true):=by
 refine jb (y_ret (q1j (q6s x_c (x_call (qg (x_v rfl) ql) (q8u (by omega))) (?_:_=some (D.bl true)) x_c (jv _ _)) (gm (by omega)) (x_call (qg (x_l (vv (q8t (x_v rfl)) (by rw [g7,g7];show _<=1000000;omega) (qir (t:=ltr) (fun c hc=>qf5 (h.2.2 c hc)) _ (by rw [qgs])))) ql) ?_)))
 ·rw [jv,gm (by omega)]
 ·rw [wy,all_true]
theorem qde{ls:List (List Nat)}(h:NmOk ls)(hl:ls.length<=12): jx [.lst (ls.map S)]=some (.bl true):=by
 refine jb (y_ret (q1j (x_call (qg (x_l (ds:=(ls.map fun _=>true).map D.bl) (vv (ds:=ls.map S) (q0a (x_v rfl) rfl) (by rw [g7];show _<=1000000;omega) ?_)) ql) (wy _)) (all_true _) (qt (qkp (x_v rfl) h.nd (by omega)) (x_call (qg (x_v rfl) ql) rfl) ?_)))
 ·have:=jy (b:=bN 0) (f:=qk (qq 1 [] vk) (qc (eV 0) qi)) (ρ :=[none]) (fun _=>.bl true) (ds:=ls.map S) fun d hd=>by
   obtain⟨n,hn,rfl⟩:=gp.mp hd;exact⟨_,rfl,z8 (qg (x_v rfl) ql) rfl (qgv (h.one n hn))⟩
  refine this.trans ?_;rw [mh,mh];rfl
 ·rw [yq,g7,gm rfl]
theorem qdf{ls:List (List Nat)}(h:NmOk ls)(hl:ls.length<=12){m:Nat}(h1:1<=m)(h2:m<=1000000000000): zh [S (q19 m ls)]=some (.tup [.int (m:Int),.lst (ls.map S)]):=by
 have hd:=q46 (k:=13) (m:=m) (by decide) (by omega);have hf:∀l∈(dg m++[58]) :: ls,32∉l:=fun l hl'=>by
  rcases gx.mp hl' with rfl|hl'
  ·intro z
   rcases mz.mp z with z|z
   ·have:=q1l z;omega
   ·have:=mi.mp z;omega
  ·intro z
   have:=(h.one l hl').2.2 32 z;omega
 have hlen:(jn 32 ((dg m++[58]) :: ls)).length+2<=1000000:=by
  rw [<- q6q];have h2:=q7s (B:=9) (ls:=ls.map fun n=>32 :: n) fun l hl'=>by
   obtain⟨n,hn,rfl⟩:=gp.mp hl';have:=(h.one n hn).2.1;rw [gs];omega
  rw [g7] at h2;rw [gc,gc,gj];omega
 have hix:oIx (D.lst (List.map S ((dg m++[58]) :: ls))) (D.int 0)=some (S (dg m++[58])):=by
  rw [q66,show(0:Int)=((0:Nat):Int) from rfl,vw];rfl
 have e0:q19 m ls=jn 32 ((dg m++[58]) :: ls):=q6q ls _;rw [e0];refine jb ?_;refine qz (zo (x_l (q47 (x_v rfl) (by rw [sSp];exact x_c) (by simp) hf hlen))) ?_;refine qz (zo (qd5 (x_v rfl) (x_at x_c) q0h (y:=.lst (ls.map S)) (n6 (fun l=>some (D.lst l)) (q7o (α :=Unit) (((dg m++[58]) :: ls).map S) 1)))) ?_;refine qz (jg (q2r (yh (q3p (z8 (qg (qt (x_v rfl) x_c hix) ql) rfl (qgu h1 h2)) rfl)) rfl (yh (q3p (z8 (qg (x_v rfl) ql) rfl (qde h hl)) rfl))) rfl jd) ?_;exact y_ret (q6n (qg (x_call (qg (q1v (qt (x_v rfl) x_c hix) q0h (x_at (qd4 x_c rfl)) (by rw [gc,gj];omega) (q2l _ _)) ql) (qao (by omega))) (qg (x_v rfl) ql)) (show 2<=1000000 by decide))
abbrev k6(nm:List (List Nat))(r:Run): D:=.tup [.int r.1,.lst ((pick nm r.2).map S)]
theorem getD_inj{nm:List (List Nat)}(hn:nm.Nodup){i j:Nat}(hi:i<nm.length)(hj:j<nm.length)(e:nm.getD i []=nm.getD j []): i=j:=by
 rw [n5,n5,m6 hi,m6 hj] at e;exact(List.getElem_inj hn).mp e
theorem qf6{nm:List (List Nat)}(hok:NmOk nm){b:List Int}(hb:BOk nm b)(hn:b.Nodup): NmOk (pick nm b):=by
 refine⟨?_,fun n h=>hok.one n (q54 hb h)⟩;unfold pick;rw [uo,g1i];refine g30 ?_ hn;intro x y hx hy hxy e;have h1:=hb.mem x hx;have h2:=hb.mem y hy;have:=getD_inj hok.nd (i:=x.toNat) (j:=y.toNat) (by omega) (by omega) e;omega
theorem q6t{nm:List (List Nat)}(hok:NmOk nm){r:Run}(h:TOk nm r): 10∉lnR nm r:=by
 unfold lnR q19;intro z;rcases mz.mp z with z|z
 ·rcases mz.mp z with z|z
  ·have:=q1l z;omega
  ·have:=mi.mp z;omega
 ·obtain⟨l,hl,hz⟩:=g31.mp z
  obtain⟨n,hn,rfl⟩:=gp.mp hl;rcases gx.mp hz with z|z
  ·cases z
  ·have:=(hok.one n (q54 h.b hn)).2.2 10 z;omega
theorem q49{B:Nat}: ∀ {ls:List (List Nat)},(∀l∈ls,l.length<=B)->(ls.map List.length).sum<=ls.length*B
 | [],_=>by simp
 | l :: ls,h=>by
  have h1:=h l gd;have h2:=q49 (ls:=ls) fun l hl=>h l (gi _ hl);rw [m7,g3e,gs,g3h];omega
theorem qlf{c:Nat}: ∀ {ls:List (List Nat)},ls≠[]->(∀l∈ls,l≠[])->jn c ls≠[]
 | [],h,_=>absurd rfl h
 | [x],_,h=>h x gd
 | x :: y :: r,_,h=>by rw [zw];simp
theorem q77{nm:List (List Nat)}(hok:NmOk nm){rs:List Run}(hr:∀r∈rs,TOk nm r)(hl:rs.length<=300): vf [S (jn 10 (rs.map (lnR nm)))]=some (.lst (rs.map (k6 nm))):=by
 by_cases h0:rs=[]
 ·subst h0
  exact jb (qz (jg (yh (q3p (qgn (x_v rfl)) rfl)) rfl jd) (q39 (q3a (ja (x_v rfl) x_c (by rw [sE];exact q0r _ _)) (gm rfl) (y_ret (x_l (vy ql (pz _)))))))
 have h1:rs.map (lnR nm)≠[]:=by intro z;rw [g0w] at z;exact h0 z
 have hlen:=q6r hok hr;have hfree:∀l∈rs.map (lnR nm),10∉l:=fun l hl=>by
  obtain⟨r,h,rfl⟩:=gp.mp hl;exact q6t hok (hr r h)
 have hjl:(jn 10 (rs.map (lnR nm))).length+2<=1000000:=by
  have a:=q45 10 (rs.map (lnR nm));have b:=q49 hlen;rw [g7] at a b;omega
 have hne:jn 10 (rs.map (lnR nm))≠[]:=qlf h1 fun l hl=>by
  obtain⟨r,h,rfl⟩:=gp.mp hl;unfold lnR q19;intro z;rw [g0b,g0b] at z;exact absurd z.1.2 (by simp)
 refine jb (qz (jg (yh (q3p (qgn (x_v rfl)) rfl)) rfl jd) (qz (jg (ja (x_v rfl) x_c (by rw [sE];exact q0r _ _)) (gq hne) jd) (y_ret (x_l (vv (ds:=(rs.map (lnR nm)).map S) (q0a (x_l (q47 (x_v rfl) (by rw [sNl];exact x_c) h1 hfree hjl)) rfl) (by rw [g7,g7];show _<=1000000;omega) ?_)))));have key:∀(rs:List Run),(∀r∈rs,TOk nm r)->jk (bN 0) j9 (qk (qq 1 [] zh) (qc (eV 0) qi)) [none] ((rs.map (lnR nm)).map S)=some (rs.map (k6 nm)):=by
  intro rs
  induction rs with
  | nil=>intro _;rfl
  | cons r rs ih=>
   intro hr;have h:=hr r gd;have e:=qdf (qf6 hok h.b h.nd) (by unfold pick;rw [g7];exact h.b.len) (m:=r.1.toNat) (by have:=h.m1;omega) (by have:=h.m2;omega);rw [g05 (by have:=h.m1;omega)] at e;have e2:qk (qq 1 [] zh) (qc (eV 0) qi) [some (.fz (S (lnR nm r)))]=some (k6 nm r):=z8 (qg (x_v rfl) ql) rfl e;have ih:=ih fun r hr'=>hr r (gi _ hr');rw [m7,m7,m7];unfold jk;show Option.bind (some _) _=_;rw [g6];show Option.bind (some true) _=_;rw [g6];simp only [pd];show Option.bind (qk (qq 1 [] zh) (qc (eV 0) qi) [some (.fz (S (lnR nm r)))]) _=_;rw [e2,g6,ih];rfl
 exact key rs hr
theorem qf7(nm:List (List Nat)): ∀rs:List Run,qcf (rs.map (k6 nm))=some (rs.map fun r=>(pick nm r.2).map txt)
 | []=>rfl
 | r :: rs=>by
  rw [m7,qcf];show(q0x ((pick nm r.2).map S)).bind _=_;rw [q0q,g6,qf7 nm rs];rfl
theorem qf8:∀(a b:List Str),(a++b).Nodup->b.foldl step_dedup a=a++b:=by
 intro a b
 induction b generalizing a with
 | nil=>intro _;simp
 | cons y b ih=>
  intro h;have hy:y∉a:=fun z=>by
   rw [g0f] at h;exact h.2.2 y z y gd rfl
  rw [uh,wa hy,ih _ (by rw [mn];exact h),mn];rfl
theorem qis:∀(b a:List Str),(∀x∈b,x∈a)->b.foldl step_dedup a=a
 | [],a,_=>rfl
 | x :: b,a,h=>by rw [uh,q1f (h x gd),qis b a fun y hy=>h y (gi _ hy)]
theorem qkq{a b:List Str}(hn:a.Nodup)(hb:∀x∈b,x∈a): xk (a++b)=a:=by
 unfold xk;rw [g2k,qf8 [] a (by simpa using hn),pk,qis b a hb]
theorem qar{nm:List (List Nat)}: ∀ {rs:List Run},(∀r∈rs,TOk nm r)->(rs.map fun r=>(pick nm r.2).map txt).flatten.length<=rs.length*12
 | [],_=>by simp
 | r :: rs,h=>by
  have h1:=(h r gd).b.len;have h2:=qar (rs:=rs) fun r hr=>h r (gi _ hr);rw [m7,p6,gc,g7,gs,g3h];unfold pick at *;rw [g7];omega
theorem places_eq{nm:List (List Nat)}{rs:List Run}(hr:∀r∈rs,TOk nm r)(hl:rs.length<=300): j8 [.lst (rs.map (k6 nm))]=some (yn (xk (rs.map fun r=>(pick nm r.2).map txt).flatten)):=by
 have:=qar hr;refine jb (qz (ρ1:=[some (.fz (.lst (rs.map (k6 nm)))),some (.fz (yn (xk (rs.map fun r=>(pick nm r.2).map txt).flatten))),none,none,none]) ?_ (y_ret (x_v rfl)));show qch 1 2 3 4 (xq (eV 0)) [some (.fz (.lst (rs.map (k6 nm)))),none,none,none,none]=_;unfold qch;rw [gy (by simp only [gs,nt];decide)];show Option.bind (some (rs.map (k6 nm))) _=_;rw [g6,qf7,g6,gy (by show _<1000000;omega)]
 rfl
theorem q7u:∀ks:List Str,q9h (ks.map Sum.inr)=some ks
 | []=>rfl
 | k :: ks=>by rw [m7,q9h,q7u ks];rfl
theorem qna{l:List Str}{k x:Str}: x∈step_dedup l k↔x∈l\/x=k:=by
 by_cases h:k∈l
 ·rw [q1f h]
  exact⟨.inl,fun z=>z.elim id fun e=>e ▸ h⟩
 ·rw [wa h];simp
theorem qf9:∀(b a:List Str) (x:Str),x∈b.foldl step_dedup a↔x∈a\/x∈b
 | [],a,x=>by simp
 | k :: b,a,x=>by
  rw [uh,qf9 b,qna,gx]
  constructor
  ·rintro((h|h)|h)
   ·exact .inl h
   ·exact .inr (.inl h)
   ·exact .inr (.inr h)
  ·rintro(h|h|h)
   ·exact .inl (.inl h)
   ·exact .inl (.inr h)
   ·exact .inr h
theorem oneS_in{l:List Str}{x:Str}: x∈xk l↔x∈l:=by
 unfold xk;rw [qf9];simp
theorem qpr{ks:List Str}{k:Str}(h:k∈ks): q11 (yn ks) (.str k)=some (.int (ks.idxOf k:Nat)):=by
 unfold yn q11;simp only [q7u,g6,h,pd];unfold qkf;rw [gz,g06 (g0n h)];rfl
abbrev xv(nm:List (List Nat))(rs:List Run): List Str:=xk (rs.map fun r=>(pick nm r.2).map txt).flatten
def qkr(nm:List (List Nat))(ks:List Str)(r:Run): Run:=(r.1,sortI ((pick nm r.2).map fun n=>((ks.idxOf (txt n):Nat):Int)))
theorem qks(nm:List (List Nat))(ks:List Str): ∀(ls:List (List Nat)),(∀n∈ls,txt n∈ks)->jk (bN 0) j9 (eOp q11 (eV 1) (eV 0)) [none,some (.fz (yn ks))] (ls.map S)=some ((ls.map fun n=>((ks.idxOf (txt n):Nat):Int)).map D.int):=by
 intro ls h;have:=jy (b:=bN 0) (f:=eOp q11 (eV 1) (eV 0)) (ρ :=[none,some (.fz (yn ks))]) (fun d=>match d with | .str x=>.int (ks.idxOf x:Nat)|_=>.non) (ds:=ls.map S) fun d hd=>by
  obtain⟨n,hn,rfl⟩:=gp.mp hd;exact⟨_,rfl,qt (x_v rfl) (x_v rfl) (qpr (h n hn))⟩
 rw [this,mh,mh];rfl
theorem qfa{nm:List (List Nat)}(hok:NmOk nm){rs:List Run}(hr:∀r∈rs,TOk nm r)(hl:rs.length<=200)(hk:(xv nm rs).length<=12):
  yo [S (jn 10 (rs.map (lnR nm)))]=some (.tup [.tup ((xv nm rs).map .str),q6p (xv nm rs).length (rs.map (qkr nm (xv nm rs)))]):=by
 have hle:q12 [yn (xv nm rs)]=some (.int ((xv nm rs).length:Nat)):=by
  unfold yn q12;simp only [g7]
 have key:∀(qs:List Run),(∀r∈qs,r∈rs)->jk (q30 2 (yu (bN 0) (yu (bN 1) q2z))) j9 (vt (qc (eV 0) (qc (qk ka (qc (eL (q2e q1e (qc (eL (jl (xq (eV 1)) [none,some 2] (bN 0) j9 (eOp q11 (eV 1) (eV 0)))) qi))) qi)) qi))) [none,none,some (.fz (yn (xv nm rs)))] (qs.map (k6 nm))=some ((qs.map (qkr nm (xv nm rs))).map q18):=by
  intro qs
  induction qs with
  | nil=>intro _;rfl
  | cons r qs ih=>
   intro hq;have h:=hr r (hq r gd);have ih:=ih fun r hr'=>hq r (gi _ hr');have hmem:∀n∈pick nm r.2,txt n∈xv nm rs:=fun n hn=>oneS_in.mpr (g31.mpr ⟨_,gp.mpr ⟨r,hq r gd,rfl⟩,gp.mpr ⟨n,hn,rfl⟩⟩);have e2:vt (qc (eV 0) (qc (qk ka (qc (eL (q2e q1e (qc (eL (jl (xq (eV 1)) [none,some 2] (bN 0) j9 (eOp q11 (eV 1) (eV 0)))) qi))) qi)) qi)) [some (.fz (.int r.1)),some (.fz (.lst ((pick nm r.2).map S))),some (.fz (yn (xv nm rs)))]=some (q18 (qkr nm (xv nm rs) r)):=by
    have hp:(pick nm r.2).length<=12:=by unfold pick;rw [g7];exact h.b.len
    refine q6n (qg (x_v rfl) (qg (x_call (qg (x_l (qez (qg (x_l (vv (ds:=(pick nm r.2).map S) (q0a (x_v rfl) rfl) (by rw [g7];show _<=1000000;omega) (qks nm _ _ hmem))) ql) ?_)) ql) (q7p _)) ql)) (show 2<=1000000 by decide);unfold q1e;simp only [qaa,g6,g7];rw [gy (by omega)];rfl
   rw [m7,m7,m7];unfold jk;show Option.bind (some _) _=_;rw [g6];show Option.bind (some true) _=_;rw [g6];simp only [pd];show Option.bind (vt (qc (eV 0) (qc (qk ka (qc (eL (q2e q1e (qc (eL (jl (xq (eV 1)) [none,some 2] (bN 0) j9 (eOp q11 (eV 1) (eV 0)))) qi))) qi)) qi)) [some (.fz (.int r.1)),some (.fz (.lst ((pick nm r.2).map S))),some (.fz (yn (xv nm rs)))]) _=_;rw [e2,g6,ih];rfl
 refine jb ?_;refine qz (zo (z8 (qg (x_v rfl) ql) rfl (q77 hok hr (by omega)))) ?_;refine qz (zo (z8 (qg (x_v rfl) ql) rfl (places_eq hr (by omega)))) ?_;refine qz (jg (ja (x_call (qg (x_v rfl) ql) hle) x_c (ko _ _)) (gq (by omega)) jd) ?_;refine qz (jg (ja (x_call (qg (x_v rfl) ql) (q2k _)) x_c (ko _ _)) (gq (by rw [g7];omega)) jd) ?_;refine qz (q6o (vv (ds:=rs.map (k6 nm)) (q0a (x_v rfl) rfl) (by rw [g7];show _<=1000000;omega) (key rs fun _ h=>h))) ?_;refine q8s rfl (y_ret (q6n (qg (x_call (qg (x_v rfl) ql) (?_:q8g [yn (xv nm rs)]=some (.tup ((xv nm rs).map .str)))) (qg (q6n (qg (x_call (qg (x_v rfl) ql) hle) (qg (x_call (qg (x_v rfl) ql) (q7p _)) ql)) (show 2<=1000000 by decide)) ql)) (show 2<=1000000 by decide)));unfold q8g yn;simp only [q7u,mq]
end My
namespace Tx
open PySem PySem.W PySem.NumText
def spl(c:Nat): List Nat->List (List Nat)
 | []=>[[]]
 | x :: l=>if x=c then [] :: spl c l else match spl c l with
  | []=>[[x]]
  | w :: ws=>(x :: w) :: ws
theorem q1a(c:Nat): ∀l,spl c l≠[]
 | []=>by simp [spl]
 | x :: l=>by
  unfold spl
  split
  ·simp
  ·split <;> simp
theorem q1b(c:Nat): ∀l,jn c (spl c l)=l
 | []=>rfl
 | x :: l=>by
  have ih:=q1b c l;unfold spl
  split
  ·rename_i h
   subst h;cases e:spl x l with
   | nil=>exact absurd e (q1a _ _)
   | cons w ws=>
    rw [e] at ih;rw [zw,ih];rfl
  ·cases e:spl c l with
   | nil=>exact absurd e (q1a _ _)
   | cons w ws=>
    rw [e] at ih;cases ws with
    | nil=>
     show x :: w=_;rw [show w=l from ih]
    | cons y r=>
     rw [zw] at ih;show jn c ((x :: w) :: y :: r)=_;rw [zw,pf,ih]
theorem q55(c:Nat): ∀l,∀w∈spl c l,c∉w
 | []=>by simp [spl]
 | x :: l=>by
  have ih:=q55 c l;unfold spl
  split
  ·intro w hw
   rcases gx.mp hw with rfl|hw
   ·simp
   ·exact ih w hw
  ·rename_i hx
   cases e:spl c l with
   | nil=>exact absurd e (q1a _ _)
   | cons w ws=>
    rw [e] at ih;intro v hv;rcases gx.mp hv with rfl|hv
    ·intro z
     rcases gx.mp z with z|z
     ·exact hx z.symm
     ·exact ih w gd z
    ·exact ih v (gi _ hv)
theorem qit{c:Nat}{ls:List (List Nat)}(h:ls≠[])(hf:∀l∈ls,c∉l): spl c (jn c ls)=ls:=qdc (q1a _ _) h (q55 _ _) hf (q1b _ _)
theorem qdg{c x:Nat}: ∀ {ls:List (List Nat)},x∈jn c ls->x=c\/∃l∈ls,x∈l
 | [],h=>by cases h
 | [l],h=>.inr ⟨l,gd,h⟩
 | l :: y :: r,h=>by
  rw [zw] at h;rcases mz.mp h with h|h
  ·exact .inr ⟨l,gd,h⟩
  ·rcases gx.mp h with h|h
   ·exact .inl h
   ·rcases qdg h with h|⟨l',h1,h2⟩
    ·exact .inl h
    ·exact .inr ⟨l',gi _ h1,h2⟩
theorem q9w{c:Nat}: ∀ {ls:List (List Nat)} {l:List Nat},l∈ls->l.length<=(jn c ls).length
 | [],_,h=>by cases h
 | [l],l',h=>by rw [mi.mp h];exact gw _
 | l :: y :: r,l',h=>by
  rw [zw,gc,gs];rcases gx.mp h with rfl|h
  ·omega
  ·have:=q9w (c:=c) h;omega
theorem qdh{c:Nat}: ∀ {ls:List (List Nat)},(∀l∈ls,l≠[])->2*ls.length<=(jn c ls).length+1
 | [],_=>by simp
 | [l],h=>by
  have:=List.length_pos_iff.mpr (h l gd);show 2*1<=l.length+1;omega
 | l :: y :: r,h=>by
  have h1:=List.length_pos_iff.mpr (h l gd);have h2:=qdh (c:=c) (ls:=y :: r) fun l hl=>h l (gi _ hl);rw [zw,gc,gs,gs (as:=jn c (y :: r))];omega
def gap(x:Nat): Bool:=x==32 || x==10
def okG:Bool->List Nat->Bool
 | p,[]=> !p
 | p,x :: l=>if gap x then !p&&okG true l else okG false l
theorem qfb{y:Nat}{p:Bool}{l:List Nat}(h:gap y=true): okG p (y :: l)=(!p&&okG true l):=by
 show(if gap y then !p&&okG true l else okG false l)=_;rw [gy h]
theorem qps{y:Nat}{p:Bool}{l:List Nat}(h:¬gap y=true): okG p (y :: l)=okG false l:=by
 show(if gap y then !p&&okG true l else okG false l)=_;rw [ma h]
theorem q9x{x:Nat}(hx:gap x=true): ∀(l:List Nat) (p:Bool) (r:List Nat),okG p l=true->okG p (l++x :: r)=okG true r
 | [],p,r,h=>by
  simp only [okG,g1h] at h;subst h;simp [okG,hx]
 | y :: l,p,r,h=>by
  rw [pf]
  by_cases hy:gap y=true
  ·rw [qfb hy,gu] at h
   rw [qfb hy,h.1,g3f];exact q9x hx l true r h.2
  ·rw [qps hy] at h ⊢
   exact q9x hx l false r h
theorem qdi{c:Nat}(hc:gap c=true): ∀ {ls:List (List Nat)},ls≠[]->(∀l∈ls,okG true l=true)->okG true (jn c ls)=true
 | [],h,_=>absurd rfl h
 | [l],_,h=>h l gd
 | l :: y :: r,_,h=>by
  rw [zw,q9x hc l true _ (h l gd)];exact qdi hc (by simp) fun l hl=>h l (gi _ hl)
theorem qdj:∀(w:List Nat),(∀c∈w,gap c=false)->okG false w=true
 | [],_=>rfl
 | x :: l,h=>by
  unfold okG;rw [ma (by rw [h x gd];decide)];exact qdj l fun c hc=>h c (gi _ hc)
theorem qiu{w:List Nat}(h0:w≠[])(h:∀c∈w,gap c=false): okG true w=true:=by
 cases w with
 | nil=>exact absurd rfl h0
 | cons x l=>
  unfold okG;rw [ma (by rw [h x gd];decide)];exact qdj l fun c hc=>h c (gi _ hc)
theorem q9y{c:Nat}(hc:gap c=true): ∀(a b:List Nat) (p:Bool),(b=[]\/∃y r,b=y :: r/\gap y=true)->okG p (a++c :: b)=false
 | [],b,p,h=>by
  show(if gap c then !p&&okG true b else okG false b)=false;rw [gy hc];rcases h with rfl|⟨y,r,rfl,hy⟩
  ·simp [okG]
  ·simp [okG,hy]
 | x :: a,b,p,h=>by
  rw [pf];unfold okG;rw [q9y hc a b true h,q9y hc a b false h];simp
theorem qiv{c:Nat}(hc:gap c=true)(b:List Nat): okG true (c :: b)=false:=by
 unfold okG;rw [gy hc];rfl
def yi(w:List Nat): Bool:=decide (1<=w.length)&&decide (w.length<=13) && !decide (w[0]? = some 48)&&w.all (fun c=>decide (c∈fig))&&decide (digitsVal w<=1000000000000)
def k7(w:List Nat): Bool:=decide (w.getLast? = some 58)&&yi w.dropLast
def yj(w:List Nat): Bool:=decide (1<=w.length)&&decide (w.length<=8)&&w.all (fun c=>decide (c∈ltr))
def q3r(ws:List (List Nat)): Bool:=ws.all yj&&decide ws.Nodup
def qlg:List (List Nat)->Bool
 | []=>false
 | w :: ws=>k7 w&&q3r ws
def ju(l:List Nat): Bool:=qlg (spl 32 l)
def sgn(c:Nat): Bool:=decide (c∈fig) || decide (c∈ltr) || decide (c=58)
theorem qnb{c:Nat}(h:sgn c=true): gap c=false:=by
 cases e:gap c with
 | false=>rfl
 | true=>
  unfold gap at e;simp only [g0z,t5] at e;rcases e with rfl|rfl <;> exact absurd h (by decide)
theorem qfc{w:List Nat}(h:yj w=true): w≠[]/\∀c∈w,sgn c=true:=by
 unfold yj at h;simp only [gu,nu,nv] at h;refine⟨fun e=>?_,fun c hc=>?_⟩
 ·rw [e] at h;exact absurd h.1.1 (by decide)
 ·unfold sgn
  rw [gm (h.2 c hc)];simp
theorem qfd{w:List Nat}(h:k7 w=true): w≠[]/\∀c∈w,sgn c=true:=by
 unfold k7 yi at h;simp only [gu,nu,nv] at h;have hw:w≠[]:=fun e=>by rw [e] at h;cases h.1
 refine⟨hw,fun c hc=>?_⟩;have e:w.dropLast++[58]=w:=by
  have:=g0l hw;rw [g0c hw] at h;injection h.1 with h1
  rw [h1] at this;exact this
 rw [<- e] at hc;unfold sgn;rcases mz.mp hc with hc|hc
 ·rw [gm (h.2.1.2 c hc)];simp
 ·rw [mi.mp hc];simp
theorem q3s{l:List Nat}(h:ju l=true): ∀w∈spl 32 l,w≠[]/\∀c∈w,sgn c=true:=by
 unfold ju at h;cases e:spl 32 l with
 | nil=>exact absurd e (q1a _ _)
 | cons w ws=>
  rw [e] at h;unfold qlg q3r at h;simp only [gu,nv] at h;intro v hv;rcases gx.mp hv with rfl|hv
  ·exact qfd h.1
  ·exact qfc (h.2.1 v hv)
theorem qiw{l:List Nat}(h:ju l=true): okG true l=true:=by
 rw [<- q1b 32 l];exact qdi rfl (q1a _ _) fun w hw=>qiu (q3s h w hw).1 fun c hc=>qnb ((q3s h w hw).2 c hc)
theorem qix{l:List Nat}(h:ju l=true): ∀c∈l,c=32\/sgn c=true:=by
 intro c hc;rw [<- q1b 32 l] at hc;rcases qdg hc with h1|⟨w,hw,hcw⟩
 ·exact .inl h1
 ·exact .inr ((q3s h w hw).2 c hcw)
abbrev q56(t:List Nat): Prop:=∀l∈spl 10 t,ju l=true
theorem qiy{t:List Nat}(h:q56 t): okG true t=true:=by
 rw [<- q1b 10 t];exact qdi rfl (q1a _ _) fun l hl=>qiw (h l hl)
theorem qiz{t:List Nat}(h:q56 t): ∀c∈t,c=10\/c=32\/sgn c=true:=by
 intro c hc;rw [<- q1b 10 t] at hc;rcases qdg hc with h1|⟨l,hl,hcl⟩
 ·exact .inl h1
 ·exact .inr (qix (h l hl) c hcl)
theorem qpt{t:List Nat}(h:¬q56 t): ∃l∈spl 10 t,ju l=false:=by
 refine Classical.byContradiction fun z=>h fun l hl=>?_;cases e:ju l with
 | true=>rfl
 | false=>exact absurd ⟨l,hl,e⟩ z
theorem qkt(l:List Nat)(c:Nat): Txt.endswith (txt (l++[c])) (txt [58])=decide (c=58):=by
 by_cases h:c=58
 ·subst h
  rw [<- q1k,PySem.W.KT.ends_app];rfl
 ·rw [gq h]
  unfold Txt.endswith;rw [StrLaws.subAt_eq,jc,jo,jo,jc,gc,gj,gj,Nat.add_sub_cancel,List.drop_left];simp [h]
theorem qku:Txt.endswith (txt []) (txt [58])=false:=by decide
end Tx
namespace My
open PySem PyProof.Rows L2 DL Tx PySem.NumText
abbrev xNT:XV:=("NoText",none)
abbrev xTG(n:Int): XV:=("TooGreat",some ("most",n))
theorem qas{o1 o2:D->D->Option D}{a b c:FE}{ρ : Rho}{x y:D}(h1:a ρ = some x)(h2:b ρ = some y)(h3:o1 x y=some (.bl false)): q22 o1 o2 a b c ρ = some (.bl false):=by
 unfold q22;rw [h1,g6,h2,g6,h3,g6]
 rfl
theorem qgw{o1 o2:D->D->Option D}{a b c:FE}{ρ : Rho}{x y:D}(h1:a ρ = some x)(h2:b ρ = some y)(h3:o1 x y=some (.bl false)): q3x o1 o2 a b c ρ = some false:=by
 unfold q3x;rw [qas h1 h2 h3];rfl
theorem qfe(l t:List Nat)(x:D)(hx:x=S t): jk (bN 0) j9 (eOp q0z (eV 0) (eC x)) [none] ((l.map fun c=>[c]).map S)=some ((l.map fun c=>decide (c∈t)).map D.bl):=by
 subst hx;have:=jy (b:=bN 0) (f:=eOp q0z (eV 0) (eC (S t))) (ρ :=[none]) (fun d=>match d with | .str x=>.bl (decide ((x.cps.toList.headD 0)∈t))|_=>.non) (ds:=(l.map fun c=>[c]).map S) fun d hd=>by
  obtain⟨z,hz,rfl⟩:=gp.mp hd;obtain⟨c,hc,rfl⟩:=gp.mp hz;refine⟨_,rfl,qt (x_v rfl) x_c ?_⟩;rw [q7q];rfl
 rw [this,mh,mh,mh];rfl
theorem qkv(w:List Nat)(hl:w.length<=8000): wc [S w]=some (.bl (yi w)):=by
 have hlen:jw [S w]=some (.int w.length):=q8u (by omega);have h13:∀ ρ : Rho,qk jw (qc (qk q4q (qc (eC (.int 1000000000000)) qi)) qi) ρ = some (.int 13):=fun ρ =>x_call (qg (x_call (qg x_c ql) (q7r (m:=1000000000000) (by decide))) ql) qf3;refine jb ?_
 by_cases h0:1<=w.length
 ·by_cases h1:w.length<=13
  ·refine qz (jg (yh (q7t x_c (x_call (qg (x_v rfl) ql) hlen) ?_ (h13 _) (jv _ _))) ?_ jd) ?_
   ·rw [jv,gm (by omega)]
   ·rw [gm (by omega)];rfl
   obtain⟨c,r,e⟩:∃c r,w=c :: r:=by
    cases w with
    | nil=>simp at h0
    | cons c r=>exact⟨c,r,rfl⟩
   have hc0:w[0]? = some c:=by rw [e];rfl
   have ho:oIxS (S w) (.int 0)=some (S [c]):=q1m (i:=0) hc0 (by omega)
   by_cases hc:c=48
   ·have hm:yi w=false:=by unfold yi;rw [hc0,hc];simp
    rw [hm];exact q39 (q3a (q9t (ja (qt (x_v rfl) x_c ho) x_c (by rw [s0];exact q0r _ _)) (gm (by rw [hc]))) rfl (y_ret x_c))
   ·have ha:∀q:Rho,v7 (bT (qk q5g (qc (eL (jl (q9f (eV 0)) [none] (bN 0) j9 (eOp q0z (eV 0) (eC (.str "0123456789"))))) qi))) (some (.fz (S w)) :: q)=some (!(w.all fun c=>decide (c∈fig))):=fun q=>by
     refine yh (q3p (d:=.bl (w.all fun c=>decide (c∈fig))) (x_call (qg (x_l (vv (q8t (x_v rfl)) (by rw [g7,g7];show _<=1000000;omega) (qfe w fig _ (by rw [qpn])))) ql) ?_) rfl);rw [wy,g2t];rfl
    by_cases hd:(w.all fun c=>decide (c∈fig))=true
    ·rw [hd] at ha
     refine qz (jg (q2r (ja (qt (x_v rfl) x_c ho) x_c (by rw [s0];exact q0r _ _)) (gq (by intro z;injection z with z;exact hc z)) (ha _)) rfl jd) ?_;have hm:yi w=decide (digitsVal w<=1000000000000):=by
      unfold yi;rw [hc0,hd,gm h0,gm h1,gq (by intro z;injection z with z;exact hc z)];simp
     have hi:q1o [S w]=some (.int ((digitsVal w:Nat):Int)):=by
      unfold q1o;simp only [jo];rw [gy (by omega)];have:=intText_digits (x:=txt w) (fun c hc=>by
       rw [jc] at hc;have:=nu.mp (nv.mp hd c hc);obtain⟨k,hk,rfl⟩:=gp.mp this;have:=mv.mp hk;omega) (by rw [jc,e];simp) (by rw [jo];omega)
      rw [jc] at this;rw [this];rfl
     refine y_ret (qt (x_call (qg (x_v rfl) ql) hi) x_c ?_);rw [jv,hm]
     congr 2
     exact g0s.mpr (by omega)
    ·have hd:(w.all fun c=>decide (c∈fig))=false:=by simpa using hd
     rw [hd] at ha;have hm:yi w=false:=by unfold yi;rw [hd];simp
     rw [hm];exact q39 (q3a (q2r (ja (qt (x_v rfl) x_c ho) x_c (by rw [s0];exact q0r _ _)) (gq (by intro z;injection z with z;exact hc z)) (ha _)) rfl (y_ret x_c))
  ·have hm:yi w=false:=by unfold yi;rw [gq h1];simp
   rw [hm];refine q39 (q3a (yh (q7t x_c (x_call (qg (x_v rfl) ql) hlen) ?_ (h13 _) (jv _ _))) ?_ (y_ret x_c))
   ·rw [jv,gm (by omega)]
   ·rw [gq (by omega)];rfl
 ·have hm:yi w=false:=by unfold yi;rw [gq h0];simp
  rw [hm];refine q39 (q3a (yh (qgw x_c (x_call (qg (x_v rfl) ql) hlen) ?_)) rfl (y_ret x_c));rw [jv,gq (by omega)]
theorem qkw(w:List Nat)(hl:w.length<=8000): xm [S w]=some (.bl (k7 w)):=by
 by_cases h0:w=[]
 ·subst h0
  refine jb (y_ret (q2q (qt (x_v rfl) x_c (?_:_=some (D.bl false))) rfl));rw [sCo];show q0y (txt []) (txt [58])=_;unfold q0y;rw [qku]
 ·have e:w=w.dropLast++[w.getLast h0]:=(g0l h0).symm
  have hE:q0y (txt w) (txt [58])=some (.bl (decide (w.getLast h0=58))):=by
   unfold q0y
   conv=>lhs;rw [e]
   rw [qkt]
  by_cases hc:w.getLast h0=58
  ·rw [gm hc] at hE
   refine jb (y_ret (q1j (qt (x_v rfl) x_c (by rw [sCo];exact hE)) rfl (z8 (qg (q1v (m:=w.dropLast) (x_v rfl) q0h (x_at (qd4 x_c rfl)) (by omega) ?_) ql) rfl ?_)))
   ·conv=>lhs;rw [e]
    exact q2l _ _
   ·show wc [S w.dropLast]=_
    rw [qkv _ (by rw [List.length_dropLast];omega)];unfold k7;rw [g0c h0,hc];simp
  ·rw [gq hc] at hE
   have hm:k7 w=false:=by
    unfold k7;rw [g0c h0,gq (by intro z;injection z with z;exact hc z)];rfl
   rw [hm];exact jb (y_ret (q2q (qt (x_v rfl) x_c (by rw [sCo];exact hE)) rfl))
theorem qkx(w:List Nat)(hl:w.length<=8000): vk [S w]=some (.bl (yj w)):=by
 have hlen:jw [S w]=some (.int w.length):=q8u (by omega)
 by_cases h0:1<=w.length
 ·by_cases h1:w.length<=8
  ·refine jb (y_ret (q1j (q6s x_c (x_call (qg (x_v rfl) ql) hlen) (?_:_=some (D.bl true)) x_c (jv _ _)) (gm (by omega)) (x_call (qg (x_l (vv (q8t (x_v rfl)) (by rw [g7,g7];show _<=1000000;omega) (qfe w ltr _ (by rw [qgs])))) ql) ?_)))
   ·rw [jv,gm (by omega)]
   ·rw [wy,g2t]
    unfold yj;rw [gm h0,gm h1];rfl
  ·have hm:yj w=false:=by unfold yj;rw [gq h1];simp
   rw [hm];refine jb (y_ret (q2q (q6s x_c (x_call (qg (x_v rfl) ql) hlen) (?_:_=some (D.bl true)) x_c ?_) rfl))
   ·rw [jv,gm (by omega)]
   ·rw [jv,gq (by omega)]
 ·have hm:yj w=false:=by unfold yj;rw [gq h0];simp
  rw [hm];refine jb (y_ret (q2q (qas x_c (x_call (qg (x_v rfl) ql) hlen) ?_) rfl));rw [jv,gq (by omega)]
theorem qdk:∀(b a:List Str),(b.foldl step_dedup a).length<=a.length+b.length
 | [],a=>by simp
 | x :: b,a=>by
  rw [uh];have:=qdk b (step_dedup a x)
  by_cases h:x∈a
  ·rw [q1f h] at this ⊢;rw [gs];omega
  ·rw [wa h,gc,gj] at this
   rw [gs];rw [wa h];omega
theorem qff:∀(b a:List Str),a.Nodup->(b.foldl step_dedup a).length=a.length+b.length->(a++b).Nodup
 | [],a,h,_=>by simpa using h
 | x :: b,a,h,e=>by
  rw [uh,gs] at e
  by_cases hx:x∈a
  ·rw [q1f hx] at e
   have:=qdk b a;omega
  ·rw [wa hx] at e
   have:=qff b (a++[x]) (by
    rw [g0f];exact⟨h,by simp,fun y hy z hz q=>hx (by rw [<- mi.mp hz, <- q];exact hy)⟩) (by rw [gc,gj];omega)
   rw [mn] at this;exact this
theorem oneS_nd{ls:List (List Nat)}: ((xk (ls.map txt)).length=ls.length)↔ls.Nodup:=by
 constructor
 ·intro h
  have:=qff (ls.map txt) [] (by simp) (by rw [nt,Nat.zero_add,g7];exact h);rw [pk] at this;rw [uo,g1i] at this;exact this.imp fun h e=>h (by rw [e])
 ·intro h
  have hnd:(ls.map txt).Nodup:=List.Pairwise.map txt (fun a b h z=>h (q44 z)) h;unfold xk;rw [qf8 [] (ls.map txt) (by simpa using hnd),pk,g7]
theorem qgx(ws:List (List Nat))(hl:∀w∈ws,w.length<=8000)(hn:ws.length<=8001)(hk:(∀w∈ws,w≠[])->ws.length<=4000): jx [.lst (ws.map S)]=some (.bl (q3r ws)):=by
 have hc:∀ ρ : Rho,jk (bN 0) j9 (qk (qq 1 [] vk) (qc (eV 0) qi)) [none] (ws.map S)=some ((ws.map yj).map D.bl):=fun ρ =>by
  have:=jy (b:=bN 0) (f:=qk (qq 1 [] vk) (qc (eV 0) qi)) (ρ :=[none]) (fun d=>match d with | .str x=>.bl (yj x.cps.toList)|_=>.non) (ds:=ws.map S) fun d hd=>by
   obtain⟨n,hn,rfl⟩:=gp.mp hd;exact⟨_,rfl,z8 (qg (x_v rfl) ql) rfl (qkx n (hl n hn))⟩
  rw [this,mh,mh];rfl
 have hA:∀q:Rho,qk q5g (qc (eL (jl (xq (eV 0)) [none] (bN 0) j9 (qk (qq 1 [] vk) (qc (eV 0) qi)))) qi) (some (.fz (.lst (ws.map S))) :: q)=some (.bl (ws.all yj)):=fun q=>by
  refine x_call (qg (x_l (ds:=(ws.map yj).map D.bl) (vv (ds:=ws.map S) (q0a (x_v rfl) rfl) (by rw [g7];show _<=1000000;omega) (hc []))) ql) ?_;rw [wy,g2t];rfl
 by_cases ha:ws.all yj=true
 ·rw [ha] at hA
  have hk:=hk fun w hw=>(qfc (nv.mp ha w hw)).1;refine jb (y_ret (q1j (hA _) rfl (qt (x:=.int (xk (ws.map txt)).length) ?_ (x_call (qg (x_v rfl) ql) (q2k _)) ?_)))
  ·unfold q40
   show Option.bind (some (D.lst (ws.map S))) _=_;rw [g6];simp only [q0q,g6,g7];rw [gy (by show _<4096;omega)]
  ·rw [yq,g7]
   unfold q3r;rw [ha,g3f]
   congr 2
   refine g0s.mpr ⟨fun h=>oneS_nd.mp (by omega),fun h=>by rw [oneS_nd.mpr h]⟩
 ·have ha:ws.all yj=false:=by simpa using ha
  rw [ha] at hA;have hm:q3r ws=false:=by unfold q3r;rw [ha];rfl
  rw [hm];exact jb (y_ret (q2q (hA _) rfl))
theorem qgy(l:List Nat)(hl:l.length<=8000): ∃w ws,spl 32 l=w :: ws/\w.length<=8000/\(∀v∈ws,v.length<=8000)/\ws.length<=8001/\((∀v∈ws,v≠[])->ws.length<=4000):=by
 cases e:spl 32 l with
 | nil=>exact absurd e (q1a _ _)
 | cons w ws=>
  have ej:=q1b 32 l;rw [e] at ej;have hp:∀v∈w :: ws,v.length<=8000:=fun v hv=>by have:=q9w (c:=32) hv;rw [ej] at this;omega
  have hlen:∀ls:List (List Nat),ls.length<=(jn 32 ls).length+1:=by
   intro ls
   induction ls with
   | nil=>simp
   | cons a r ih=>
    cases r with
    | nil=>simp
    | cons b r=>
     rw [zw,gc,gs,gs (as:=jn 32 (b :: r))];omega
  have h1:=hlen (w :: ws);rw [ej,gs] at h1;refine⟨w,ws,rfl,hp w gd,fun v hv=>hp v (gi _ hv),by omega,fun hne=>?_⟩;cases ws with
  | nil=>simp
  | cons y r=>
   have h2:=qdh (c:=32) hne;rw [zw] at ej;have:=n6 List.length ej;rw [gc,gs] at this;omega
theorem q8w(l:List Nat)(hl:l.length<=8000): ∃w ws,spl 32 l=w :: ws/\(∀q:Rho,zg 1 (eL (kb (eV 0) (eC (.str " ")))) [some (.fz (S l)),none,none]=some (.nx,[some (.fz (S l)),some (.fz (.lst ((w :: ws).map S))),none])) /\
  zg 2 (eSl (eV 1) (oAt (eC (.int 1))) oNo) [some (.fz (S l)),some (.fz (.lst ((w :: ws).map S))),none]=some (.nx,[some (.fz (S l)),some (.fz (.lst ((w :: ws).map S))),some (.fz (.lst (ws.map S)))]) /\
  bOr (v7 (bT (qk (qq 1 [] xm) (qc (eOp oIx (eV 1) (eC (.int 0))) qi)))) (v7 (bT (qk (qq 1 [] jx) (qc (eV 2) qi)))) [some (.fz (S l)),some (.fz (.lst ((w :: ws).map S))),some (.fz (.lst (ws.map S)))]=some (!ju l)/\w.length<=8000:=by
 obtain⟨w,ws,e,h1,h2,h3,h4⟩:=qgy l hl;have ej:=q1b 32 l;have hf:=q55 32 l;rw [e] at ej hf;refine⟨w,ws,e,fun _=>zo (x_l ?_),zo (qd5 (x_v rfl) (x_at x_c) q0h (y:=.lst (ws.map S)) (n6 (fun l=>some (D.lst l)) (q7o (α :=Unit) ((w :: ws).map S) 1))),?_,h1⟩
 ·refine q47 (ls:=w :: ws) (c:=32) ?_ (by rw [sSp];exact x_c) (by simp) hf (by rw [ej];omega)
  rw [ej];exact x_v rfl
 ·have hix:oIx (D.lst (List.map S (w :: ws))) (D.int 0)=some (S w):=by
   rw [q66,show(0:Int)=((0:Nat):Int) from rfl,vw];rfl
  have hb:ju l=(k7 w&&q3r ws):=by unfold ju;rw [e];rfl
  have hh:v7 (bT (qk (qq 1 [] xm) (qc (eOp oIx (eV 1) (eC (.int 0))) qi))) [some (.fz (S l)),some (.fz (.lst ((w :: ws).map S))),some (.fz (.lst (ws.map S)))]=some (!k7 w):=yh (q3p (z8 (qg (qt (x_v rfl) x_c hix) ql) rfl (qkw w h1)) rfl);cases hq:k7 w with
  | false=>
   rw [hq] at hh hb;rw [hb];exact q9t hh rfl
  | true=>
   rw [hq] at hh hb;rw [hb];exact q2r hh rfl (yh (q3p (z8 (qg (x_v rfl) ql) rfl (qgx ws h2 h3 h4)) rfl))
theorem qky(l:List Nat)(hl:l.length<=8000)(h:ju l=false): x_line_read [S l]=some xNT:=by
 obtain⟨w,ws,e,s1,s2,t,_⟩:=q8w l hl;rw [h] at t;unfold x_line_read km;show Option.map (·.1) (v9 _ _ _ [some (.fz (S l)),none,none])=_;simp only [v9,xj,s1 [],s2,t7,xIf,t,g6,q5m]
 rfl
theorem qat(l:List Nat)(hl:l.length<=8000)(h:ju l=true): x_line_read [S l]=none/\∃d,zh [S l]=some d:=by
 obtain⟨w,ws,e,s1,s2,t,hw⟩:=q8w l hl;rw [h] at t
 constructor
 ·unfold x_line_read km
  show Option.map (·.1) (v9 _ _ _ [some (.fz (S l)),none,none])=_;simp only [v9,xj,s1 [],s2,t7,xIf,t,g6,q5m,sIf,j7]
  rfl
 ·have hb:ju l=(k7 w&&q3r ws):=by unfold ju;rw [e];rfl
  rw [h] at hb;have hh:k7 w=true:=by
   have:=hb.symm;rw [gu] at this;exact this.1
  have hix:oIx (D.lst (List.map S (w :: ws))) (D.int 0)=some (S w):=by
   rw [q66,show(0:Int)=((0:Nat):Int) from rfl,vw];rfl
  have h0:=(qfd hh).1;have e2:w=w.dropLast++[w.getLast h0]:=(g0l h0).symm;have hm:yi w.dropLast=true:=by unfold k7 at hh;rw [gu] at hh;exact hh.2
  unfold yi at hm;simp only [gu,nu] at hm;have hi:q1o [S w.dropLast]=some (.int ((digitsVal w.dropLast:Nat):Int)):=by
   unfold q1o;simp only [jo];rw [gy (by omega)];have:=intText_digits (x:=txt w.dropLast) (fun c hc=>by
    rw [jc] at hc;have:=nu.mp (nv.mp hm.1.2 c hc);obtain⟨k,hk,rfl⟩:=gp.mp this;have:=mv.mp hk;omega) (by rw [jc];intro z;rw [z] at hm;exact absurd hm.1.1.1.1 (by decide)) (by rw [jo];omega)
   rw [jc] at this;rw [this];rfl
  refine⟨_,jb (qz (s1 []) (qz s2 (qz (jg t rfl jd) (y_ret (q6n (qg (x_call (qg (q1v (m:=w.dropLast) (qt (x_v rfl) x_c hix) q0h (x_at (qd4 x_c rfl)) (by omega) ?_) ql) hi) (qg (x_v rfl) ql)) (show 2<=1000000 by decide))))))⟩
  conv=>lhs;rw [e2]
  exact q2l _ _
theorem qdl:∀(ls:List (List Nat)),(∀l∈ls,l.length<=8000)->(∃l∈ls,ju l=false)->q0f (bN 0) (qk (qq 1 [] zh) (qc (eV 0) qi)) (ya 1 x_line_read (qc (eV 0) qi)) [none] (ls.map S)=some xNT
 | [],_,⟨_,h,_⟩=>by cases h
 | l :: ls,hl,hb=>by
  rw [m7];unfold q0f;show Option.bind (some [some (B.fz (S l))]) _=_;rw [g6];have hx:ya 1 x_line_read (qc (eV 0) qi) [some (.fz (S l))]=(x_line_read [S l]).map fun p=>(p,[some (.fz (S l))]):=rfl;have h8:=hl l gd;cases hq:ju l with
  | false=>
   rw [hx,qky l h8 hq];rfl
  | true=>
   obtain⟨g1,d,g2⟩:=qat l h8 hq;rw [hx,g1];have hf:qk (qq 1 [] zh) (qc (eV 0) qi) [some (.fz (S l))]=some d:=z8 (qg (x_v rfl) ql) rfl g2;show Option.bind (qk (qq 1 [] zh) (qc (eV 0) qi) [some (.fz (S l))]) _=_;rw [hf,g6];refine qdl ls (fun l hl'=>hl l (gi _ hl')) ?_;obtain⟨l',h1,h2⟩:=hb;rcases gx.mp h1 with rfl|h1
   ·rw [hq] at h2;cases h2
   ·exact⟨l',h1,h2⟩
theorem qj0(t:List Nat)(hl:t.length<=8000)(h0:t≠[])(hb:¬q56 t): x_lines_of [S t]=some xNT:=by
 have ej:=q1b 10 t;have t1:v7 (bT (q31 .str (eV 0))) [some (.fz (S t))]=some false:=rfl;have t2:bCmp oEq (eV 0) (eC (.str "")) [some (.fz (S t))]=some false:=by
  rw [ja (c:=decide (t=[])) (x_v rfl) x_c (by rw [sE];exact q0r _ _),gq h0]
 have hp:∀v∈spl 10 t,v.length<=8000:=fun v hv=>by have:=q9w (c:=10) hv;rw [ej] at this;omega
 have hn:(spl 10 t).length<=8001:=by
  have hlen:∀ls:List (List Nat),ls.length<=(jn 10 ls).length+1:=by
   intro ls
   induction ls with
   | nil=>simp
   | cons a r ih=>
    cases r with
    | nil=>simp
    | cons b r=>
     rw [zw,gc,gs,gs (as:=jn 10 (b :: r))];omega
  have:=hlen (spl 10 t);rw [ej] at this;omega
 have hs:xq (eL (kb (eV 0) (eC (.str "\n")))) [some (.fz (S t))]=some ((spl 10 t).map S):=q0a (x_l (q47 (by rw [ej];exact x_v rfl) (by rw [sNl];exact x_c) (q1a _ _) (q55 _ _) (by rw [ej];omega))) rfl;have hx:q4r (xq (eL (kb (eV 0) (eC (.str "\n"))))) [none] (bN 0) (qk (qq 1 [] zh) (qc (eV 0) qi)) (ya 1 x_line_read (qc (eV 0) qi)) [some (.fz (S t))]=some (xNT,[some (.fz (S t))]):=by
  unfold q4r;rw [hs,g6,gy (by rw [g7];show _<=1000000;omega)];rw [show ve [none] [some (B.fz (S t))]=[none] from rfl,qdl _ hp (qpt hb)];rfl
 unfold x_lines_of wu;show Option.map (·.1) (v9 _ _ _ [some (.fz (S t))])=_;simp only [v9,xj,t7,xIf,t1,t2,g6,sIf,j7,hx,nr,ua]
 rfl
theorem qdm{d:D}(h:x_lines_of [d]=some xNT): x_read [d]=some xNT:=by
 unfold x_read q41;show Option.map (·.1) (v9 _ _ _ [some (.fz d),none,none,none])=_;have hx:ya 1 x_lines_of (qc (eV 0) qi) [some (.fz d),none,none,none]=some (xNT,[some (.fz d),none,none,none]):=by
  show Option.map _ (x_lines_of [d])=_;rw [h];rfl
 simp only [v9,hx,g1a]
 rfl
theorem q68{d:D}(h:x_read [d]=some xNT): f_law_refused [d]=some (.lst [.str "text"]):=by
 have hx:ya 1 x_read (qc (eV 0) qi) [some (.fz d),some (.fz (.lst [])),none]=some (xNT,[some (.fz d),some (.fz (.lst [])),none]):=by
  show Option.map _ (x_read [d])=_;rw [h];rfl
 refine jb (qz (zo (x_l (vy ql (by decide)))) (qz (ρ1:=[some (.fz d),some (.fz (.lst [.str "text"])),none]) ?_ (y_ret (x_v rfl))));show q2f _ _ _ _ [some (.fz d),some (.fz (.lst [])),none]=_;unfold q2f;rw [hx]
 rfl
theorem q59{d:D}{n:Int}(h:x_read [d]=some (xTG n)): f_law_refused [d]=some (.lst [.str "great",.int n]):=by
 have hx:ya 1 x_read (qc (eV 0) qi) [some (.fz d),some (.fz (.lst [])),none]=some ((xTG n),[some (.fz d),some (.fz (.lst [])),none]):=by
  show Option.map _ (x_read [d])=_;rw [h];rfl
 refine jb (qz (zo (x_l (vy ql (by decide)))) (qz (ρ1:=[some (.fz d),some (.fz (.lst [.str "great",.int n])),none]) ?_ (y_ret (x_v rfl))));show q2f _ _ _ _ [some (.fz d),some (.fz (.lst [])),none]=_;unfold q2f;rw [hx]
 rfl
theorem qdn{d e:D}(h:x_read [d]=none)(h2:yo [d]=some e): f_law_refused [d]=some (.lst []):=by
 have hx:ya 1 x_read (qc (eV 0) qi) [some (.fz d),some (.fz (.lst [])),none]=none:=by
  show Option.map _ (x_read [d])=_;rw [h];rfl
 refine jb (qz (zo (x_l (vy ql (by decide)))) (qz (ρ1:=[some (.fz d),some (.fz (.lst [])),none]) ?_ (y_ret (x_v rfl))));show q2f _ _ _ _ [some (.fz d),some (.fz (.lst [])),none]=_;unfold q2f;rw [hx];show q87 (qk (qq 1 [] yo) (qc (eV 0) qi)) [some (.fz d),some (.fz (.lst [])),none]=_;unfold q87;have hf:qk (qq 1 [] yo) (qc (eV 0) qi) [some (.fz d),some (.fz (.lst [])),none]=some e:=z8 (qg (x_v rfl) ql) rfl h2;rw [hf];rfl
theorem q78(t:List Nat)(hl:t.length<=8000)(h0:t≠[])(hb:¬q56 t): f_law_refused [S t]=some (.lst [.str "text"]):=q68 (qdm (qj0 t hl h0 hb))
def badL:List Str:=[""," ",":",": bread","0:","0: bread","00:","01: bread","1","1 bread","1 : bread","1:bread","1: ","1:  bread","1: bread "," 1: bread","1: bread bread","1: bread  milk","1: Bread","1: breadloaf","1: br3ad","-1: bread","+1:","1.0: bread","x: bread","1;","1000000000001: bread","9999999999999:","10000000000000:","1:1","1: :","1:: bread"]
def qlh(x:Str): Bool:= !ju x.cps.toList&&decide (x.cps.toList.length<=25) && !decide (10∈x.cps.toList)
theorem qnc:badL.all qlh=true:=by decide +kernel
theorem q79(n:Int): ∃l:List Nat,vn [.int n]=some (S l)/\ju l=false/\l.length<=25/\10∉l:=by
 have h0:=uk n (show(32:Int)≠0 by decide);have h1:=t8 n (show(0:Int)<32 by decide);obtain⟨i,hi⟩:=g32 h0;have hlt:i<badL.length:=by show i<32;omega
 have hb:=nv.mp qnc _ (g0t hlt);unfold qlh at hb;simp only [gu,g1h,nu,decide_eq_false_iff_not] at hb;refine⟨(badL[i]).cps.toList,?_,hb.1.1,hb.1.2,hb.2⟩;rw [show S (badL[i]).cps.toList=D.str badL[i] from n6 D.str (qdb _).symm];refine jb ?_;refine qz (ρ1:=[some (.fz (.int n)),some (.fz (.lst ((badL.take 11).map .str)))]) rfl ?_;refine qz (ρ1:=[some (.fz (.int n)),some (.fz (.lst ((badL.take 18).map .str)))]) rfl ?_;refine qz (ρ1:=[some (.fz (.int n)),some (.fz (.lst ((badL.take 26).map .str)))]) rfl ?_;refine qz (ρ1:=[some (.fz (.int n)),some (.fz (.lst (badL.map .str)))]) rfl ?_;refine y_ret (qt (x_v rfl) (qt (x_v rfl) (x_call (qg (x_v rfl) ql) (q2k _)) (q1i n 32 (by decide))) ?_);rw [q66,hi,vw,gz,m6 hlt];rfl
theorem q7a{ls:List (List Nat)}{b:List Nat}{k B:Nat}(hb:ju b=false)(hbl:b.length<=25)(hbn:10∉b)(hl:∀l∈ls,l.length<=B)(hf:∀l∈ls,10∉l)(hn:1<=ls.length)(hs:ls.length*B+ls.length<=7900):
  f_law_refused [S (jn 10 (ls.take k++[b]++ls.drop k))]=some (.lst [.str "text"]):=by
 have hm:∀l∈ls.take k++[b]++ls.drop k,l=b\/l∈ls:=fun l h=>by
  rcases mz.mp h with h|h
  ·rcases mz.mp h with h|h
   ·exact .inr (uw h)
   ·exact .inl (mi.mp h)
  ·exact .inr (g26 h)
 have hne:ls.take k++[b]++ls.drop k≠[]:=by simp
 have hfr:∀l∈ls.take k++[b]++ls.drop k,10∉l:=fun l h=>by
  rcases hm l h with rfl|h
  ·exact hbn
  ·exact hf l h
 have hlen:(ls.take k++[b]++ls.drop k).length=ls.length+1:=by
  have:=n6 List.length (g1u k ls);rw [gc] at this;rw [gc,gc,gj];omega
 refine q78 _ ?_ ?_ fun h=>?_
 ·have h1:=q45 10 (ls.take k++[b]++ls.drop k)
  have h2:=q49 (B:=B) hl;have e:((ls.take k++[b]++ls.drop k).map List.length).sum=(ls.map List.length).sum+b.length:=by
   conv=>rhs;rw [<- g1u k ls]
   simp only [ng,List.sum_append,m7,g0h,g3e,List.sum_nil];omega
  rw [e,hlen] at h1;omega
 ·intro z
  have h1:1<=(jn 10 (ls.take k++[b]++ls.drop k)).length:=by
   have:∀q:List (List Nat),2<=q.length->1<=(jn 10 q).length:=by
    intro q hq
    match q,hq with
    | x :: y :: r,_=>rw [zw,gc,gs];omega
   exact this _ (by omega)
  rw [z] at h1;exact absurd h1 (by decide)
 ·unfold q56 at h
  rw [qit hne hfr] at h;have:=h b (ur _ (m9 _ (mi.mpr rfl)));rw [hb] at this;cases this
def q8x(t:List Nat)(k c:Nat): List Nat:=t.take k++[c]++t.drop k
theorem q7v(t:List Nat)(k c:Nat): q8x t k c=t.take k++c :: t.drop k:=by unfold q8x;rw [mn];rfl
def xp(t:List Nat): List Nat:=0 :: t.length :: (List.range t.length).filter fun k=>decide (t.getD k 0∈[32,10])
theorem qrj:(" \n" : Str)=txt [32,10]:=rfl
theorem qrk:("?-_.A,\t" : Str)=txt [63,45,95,46,65,44,9]:=rfl
theorem qj1(t:List Nat)(ht:t.length<=8000): jk (bN 0) (bCmp q0z (eOp oIxS (eV 1) (eV 0)) (eC (.str " \n"))) (eV 0) [none,some (.fz (S t))] (zf 0 t.length)=some (((List.range t.length).filter fun k=>decide (t.getD k 0∈[32,10])).map fun k:Nat=>D.int (k:Int)):=by
 have:=q50 (b:=bN 0) (c:=bCmp q0z (eOp oIxS (eV 1) (eV 0)) (eC (.str " \n"))) (f:=eV 0) (ρ :=[none,some (.fz (S t))]) (fun d=>match d with | .int x=>decide (t.getD x.toNat 0∈[32,10])|_=>false) id (ds:=zf 0 t.length) fun d hd=>by
  obtain⟨k,hk,rfl⟩:=gp.mp hd;have hk:=mv.mp hk;rw [show(0:Int)+(k:Int)=(k:Int) by omega];have hix:oIxS (S t) (.int (k:Int))=some (S [t.getD k 0]):=q1m (by rw [m6 hk,n5,m6 hk];rfl) (by omega);exact⟨_,rfl,ja (qt (x_v rfl) (x_v rfl) hix) x_c (by rw [qrj];exact q7q _ _),fun _=>x_v rfl⟩
 rw [this,List.map_id];unfold zf;rw [List.filter_map];have e:(fun i:Nat=>D.int ((0:Int)+(i:Int)))=fun i:Nat=>D.int (i:Int):=by
  funext i
  rw [Int.zero_add]
 rw [e]
 congr 1
theorem qgz(t:List Nat)(n:Nat)(ht:t.length<=7900)(h0:t≠[]): ∃t':List Nat,kc [S t,.int (n:Int)]=some (S t')/\t'.length=t.length+1/\t'≠[]/\¬q56 t':=by
 have hlen:jw [S t]=some (.int t.length):=q8u (by omega);have m3:oMod (.int (n:Int)) (.int 3)=some (.int ((n%3:Nat):Int)):=jr n 3 (by decide);have d3:oDiv (.int (n:Int)) (.int 3)=some (.int ((n / 3:Nat):Int)):=q4y _ _ (by decide) (by decide);have ml:oMod (.int ((n / 3:Nat):Int)) (.int ((t.length:Int)+1))=some (.int ((n / 3%(t.length+1):Nat):Int)):=jr (n / 3) (t.length+1) (by omega);have hsl:∀k c:Nat,k<=t.length->(q8x t k c).length=t.length+1/\q8x t k c≠[]:=fun k c hk=>by
  rw [q7v];refine⟨?_,by simp⟩;rw [gc,gs,mf,ni];omega
 have put:∀(k c:Nat) (q:Rho) (f:FE),k<=t.length->f (some (.fz (S t)) :: q)=some (S [c])->(∀g:FE,g (some (.fz (S t)) :: q)=some (.int (k:Int))->eOp j0 (eOp j0 (kr (eV 0) oNo (oAt g)) f) (kr (eV 0) (oAt g) oNo) (some (.fz (S t)) :: q)=some (S (q8x t k c))):=fun k c q f hk hf g hg=>by
  refine qt (qt (q1v (x_v rfl) q0h (x_at hg) (by omega) (q53 t k)) hf (jt (by rw [mf,gj];omega))) (q1v (x_v rfl) (x_at hg) q0h (by omega) (q8r hk)) ?_;exact jt (by rw [gc,mf,gj,ni];omega)
 by_cases hk0:n%3=0
 ·have hat:n / 3%(t.length+1)<=t.length:=by have:=p7 (n / 3) (show 0<t.length+1 by omega);omega
  have hi:n / 3 / 4096%7<7:=p7 _ (by decide)
  let od:List Nat:=[63,45,95,46,65,44,9]
  have hc:od[n / 3 / 4096%7]? = some (od[n / 3 / 4096%7]'hi):=m6 hi;generalize hcc:od[n / 3 / 4096%7]'hi=c at hc;have hmem:c∈od:=by rw [<- hcc];exact g0t _
  obtain⟨e1,e2⟩:=hsl (n / 3%(t.length+1)) c hat;refine⟨_,?_,e1,e2,fun hb=>?_⟩
  ·refine jb ?_
   refine qz (zo (qt (x_v rfl) x_c m3)) (qz (zo (qt (x_v rfl) x_c d3)) (qz (zo (qt (x_v rfl) (qt (x_call (qg (x_v rfl) ql) hlen) x_c (js _ _)) ml)) (q39 (q3a (ja (x_v rfl) x_c (yq _ _)) (gm (by omega)) (y_ret ?_)))));refine put _ c _ _ hat (qt x_c (qt (qt (x_v rfl) x_c (q4y ((n / 3:Nat):Int) 4096 (by decide) (by decide))) x_c (jr (n / 3 / 4096) 7 (by decide))) ?_) (eV 4) (x_v rfl);rw [qrk];exact q1m hc (by decide)
  ·have:=qiz hb c (by rw [q7v];exact m9 _ gd)
   have hno:∀c∈od,¬(c=10\/c=32\/sgn c=true):=by decide
   exact hno c hmem this
 ·have hk2:n%3=1\/n%3=2:=by omega
  obtain⟨c,hc,hg⟩:∃c,oIxS (.str " \n") (.int (((n%3:Nat):Int)-1))=some (S [c])/\gap c=true:=by
   rcases hk2 with h|h
   ·rw [h];exact⟨32,rfl,rfl⟩
   ·rw [h];exact⟨10,rfl,rfl⟩
  have hgl:(xp t).length<=8000:=by
   unfold xp;have:=g3c (fun k=>decide (t.getD k 0∈[32,10])) (List.range t.length);rw [nj] at this;rw [gs,gs];omega
  have hgp:0<(xp t).length:=by unfold xp;simp
  have hj:n / 3%(xp t).length<(xp t).length:=p7 _ hgp;have hat:(xp t)[n / 3%(xp t).length]? = some ((xp t)[n / 3%(xp t).length]'hj):=m6 hj;generalize hkk:(xp t)[n / 3%(xp t).length]'hj=k at hat;have hmem:k∈xp t:=by rw [<- hkk];exact g0t _
  have hk:k<=t.length:=by
   unfold xp at hmem;rcases gx.mp hmem with rfl|hmem
   ·omega
   ·rcases gx.mp hmem with rfl|hmem
    ·omega
    ·have:=mv.mp (g1v.mp hmem).1;omega
  obtain⟨e1,e2⟩:=hsl k c hk;refine⟨_,?_,e1,e2,fun hb=>?_⟩
  ·refine jb ?_
   refine qz (zo (qt (x_v rfl) x_c m3)) (qz (zo (qt (x_v rfl) x_c d3)) (qz (zo (qt (x_v rfl) (qt (x_call (qg (x_v rfl) ql) hlen) x_c (js _ _)) ml)) (qz (jg (ja (x_v rfl) x_c (yq _ _)) (gq (by omega)) jd) ?_)));refine qz (zo (qt (z:=.lst ((xp t).map fun k:Nat=>D.int (k:Int))) (x_l (vy (qg x_c (qg (x_call (qg (x_v rfl) ql) hlen) ql)) (by show 2<=1000000;decide))) (x_l (vv (ds:=zf 0 t.length) (wz _ _ (t.length:Int) (qg (x_call (qg (x_v rfl) ql) hlen) ql) (by omega) (by omega)) (by rw [q16];show _<=1000000;omega) (qj1 t (by omega)))) ?_)) ?_
   ·rw [q3i]
    ·unfold xp;rfl
    ·have:=g3c (fun k=>decide (t.getD k 0∈[32,10])) (List.range t.length)
     rw [nj] at this;simp only [gs,nt,g7];omega
   refine qz (zo (qt (z:=.int (k:Int)) (x_v rfl) (qt (x_v rfl) (x_call (qg (x_v rfl) ql) (q2k _)) (by rw [g7];exact jr (n / 3) (xp t).length hgp)) ?_)) ?_
   ·rw [q66,vw,gz,hat];rfl
   exact y_ret (put k c _ _ hk (qt x_c (qt (x_v rfl) x_c (q4z _ _)) hc) (eV 4) (x_v rfl))
  ·have:=qiy hb
   rw [q7v] at this;have hF:okG true (t.take k++c :: t.drop k)=false:=by
    unfold xp at hmem;rcases gx.mp hmem with rfl|hmem
    ·rw [g2a,pk]
     exact qiv hg _
    ·refine q9y hg _ _ _ ?_
     rcases gx.mp hmem with rfl|hmem
     ·exact .inl g0q
     ·obtain⟨m1,m2⟩:=g1v.mp hmem
      have m1:=mv.mp m1;rw [n5,m6 m1] at m2;refine .inr ⟨t[k],t.drop (k+1),t9 m1,?_⟩;have m2:=nu.mp m2;simp only [g2r,gx,g00,g1r] at m2;rcases m2 with m2|m2 <;> rw [m2] <;> rfl
   rw [hF] at this;cases this
theorem qh0{ls:List (List Nat)}(h:NmOk ls){m:Nat}(h1:1<=m)(h2:m<=1000000000000): ju (q19 m ls)=true:=by
 have hd:=q46 (k:=13) (m:=m) (by decide) (by omega);have hf:∀l∈(dg m++[58]) :: ls,32∉l:=fun l hl'=>by
  rcases gx.mp hl' with rfl|hl'
  ·intro z
   rcases mz.mp z with z|z
   ·have:=q1l z;omega
   ·have:=mi.mp z;omega
  ·intro z
   have:=(h.one l hl').2.2 32 z;omega
 have e0:q19 m ls=jn 32 ((dg m++[58]) :: ls):=q6q ls _;unfold ju;rw [e0,qit (by simp) hf];show(k7 (dg m++[58])&&q3r ls)=true;obtain⟨c,r,e,hc⟩:=qf0 m h1;have hm:yi (dg m)=true:=by
  unfold yi;have hv:digitsVal (dg m)=m:=PySem.W.KIN.val_back m;rw [hv,gm h2,gm hd,gm (by rw [e];simp:1<=(dg m).length),gq (by rw [e];intro z;injection z with z;exact hc z)];simp only [gu,nv,nu];exact⟨⟨⟨⟨trivial,trivial⟩,rfl⟩,fun c hc=>qf4 (q1l hc)⟩,trivial⟩
 rw [gu]
 constructor
 ·unfold k7
  rw [List.getLast?_concat,List.dropLast_concat,hm];rfl
 ·unfold q3r
  rw [gu,nv];refine⟨fun w hw=>?_,gm h.nd⟩;have:=h.one w hw;unfold yj;rw [gm this.1,gm this.2.1];simp only [g3f,nv,nu];exact fun c hc=>qf5 (this.2.2 c hc)
theorem qkz{nm:List (List Nat)}(hok:NmOk nm){r:Run}(h:TOk nm r): ju (lnR nm r)=true:=qh0 (qf6 hok h.b h.nd) (by have:=h.m1;omega) (by have:=h.m2;omega)
theorem qau:∀(ls:List (List Nat)),(∀l∈ls,l.length<=8000)->(∀l∈ls,ju l=true)->q0f (bN 0) (qk (qq 1 [] zh) (qc (eV 0) qi)) (ya 1 x_line_read (qc (eV 0) qi)) [none] (ls.map S)=none
 | [],_,_=>rfl
 | l :: ls,hl,hb=>by
  rw [m7];unfold q0f;show Option.bind (some [some (B.fz (S l))]) _=_;rw [g6];have hx:ya 1 x_line_read (qc (eV 0) qi) [some (.fz (S l))]=(x_line_read [S l]).map fun p=>(p,[some (.fz (S l))]):=rfl;obtain⟨g1,d,g2⟩:=qat l (hl l gd) (hb l gd);rw [hx,g1];have hf:qk (qq 1 [] zh) (qc (eV 0) qi) [some (.fz (S l))]=some d:=z8 (qg (x_v rfl) ql) rfl g2;show Option.bind (qk (qq 1 [] zh) (qc (eV 0) qi) [some (.fz (S l))]) _=_;rw [hf,g6];exact qau ls (fun l hl'=>hl l (gi _ hl')) fun l hl'=>hb l (gi _ hl')
theorem qh1{nm:List (List Nat)}(hok:NmOk nm){rs:List Run}(hr:∀r∈rs,TOk nm r)(hl:rs.length<=300)(h0:rs≠[]): x_lines_of [S (jn 10 (rs.map (lnR nm)))]=none:=by
 have h1:rs.map (lnR nm)≠[]:=by intro z;rw [g0w] at z;exact h0 z
 have hlen:=q6r hok hr;have hfree:∀l∈rs.map (lnR nm),10∉l:=fun l hl=>by
  obtain⟨r,h,rfl⟩:=gp.mp hl;exact q6t hok (hr r h)
 have hjl:(jn 10 (rs.map (lnR nm))).length+2<=1000000:=by
  have a:=q45 10 (rs.map (lnR nm));have b:=q49 hlen;rw [g7] at a b;omega
 generalize ht:jn 10 (rs.map (lnR nm))=t at *;have hs:xq (eL (kb (eV 0) (eC (.str "\n")))) [some (.fz (S t))]=some ((rs.map (lnR nm)).map S):=q0a (x_l (q47 (by rw [ht];exact x_v rfl) (by rw [sNl];exact x_c) h1 hfree (by rw [ht];exact hjl))) rfl;have t1:v7 (bT (q31 .str (eV 0))) [some (.fz (S t))]=some false:=rfl;have hx:q4r (xq (eL (kb (eV 0) (eC (.str "\n"))))) [none] (bN 0) (qk (qq 1 [] zh) (qc (eV 0) qi)) (ya 1 x_line_read (qc (eV 0) qi)) [some (.fz (S t))]=none:=by
  unfold q4r;rw [hs,g6,gy (by rw [g7,g7];show _<=1000000;omega)];rw [show ve [none] [some (B.fz (S t))]=[none] from rfl,qau _ (fun l hl=>by have:=hlen l hl;omega) (fun l hl=>by
   obtain⟨r,h,rfl⟩:=gp.mp hl;exact qkz hok (hr r h))];rfl
 obtain⟨c2,t2⟩:∃c,bCmp oEq (eV 0) (eC (.str "")) [some (.fz (S t))]=some c:=⟨_,ja (x_v rfl) x_c (by rw [sE];exact q0r _ _)⟩
 unfold x_lines_of wu;show Option.map (·.1) (v9 _ _ _ [some (.fz (S t))])=_;cases c2 <;> simp only [v9,xj,t7,xIf,t1,t2,g6,sIf,j7,hx,nr,ua,pd,zv] <;> rfl
theorem qh2{nm:List (List Nat)}(hok:NmOk nm){rs:List Run}(hr:∀r∈rs,TOk nm r)(hl:rs.length<=300)(h0:rs≠[]):
  x_read [S (jn 10 (rs.map (lnR nm)))]=if 12<(xv nm rs).length then some (xTG 12) else if 200<rs.length then some (xTG 200) else none:=by
 have hle:q12 [yn (xv nm rs)]=some (.int ((xv nm rs).length:Nat)):=by
  unfold yn q12;simp only [g7]
 have g1:=qh1 hok hr hl h0;have f1:=q77 hok hr hl;have f2:=places_eq hr hl;generalize ht:jn 10 (rs.map (lnR nm))=t at *;have hx:ya 1 x_lines_of (qc (eV 0) qi) [some (.fz (S t)),none,none,none]=none:=by
  show Option.map _ (x_lines_of [S t])=_;rw [g1];rfl
 have s1:zg 1 (qk (qq 1 [] vf) (qc (eV 0) qi)) [some (.fz (S t)),none,none,none]=some (.nx,[some (.fz (S t)),some (.fz (.lst (rs.map (k6 nm)))),none,none]):=zo (z8 (qg (x_v rfl) ql) rfl f1);have s2:zg 2 (qk (qq 1 [] j8) (qc (eV 1) qi)) [some (.fz (S t)),some (.fz (.lst (rs.map (k6 nm)))),none,none]=some (.nx,[some (.fz (S t)),some (.fz (.lst (rs.map (k6 nm)))),some (.fz (yn (xv nm rs))),none]):=zo (z8 (qg (x_v rfl) ql) rfl f2);have t1:bCmp oGt (qk q12 (qc (eV 2) qi)) (eC (.int 12)) [some (.fz (S t)),some (.fz (.lst (rs.map (k6 nm)))),some (.fz (yn (xv nm rs))),none]=some (decide ((12:Int)<((xv nm rs).length:Nat))):=ja (x_call (qg (x_v rfl) ql) hle) x_c (ko _ _);have t2:bCmp oGt (qk jw (qc (eV 1) qi)) (eC (.int 200)) [some (.fz (S t)),some (.fz (.lst (rs.map (k6 nm)))),some (.fz (yn (xv nm rs))),none]=some (decide ((200:Int)<(rs.length:Nat))):=ja (x_call (qg (x_v rfl) ql) ((q2k _).trans (by rw [g7]))) x_c (ko _ _);unfold x_read q41;show Option.map (·.1) (v9 _ _ _ [some (.fz (S t)),none,none,none])=_
 by_cases hk:12<(xv nm rs).length
 ·rw [gm (by omega)] at t1
  rw [gy hk];simp only [v9,xj,t7,xIf,hx,s1,s2,t1,g6,pd]
  rfl
 ·rw [gq (by omega)] at t1
  rw [ma hk]
  by_cases hm:200<rs.length
  ·rw [gm (by omega)] at t2
   rw [gy hm];simp only [v9,xj,t7,xIf,hx,s1,s2,t1,t2,g6,pd,nr,ua,sIf,j7]
   rfl
  ·rw [gq (by omega)] at t2
   rw [ma hm];simp only [v9,xj,t7,xIf,hx,s1,s2,t1,t2,g6,pd,nr,ua,sIf,j7]
   rfl
def nmG(w:Nat): List (List Nat):=(List.range w).map fun i=>[97+i,120]
def rsG(w n:Nat): List Run:=(List.range n).map fun k=>((1:Int),[((k%w:Nat):Int)])
theorem q8y(w:Nat)(h:w<=26): NmOk (nmG w):=by
 refine⟨ky fun a b _ _ e=>?_,fun n hn=>?_⟩
 ·injection e with e1 e2;omega
 ·obtain⟨i,hi,rfl⟩:=gp.mp hn
  have:=mv.mp hi;refine⟨by simp,by simp,fun c hc=>?_⟩;simp only [gx,g00,g1r] at hc;omega
theorem qpu(w i:Nat)(h:i<w): (nmG w).getD i []=[97+i,120]:=by
 unfold nmG;rw [n5,gz,g06 h];rfl
theorem qdo(w n:Nat)(hw:0<w): ∀r∈rsG w n,TOk (nmG w) r:=fun r hr=>by
 obtain⟨k,_,rfl⟩:=gp.mp hr;have:=p7 k hw;refine⟨by show(1:Int)<=1;omega,by show(1:Int)<=1000000000000;omega,⟨by simp,fun x hx=>?_⟩,by simp⟩;rw [mi.mp hx];unfold nmG;rw [g7,nj];omega
theorem qli(w k:Nat)(hw:0<w): pick (nmG w) [((k%w:Nat):Int)]=[[97+k%w,120]]:=by
 unfold pick;rw [m7,g0h,g2f,qpu w _ (p7 k hw)]
theorem dg1:dg 1=[49]:=by unfold dg;rw [g1f (by decide)];rfl
theorem dg5:dg 5=[53]:=by unfold dg;rw [g1f (by decide)];rfl
theorem lnG(w k:Nat)(hw:0<w): lnR (nmG w) (1,[((k%w:Nat):Int)])=[49,58,32,97+k%w,120]:=by
 unfold lnR q19;rw [qli w k hw];show dg 1++[58]++_=_;rw [dg1]
 rfl
theorem ksG(w n:Nat)(hw:0<w)(h:w<=n): (xv (nmG w) (rsG w n)).length=w:=by
 have e:((rsG w n).map fun r=>(pick (nmG w) r.2).map txt).flatten=(List.range n).map fun k=>txt [97+k%w,120]:=by
  unfold rsG;rw [mh];have:((fun r:Run=>(pick (nmG w) r.2).map txt) ∘ fun k:Nat=>((1:Int),[((k%w:Nat):Int)]))=fun k=>[txt [97+k%w,120]]:=by
   funext k
   show(pick (nmG w) [((k%w:Nat):Int)]).map txt=_;rw [qli w k hw];rfl
  rw [this, <- List.flatMap_def, <- List.map_eq_flatMap]
 unfold xv;rw [e];obtain⟨m,rfl⟩:∃m,n=w+m:=⟨n-w,by omega⟩
 rw [List.range_add,ng];have e1:((List.range w).map fun k=>txt [97+k%w,120])=(List.range w).map fun k=>txt [97+k,120]:=g07 fun k hk=>by rw [Nat.mod_eq_of_lt (mv.mp hk)]
 rw [e1,qkq]
 ·rw [g7,nj]
 ·rw [uo,g1i]
  refine(List.nodup_range (n:=w)).imp fun {a b} hab e=>hab ?_;have:=q44 e;injection this with h1 h2
  omega
 ·intro x hx
  obtain⟨k,_,rfl⟩:=gp.mp hx;exact gp.mpr ⟨k%w,mv.mpr (p7 k hw),rfl⟩
theorem q8z(w:Nat)(hw:0<w)(h26:w<=26)(x1:Option B): ∀(n k:Nat) (acc:List (List Nat)) (b4:Option B),acc.length=k->k+n<=1000 ->
  ∃b4',runFor (bN 4) wx (zf (k:Int) n) [some (.fz (.int (w:Int))),x1,some (.fz (S ltr)),some (.ow (acc.map S)),b4]=some (.nx,[some (.fz (.int (w:Int))),x1,some (.fz (S ltr)),some (.ow ((acc++(List.range n).map fun j=>[49,58,32,97+(k+j)%w,120]).map S)),b4'])
 | 0,k,acc,b4,_,_=>⟨b4,by simp [zf,runFor]⟩
 | n+1,k,acc,b4,ha,hl=>by
  obtain⟨b4',ih⟩:=q8z w hw h26 x1 n (k+1) (acc++[[49,58,32,97+k%w,120]]) (some (.fz (.int (k:Int)))) (by simp;omega) (by omega);refine⟨b4',?_⟩;have hm:k%w<w:=p7 k hw;have body:wx [some (.fz (.int (w:Int))),x1,some (.fz (S ltr)),some (.ow (acc.map S)),some (.fz (.int (k:Int)))]=some (.nx,[some (.fz (.int (w:Int))),x1,some (.fz (S ltr)),some (.ow (acc.map S++[S [49,58,32,97+k%w,120]])),some (.fz (.int (k:Int)))]):=by
   refine q37 rfl (qt (qt x_c (qt (x_v rfl) (qt (x_v rfl) (x_v rfl) (jr k w hw)) (q8v _ (by omega))) (jt (a:=[49,58,32]) (b:=[97+k%w]) (by simp))) x_c (jt (a:=[49,58,32,97+k%w]) (b:=[120]) (by simp))) (by rw [g7];show _<1000000;omega)
  rw [q09,yg (b:=bN 4) rfl body];rw [ng] at ih;refine ih.trans ?_;rw [g1l,m7,mh,mn];have e:((fun j=>[49,58,32,97+(k+j)%w,120]) ∘ Nat.succ)=fun j=>[49,58,32,97+(k+1+j)%w,120]:=by
   funext j
   show [49,58,32,97+(k+(j+1))%w,120]=_;rw [show k+(j+1)=k+1+j by omega]
  rw [e];rfl
theorem ql0(w n:Nat)(hw:0<w)(h26:w<=26)(hn:n<=300): q08 [.int (w:Int),.int (n:Int)]=some (S (jn 10 ((rsG w n).map (lnR (nmG w))))):=by
 obtain⟨b4,e⟩:=q8z w hw h26 (some (.fz (.int (n:Int)))) n 0 [] none rfl (by omega);have el:(rsG w n).map (lnR (nmG w))=(List.range n).map fun j=>[49,58,32,97+(0+j)%w,120]:=by
  unfold rsG;rw [mh];refine g07 fun k _=>?_;show lnR (nmG w) (1,[((k%w:Nat):Int)])=_;rw [lnG w k hw,Nat.zero_add]
 rw [<- el,pk] at e;refine jb (qz (ρ1:=[some (.fz (.int (w:Int))),some (.fz (.int (n:Int))),some (.fz (S ltr)),none,none]) (zo (by rw [qgs];exact x_c)) (qz (q6o (vy ql (by decide))) (qz (q51 (ds:=zf ((0:Nat):Int) n) (wz _ _ (n:Int) (qg (x_v rfl) ql) (by omega) (by omega)) e) (q8s rfl (y_ret (qt x_c (x_v rfl) (by rw [sNl];exact qf2 (q8y w h26) (q6r (q8y w h26) (qdo w n hw)) (by unfold rsG;rw [g7,g7,nj];exact hn))))))))
theorem qfg{c:Nat}{b:List Nat}: ∀ {ls:List (List Nat)},ls≠[]->jn c (ls++[b])=jn c ls++c :: b
 | [],h=>absurd rfl h
 | [x],_=>rfl
 | x :: y :: r,_=>by
  rw [pf,pf,zw,zw, <- pf,qfg (by simp),mn];rfl
theorem ql1{c:Nat}{b:List Nat}: ∀ {ls:List (List Nat)},ls≠[]->jn c (b :: ls)=b++c :: jn c ls
 | [],h=>absurd rfl h
 | y :: r,_=>zw c b y r
def q69(w n:Nat): D:=if 12<w then .lst [.str "great",.int 12] else if 200<n then .lst [.str "great",.int 200] else .lst []
theorem q7w(w n:Nat)(hw:0<w)(h26:w<=26)(hn:n<=300)(hwn:w<=n): f_law_refused [S (jn 10 ((rsG w n).map (lnR (nmG w))))]=some (q69 w n):=by
 have hok:=q8y w h26;have hr:=qdo w n hw;have hl:(rsG w n).length=n:=by unfold rsG;rw [g7,nj]
 have h0:rsG w n≠[]:=fun z=>by rw [z] at hl;rw [nt] at hl;omega
 have hx:=qh2 hok hr (by omega) h0;rw [ksG w n hw hwn,hl] at hx;unfold q69
 by_cases h12:12<w
 ·rw [gy h12] at hx ⊢
  exact q59 hx
 ·rw [ma h12] at hx ⊢
  by_cases h200:200<n
  ·rw [gy h200] at hx ⊢
   exact q59 hx
  ·rw [ma h200] at hx ⊢
   exact qdn hx (qfa hok hr (by omega) (by rw [ksG w n hw hwn];omega))
theorem q6u:q5i (.lst [.str "text"]) (.lst [.str "text"])=some (.bl false):=by rfl
theorem qpv(w n:Nat): q5i (q69 w n) (q69 w n)=some (.bl false):=by
 unfold q69
 split
 ·rfl
 ·split <;> rfl
abbrev pD(p:Nat×Nat): D:=.tup [.int (p.1:Int),.int (p.2:Int)]
theorem qe4(ns:List Int)(b:List Nat)(hb:ju b=false)(hbl:b.length<=25)(hbn:10∉b)(w n:Nat)(hw:0<w)(h26:w<=26)(hn:n<=300)(hwn:w<=n)(b4 b5 b6:Option B):
  ∃b4' b5' b6',kx [some (.fz (.lst (ns.map .int))),some (.fz (S b)),some (.fz (.int (w:Int))),some (.fz (.int (n:Int))),b4,b5,b6]=some (.nx,[some (.fz (.lst (ns.map .int))),some (.fz (S b)),some (.fz (.int (w:Int))),some (.fz (.int (n:Int))),b4',b5',b6']):=by
 obtain⟨mx,hmx⟩:=q48 ns;have hg:=ql0 w n hw h26 hn;have hR:=q7w w n hw h26 hn hwn;have hok:=q8y w h26;have hl:((rsG w n).map (lnR (nmG w))).length=n:=by unfold rsG;rw [g7,g7,nj]
 have h5:∀l∈(rsG w n).map (lnR (nmG w)),l.length<=5:=fun l hl=>by
  obtain⟨r,h,rfl⟩:=gp.mp hl;obtain⟨k,_,rfl⟩:=gp.mp h;rw [lnG w k hw];simp
 have hf:∀l∈(rsG w n).map (lnR (nmG w)),10∉l:=fun l hl=>by
  obtain⟨r,h,rfl⟩:=gp.mp hl;exact q6t hok (qdo w n hw r h)
 have hp:∀k,f_law_refused [S (jn 10 (((rsG w n).map (lnR (nmG w))).take k++[b]++((rsG w n).map (lnR (nmG w))).drop k))]=some (.lst [.str "text"]):=fun k=>q7a hb hbl hbn h5 hf (by omega) (by omega);have htl:(jn 10 ((rsG w n).map (lnR (nmG w)))).length<=2000:=by
  have a:=q45 10 ((rsG w n).map (lnR (nmG w)));have c:=q49 h5;omega
 have p0:=hp 0;have pn:=hp n;have hne:(rsG w n).map (lnR (nmG w))≠[]:=fun z=>by rw [z] at hl;rw [nt] at hl;omega
 rw [g2a,ux,pk,g3a,ql1 hne] at p0;rw [ny (by omega),g39 (by omega),my,qfg hne] at pn;generalize jn 10 ((rsG w n).map (lnR (nmG w)))=t at *;have a1:∀q:Rho,eOp j0 (eOp j0 (eV 4) (eC (.str "\n"))) (eV 1) (some (.fz (.lst (ns.map .int))) :: some (.fz (S b)) :: some (.fz (.int (w:Int))) :: some (.fz (.int (n:Int))) :: some (.fz (S t)) :: q)=some (S (t++10 :: b)):=fun q=>by
  refine qt (qt (x_v rfl) x_c (by rw [sNl];exact jt (by rw [gj];omega))) (x_v rfl) ?_;rw [jt (by rw [gc,gj];omega),mn];rfl
 have a2:∀q:Rho,eOp j0 (eOp j0 (eV 1) (eC (.str "\n"))) (eV 4) (some (.fz (.lst (ns.map .int))) :: some (.fz (S b)) :: some (.fz (.int (w:Int))) :: some (.fz (.int (n:Int))) :: some (.fz (S t)) :: q)=some (S (b++10 :: t)):=fun q=>by
  refine qt (qt (x_v rfl) x_c (by rw [sNl];exact jt (by rw [gj];omega))) (x_v rfl) ?_;rw [jt (by rw [gc,gj];omega),mn];rfl
 obtain⟨z,hz,hzt⟩:∃z:List Nat,oIx (.lst [S (t++10 :: b),S (b++10 :: t)]) (.int ((mx (70+w)%2:Nat):Int))=some (S z)/\f_law_refused [S z]=some (.lst [.str "text"]):=by
  rcases(by omega:mx (70+w)%2=0\/mx (70+w)%2=1) with h|h
  ·rw [h];exact⟨_,rfl,pn⟩
  ·rw [h];exact⟨_,rfl,p0⟩
 refine⟨some (.fz (S t)),some (.fz (q69 w n)),some (.fz (.int ((mx (70+w)%2:Nat):Int))),?_⟩;refine q00 (zo (z8 (qg (x_v rfl) (qg (x_v rfl) ql)) rfl hg)) ?_;refine q00 (zo (x_l (vy ql (by decide)))) ?_;refine q00 (ρ1:=[some (.fz (.lst (ns.map .int))),some (.fz (S b)),some (.fz (.int (w:Int))),some (.fz (.int (n:Int))),some (.fz (S t)),some (.fz (if 200<n then .lst [.str "great",.int 200] else .lst [])),b6]) ?_ ?_
 ·by_cases h:200<n
  ·rw [gy h]
   exact qd8 (ja (x_v rfl) x_c (ko _ _)) (gm (by omega)) (zo (x_l (vy (qg x_c (qg x_c ql)) (by show 2<=1000000;decide))))
  ·rw [ma h]
   exact jg (ja (x_v rfl) x_c (ko _ _)) (gq (by omega)) jd
 refine q00 (ρ1:=[some (.fz (.lst (ns.map .int))),some (.fz (S b)),some (.fz (.int (w:Int))),some (.fz (.int (n:Int))),some (.fz (S t)),some (.fz (q69 w n)),b6]) ?_ ?_
 ·unfold q69
  by_cases h:12<w
  ·rw [gy h]
   exact qd8 (ja (x_v rfl) x_c (ko _ _)) (gm (by omega)) (zo (x_l (vy (qg x_c (qg x_c ql)) (by show 2<=1000000;decide))))
  ·rw [ma h]
   exact jg (ja (x_v rfl) x_c (ko _ _)) (gq (by omega)) jd
 refine q00 (jg (ja (z8 (qg (x_v rfl) ql) rfl hR) (x_v rfl) (qpv w n)) rfl jd) ?_;refine q00 (zo (qt (z8 (qg (x_v rfl) (qg (qt x_c (x_v rfl) (js _ _)) ql)) rfl (hmx (70+w) (by omega))) x_c (jr _ 2 (by decide)))) ?_;exact jg (ja (z8 (qg (qt (x_l (vy (qg (a1 _) (qg (a2 _) ql)) (by show 2<=1000000;decide))) (x_v rfl) hz) ql) rfl hzt) (x_l (vy (qg x_c ql) (by show 1<=1000000;decide))) q6u) rfl jd
theorem q7b(ns:List Int)(b:List Nat)(hb:ju b=false)(hbl:b.length<=25)(hbn:10∉b): ∀(ps:List (Nat×Nat)),(∀p∈ps,0<p.1/\p.1<=26/\p.2<=300/\p.1<=p.2)->∀(b2 b3 b4 b5 b6:Option B),
  ∃q,runFor (q30 2 (yu (bN 2) (yu (bN 3) q2z))) kx (ps.map pD) [some (.fz (.lst (ns.map .int))),some (.fz (S b)),b2,b3,b4,b5,b6]=some (.nx,q)
 | [],_,b2,b3,b4,b5,b6=>⟨_,rfl⟩
 | p :: ps,h,b2,b3,b4,b5,b6=>by
  obtain⟨h1,h2,h3,h4⟩:=h p gd;obtain⟨c4,c5,c6,e⟩:=qe4 ns b hb hbl hbn p.1 p.2 h1 h2 h3 h4 b4 b5 b6;obtain⟨q,ih⟩:=q7b ns b hb hbl hbn ps (fun p hp=>h p (gi _ hp)) (some (.fz (.int (p.1:Int)))) (some (.fz (.int (p.2:Int)))) c4 c5 c6;refine⟨q,?_⟩;rw [m7,yg (ρ1:=[some (.fz (.lst (ns.map .int))),some (.fz (S b)),some (.fz (.int (p.1:Int))),some (.fz (.int (p.2:Int))),b4,b5,b6]) rfl e];exact ih
theorem qj2(ns:List Int)(b:List Nat)(hb:ju b=false)(hbl:b.length<=25)(hbn:10∉b): wg [.lst (ns.map .int),S b]=some (.bl true):=by
 obtain⟨q,e⟩:=q7b ns b hb hbl hbn [(11,40),(12,199),(13,40),(14,202),(12,200),(12,201),(3,202),(13,201)] (by decide) none none none none none;exact jb (qz (q51 (ds:=[(11,40),(12,199),(13,40),(14,202),(12,200),(12,201),(3,202),(13,201)].map pD) rfl e) (y_ret x_c))
theorem qdp:∀(l:List Int) (a b:Int),l.Pairwise (· < ·)->(∀x∈l,a<=x/\x<b)->(l.length:Int)<=max 0 (b-a)
 | [],a,b,_,_=>by simp;omega
 | x :: l,a,b,h,hm=>by
  cases h with
  | cons h1 h2=>
   have hx:=hm x gd;have ih:=qdp l (x+1) b h2 fun y hy=>⟨h1 y hy,(hm y (gi _ hy)).2⟩
   rw [gs];omega
theorem qnd{a:List Str}(h:a.Nodup)(x:Str): (step_dedup a x).Nodup:=by
 by_cases hx:x∈a
 ·rw [q1f hx];exact h
 ·rw [wa hx,g0f]
  exact⟨h,by simp,fun y hy z hz q=>hx (by rw [<- mi.mp hz, <- q];exact hy)⟩
theorem q90:∀(b a:List Str),a.Nodup->(b.foldl step_dedup a).Nodup
 | [],_,h=>h
 | x :: b,a,h=>q90 b _ (qnd h x)
theorem qh3(l:List Str): (xk l).Nodup:=q90 l [] (by simp)
theorem q91(ns:List Int)(t:List Nat)(ls:List (List Nat))(x1 x2 x4 x5 x8 x9 x10 rd:Option B)(rD' r2:D)(qs:List D)(ht:t.length<=7800)(h0:t≠[])
  (hread:yo [S t]=some (.tup [rD',.tup [r2,.tup qs]])) (hq:qs.length=ls.length):∀(n k:Nat) (b7:Option B),k+n<=1000 ->
  ∃b7',runFor (bN 7) q7l (zf (k:Int) n) [some (.fz (.lst (ns.map .int))),x1,x2,some (.fz (.lst (ls.map S))),x4,x5,some (.fz (S t)),b7,x8,x9,x10]=some (.nx,[some (.fz (.lst (ns.map .int))),x1,x2,some (.fz (.lst (ls.map S))),x4,x5,some (.fz (S t)),b7',x8,x9,x10])
 | 0,k,b7,_=>⟨b7,rfl⟩
 | n+1,k,b7,hk=>by
  obtain⟨b7',ih⟩:=q91 ns t ls x1 x2 x4 x5 x8 x9 x10 rd rD' r2 qs ht h0 hread hq n (k+1) (some (.fz (.int (k:Int)))) (by omega);refine⟨b7',?_⟩;obtain⟨mx,hmx⟩:=q48 ns;obtain⟨t',e1,e2,e3,e4⟩:=qgz t (mx (40+k)) (by omega) h0;have hR:=q78 t' (by omega) e3 e4;rw [q09];refine(yg (ρ1:=[some (.fz (.lst (ns.map .int))),x1,x2,some (.fz (.lst (ls.map S))),x4,x5,some (.fz (S t)),some (.fz (.int (k:Int))),x8,x9,x10]) (ρ2:=[some (.fz (.lst (ns.map .int))),x1,x2,some (.fz (.lst (ls.map S))),x4,x5,some (.fz (S t)),some (.fz (.int (k:Int))),x8,x9,x10]) rfl ?_).trans ih;refine q00 (jg (ja (z8 (qg (z8 (qg (x_v rfl) (qg (z8 (qg (x_v rfl) (qg (qt x_c (x_v rfl) (js _ _)) ql)) rfl (hmx (40+k) (by omega))) ql)) rfl e1) ql) rfl hR) (x_l (vy (qg x_c ql) (by show 1<=1000000;decide))) q6u) rfl jd) ?_;refine jg (ja (x_call (qg (qt (qt (z8 (qg (x_v rfl) ql) rfl hread) x_c (z:=.tup [r2,.tup qs]) rfl) x_c (z:=.tup qs) rfl) ql) (qgo _)) (x_call (qg (x_v rfl) ql) (q2k _)) (q9s _ _)) ?_ jd;rw [g7,hq];simp
theorem qdq(ns:List Int)(t:List Nat)(ls:List (List Nat))(x1 x2 x4 x5 x6 x10:Option B)(hl:∀l∈ls,l.length<=122)(hf:∀l∈ls,10∉l)(h1:1<=ls.length)(h63:ls.length<=63): ∀(n k:Nat) (b7 b8 b9:Option B),k+n<=1000 ->
  ∃b7' b8' b9',runFor (bN 7) q7m (zf (k:Int) n) [some (.fz (.lst (ns.map .int))),x1,x2,some (.fz (.lst (ls.map S))),x4,x5,x6,b7,b8,b9,x10]=some (.nx,[some (.fz (.lst (ns.map .int))),x1,x2,some (.fz (.lst (ls.map S))),x4,x5,x6,b7',b8',b9',x10])
 | 0,k,b7,b8,b9,_=>⟨b7,b8,b9,rfl⟩
 | n + 1,k,b7,b8,b9,hk=>by
  obtain⟨mx,hmx⟩:=q48 ns;obtain⟨b,e1,e2,e3,e4⟩:=q79 ((mx 60:Nat)+5*(k:Int))
  let at':=mx (50+k)%(ls.length+1)
  obtain⟨b7',b8',b9',ih⟩:=qdq ns t ls x1 x2 x4 x5 x6 x10 hl hf h1 h63 n (k+1) (some (.fz (.int (k:Int)))) (some (.fz (.int (at':Int)))) (some (.fz (S b))) (by omega);refine⟨b7',b8',b9',?_⟩;have hat:at'<=ls.length:=by have:=p7 (mx (50+k)) (show 0<ls.length+1 by omega);show mx (50+k)%(ls.length+1)<=_;omega
  have hR:=q7a (k:=at') e2 e3 e4 hl hf h1 (by omega);have s1:oSl (.lst (ls.map S)) none (some (at':Int))=some (.lst ((ls.take at').map S)):=by
   rw [List.map_take];refine n6 (fun l=>some (D.lst l)) ?_;exact qe2 (α :=Unit) (ls.map S) at'
  have s2:oSl (.lst (ls.map S)) (some (at':Int)) none=some (.lst ((ls.drop at').map S)):=by
   rw [List.map_drop];exact n6 (fun l=>some (D.lst l)) (q7o (α :=Unit) (ls.map S) at')
  have hj:yw (S [10]) (.lst ((ls.take at'++[b]++ls.drop at').map S))=some (S (jn 10 (ls.take at'++[b]++ls.drop at'))):=by
   refine qam (B:=122) (fun l h=>?_) ?_
   ·rcases mz.mp h with h|h
    ·rcases mz.mp h with h|h
     ·exact hl l (uw h)
     ·rw [mi.mp h];omega
    ·exact hl l (g26 h)
   ·rw [gc,gc,gj,mf,ni];omega
  rw [q09];refine(yg (ρ1:=[some (.fz (.lst (ns.map .int))),x1,x2,some (.fz (.lst (ls.map S))),x4,x5,x6,some (.fz (.int (k:Int))),b8,b9,x10]) (ρ2:=[some (.fz (.lst (ns.map .int))),x1,x2,some (.fz (.lst (ls.map S))),x4,x5,x6,some (.fz (.int (k:Int))),some (.fz (.int (at':Int))),some (.fz (S b)),x10]) rfl ?_).trans ih;refine q00 (zo (qt (z8 (qg (x_v rfl) (qg (qt x_c (x_v rfl) (js _ _)) ql)) rfl (hmx (50+k) (by omega))) (qt (x_call (qg (x_v rfl) ql) (q2k _)) x_c (js _ _)) (by rw [g7];exact jr _ (ls.length+1) (by omega)))) ?_;refine q00 (zo (z8 (qg (qt (z8 (qg (x_v rfl) (qg x_c ql)) rfl (hmx 60 (by omega))) (qt x_c (x_v rfl) (q3q _ _ (by decide))) (js _ _)) ql) rfl e1)) ?_;refine jg (ja (z8 (qg (qt x_c (qt (z:=.lst ((ls.take at'++[b]++ls.drop at').map S)) (qt (z:=.lst ((ls.take at'++[b]).map S)) (qd5 (x_v rfl) q0h (x_at (x_v rfl)) s1) (x_l (vy (qg (x_v rfl) ql) (by show 1<=1000000;decide))) ?_) (qd5 (x_v rfl) (x_at (x_v rfl)) q0h s2) ?_) (by rw [sNl];exact hj)) ql) rfl hR) (x_l (vy (qg x_c ql) (by show 1<=1000000;decide))) q6u) rfl jd
  ·rw [q3i _ _ (by simp only [g7,mf,gs,nt];omega),ng];rfl
  ·rw [q3i _ _ (by simp only [g7,mf,ni,gc,gj];omega), <- ng]
theorem qj3:∀d∈([.non,.int 3,.bl true,.tup [.str "1: a"],.lst [.str "1: a"],.dct [] [],.int (-1)]:List D),f_law_refused [d]=some (.lst [.str "text"]):=by
 intro d hd;refine q68 (qdm ?_);simp only [gx,g00,g1r] at hd;rcases hd with rfl|rfl|rfl|rfl|rfl|rfl|rfl <;> rfl
theorem q92(x0 x1 x2 x3 x4 x5 x6 x7 x8 x9:Option B): ∀(ds:List D),(∀d∈ds,f_law_refused [d]=some (.lst [.str "text"]))->∀(b10:Option B),
  ∃b10',runFor (bN 10) q7n ds [x0,x1,x2,x3,x4,x5,x6,x7,x8,x9,b10]=some (.nx,[x0,x1,x2,x3,x4,x5,x6,x7,x8,x9,b10'])
 | [],_,b10=>⟨b10,rfl⟩
 | d :: ds,h,b10=>by
  obtain⟨b',ih⟩:=q92 x0 x1 x2 x3 x4 x5 x6 x7 x8 x9 ds (fun d hd=>h d (gi _ hd)) (some (.fz d));refine⟨b',?_⟩;refine(yg (ρ1:=[x0,x1,x2,x3,x4,x5,x6,x7,x8,x9,some (.fz d)]) (ρ2:=[x0,x1,x2,x3,x4,x5,x6,x7,x8,x9,some (.fz d)]) rfl ?_).trans ih;exact jg (ja (z8 (qg (x_v rfl) ql) rfl (h d gd)) (x_l (vy (qg x_c ql) (by show 1<=1000000;decide))) q6u) rfl jd
theorem ql2(ns:List Int)(hlen:ns.length<=63): qgm [.lst (ns.map .int)]=some (.bl true):=by
 obtain⟨w,rs0,hp,hw,hl,hr0⟩:=qe3 ns hlen 12 (by decide);obtain⟨nm,hn,hnl,hok⟩:=qdd ns 12 (by decide);obtain⟨mx,hmx⟩:=q48 ns;have hT0:∀r∈rs0,TOk nm r:=fun r hr=>by
  have h:=hr0 r hr;have hll:=qdp r.2 0 w h.rise h.mem;exact⟨h.m1,h.m2,⟨by omega,fun x hx=>by have:=h.mem x hx;rw [hnl];omega⟩,h.rise.imp fun a=>by omega⟩
 let rs:List Run:=(5,[0]) :: rs0
 have hT:∀r∈rs,TOk nm r:=fun r hr=>by
  rcases gx.mp hr with rfl|hr
  ·exact⟨by show(1:Int)<=5;omega,by show(5:Int)<=1000000000000;omega,⟨by simp,fun x hx=>by rw [mi.mp hx,hnl];omega⟩,by simp⟩
  ·exact hT0 r hr
 have hrl:rs.length<=63:=by show(rs0.length+1)<=63;omega
 have hne:rs≠[]:=by simp [rs]
 have h122:=q6r hok hT;have hf:∀l∈rs.map (lnR nm),10∉l:=fun l hl=>by
  obtain⟨r,h,rfl⟩:=gp.mp hl;exact q6t hok (hT r h)
 have htl:(jn 10 (rs.map (lnR nm))).length<=7800:=by
  have a:=q45 10 (rs.map (lnR nm));have b:=q49 h122;rw [g7] at a b;omega
 have ht0:jn 10 (rs.map (lnR nm))≠[]:=qlf (by simp [rs]) fun l hl=>by
  obtain⟨r,h,rfl⟩:=gp.mp hl;unfold lnR q19;intro z;rw [g0b,g0b] at z;exact absurd z.1.2 (by simp)
 have hks:(xv nm rs).length<=12:=by
  have hsub:∀x∈xv nm rs,x∈nm.map txt:=fun x hx=>by
   obtain⟨l,h1,h2⟩:=g31.mp (oneS_in.mp hx);obtain⟨r,h3,rfl⟩:=gp.mp h1;obtain⟨n,h4,rfl⟩:=gp.mp h2;exact gp.mpr ⟨n,q54 (hT r h3).b h4,rfl⟩
  have hnd:(xv nm rs).Nodup:=qh3 _;have:=hnd.length_le_of_subset hsub;rw [g7,hnl] at this;exact this
 have hread:=qfa hok hT (by omega) hks;have hfirst:j0 (.str "5: ") (S (nm.getD 0 []))=some (S (lnR nm (5,[0]))):=by
  have h0:=(hok.one _ (getD_mem (nm:=nm) (i:=0) (by omega))).2.1;rw [show("5: " : Str)=txt [53,58,32] from rfl,jt (by simp only [gs,nt];omega)];unfold lnR q19 pick;show _=some (S (dg 5++[58]++_));rw [dg5];simp
 have hix0:oIx (LS nm) (.int 0)=some (S (nm.getD 0 [])):=by
  rw [q66,show(0:Int)=((0:Nat):Int) from rfl,vw,gz,m6 (by omega:0<nm.length),n5,m6 (by omega:0<nm.length)];rfl
 obtain⟨c4,c5,eL⟩:=qaq hok (some (.fz (.lst (ns.map .int)))) (some (.fz (q6p w rs0))) [none,none,none,none,none] rs0 [lnR nm (5,[0])] none none (fun r h=>(hT0 r h).r) (by simp;omega);have eapp:[lnR nm (5,[0])]++rs0.map (lnR nm)=rs.map (lnR nm):=rfl;rw [eapp] at eL;generalize hls:rs.map (lnR nm)=ls at *;have hlsl:ls.length=rs.length:=by rw [<- hls,g7]
 generalize htt:jn 10 ls=t at *;have hj:yw (S [10]) (.lst (ls.map S))=some (S t):=by rw [qf2 hok h122 (by omega),htt]
 obtain⟨c7,e2⟩:=q91 ns t ls (some (.fz (q6p w rs0))) (some (.fz (LS nm))) c4 c5 none none none none _ _ _ htl ht0 hread (by rw [g7,g7,hlsl]) 6 0 none (by decide);obtain⟨d7,d8,d9,e3⟩:=qdq ns t ls (some (.fz (q6p w rs0))) (some (.fz (LS nm))) c4 c5 (some (.fz (S t))) none h122 hf (by rw [hlsl];show 1<=rs0.length+1;omega) (by omega) 8 0 c7 none none (by decide);obtain⟨g10,e4⟩:=q92 (some (.fz (.lst (ns.map .int)))) (some (.fz (q6p w rs0))) (some (.fz (LS nm))) (some (.fz (.lst (ls.map S)))) c4 c5 (some (.fz (S t))) d7 d8 d9 _ qj3 none;obtain⟨b,f1,f2,f3,f4⟩:=q79 ((mx 62:Nat):Int);have hB:=qj2 ns b f2 f3 f4;refine jb ?_;refine qz (zo (z8 (qg (x_v rfl) (qg x_c ql)) rfl hp)) ?_;refine qz (zo (z8 (qg (x_v rfl) (qg x_c (qg x_c ql))) rfl hn)) ?_;refine qz (q6o (ds:=[lnR nm (5,[0])].map S) (vy (qg (qt x_c (qt (x_v rfl) x_c hix0) hfirst) ql) (by show 1<=1000000;decide))) ?_;refine qz (q51 (q0a (qt (x_v rfl) x_c (z:=.tup (rs0.map q18)) rfl) rfl) eL) ?_;refine q8s rfl ?_;refine qz (zo (qt x_c (x_v rfl) (by rw [sNl];exact hj))) ?_;refine qz (q51 (ds:=zf ((0:Nat):Int) 6) (wz _ _ 6 (qg x_c ql) (by decide) (by decide)) e2) ?_;refine qz (q51 (ds:=zf ((0:Nat):Int) 8) (wz _ _ 8 (qg x_c ql) (by decide) (by decide)) e3) ?_;refine qz (q51 rfl e4) ?_;refine qz (jg (c:=false) ?_ rfl jd) ?_
 ·by_cases h4:mx 61%4=0
  ·exact qd6 (ja (qt (z8 (qg (x_v rfl) (qg x_c ql)) rfl (hmx 61 (by decide))) x_c (jr _ 4 (by decide))) x_c (yq _ _)) (gm (by omega)) (yh (q3p (z8 (qg (x_v rfl) (qg (z8 (qg (z8 (qg (x_v rfl) (qg x_c ql)) rfl (hmx 62 (by decide))) ql) rfl f1) ql)) rfl hB) rfl))
  ·exact qd7 (ja (qt (z8 (qg (x_v rfl) (qg x_c ql)) rfl (hmx 61 (by decide))) x_c (jr _ 4 (by decide))) x_c (yq _ _)) (gq (by omega))
 refine y_ret (qt (x_call (qg (qt (qt (z8 (qg (x_v rfl) ql) rfl hread) x_c rfl) x_c (z:=.tup _) rfl) ql) (qgo _)) (x_call (qg (x_v rfl) ql) (q2k _)) ?_);rw [yq,g7,g7,g7,hlsl,gm rfl]
end My
namespace My
open PySem PySem.Spec PyProof.Rows L2 DL
open PySem.W (nsIn fnOf keepIn codeIn mg_of subIn mg_none_of findIn plainGet)
theorem ln1{s:Shared}{fd:FuncData}{ps:List Str}(h:∀a0,BindsTo s fd ⟨[a0],[]⟩ (ps.zip ([a0]++[]))): ∀us:List Value,(us++[]).length=1->BindsTo s fd ⟨us,[]⟩ (ps.zip (us++[]))
 | [a0],_=>h a0
theorem ln2{s:Shared}{fd:FuncData}{ps:List Str}(h:∀a0 a1,BindsTo s fd ⟨[a0,a1],[]⟩ (ps.zip ([a0,a1]++[]))): ∀us:List Value,(us++[]).length=2->BindsTo s fd ⟨us,[]⟩ (ps.zip (us++[]))
 | [a0,a1],_=>h a0 a1
theorem ln3{s:Shared}{fd:FuncData}{ps:List Str}(h:∀a0 a1 a2,BindsTo s fd ⟨[a0,a1,a2],[]⟩ (ps.zip ([a0,a1,a2]++[]))): ∀us:List Value,(us++[]).length=3->BindsTo s fd ⟨us,[]⟩ (ps.zip (us++[]))
 | [a0,a1,a2],_=>h a0 a1 a2
theorem all_mk[Lam]{l:PySem.W.OpenLaw}{w:World}{K:Frag}{h:Heap}{mg:Str->Option Value}{fa:Addr}(X:K.In h)(G:h.Ns mainGlobals mg)(hfa:mg "law" = some (.ref fa))(hm:∀ns:List Int,ns.length<=63->qgm [.lst (ns.map .int)]=some (.bl true))
  {fa_14:Addr} {fd_law_set:FuncData} (x_law_set:nsIn K mainGlobals "_law_set" = some (some (.ref fa_14))) (F_law_set:Fun2 K "_law_set" "_law_set" q0l .none fa_14 fd_law_set)
  {fa_11:Addr} {fd_law_power:FuncData} (x_law_power:nsIn K mainGlobals "_law_power" = some (some (.ref fa_11))) (F_law_power:Fun2 K "_law_power" "_law_power" kf .none fa_11 fd_law_power)
  {fa_13:Addr} {fd_law_run:FuncData} (x_law_run:nsIn K mainGlobals "_law_run" = some (some (.ref fa_13))) (F_law_run:Fun2 K "_law_run" "_law_run" q0m .none fa_13 fd_law_run)
  {fa_8:Addr} {fd_law_mixed:FuncData} (x_law_mixed:nsIn K mainGlobals "_law_mixed" = some (some (.ref fa_8))) (F_law_mixed:Fun2 K "_law_mixed" "_law_mixed" kg .none fa_8 fd_law_mixed)
  {fa_10:Addr} {fd_law_pile:FuncData} (x_law_pile:nsIn K mainGlobals "_law_pile" = some (some (.ref fa_10))) (F_law_pile:Fun2 K "_law_pile" "_law_pile" wq .none fa_10 fd_law_pile)
  {fa_9:Addr} {fd_law_names:FuncData} (x_law_names:nsIn K mainGlobals "_law_names" = some (some (.ref fa_9))) (F_law_names:Fun2 K "_law_names" "_law_names" ki .none fa_9 fd_law_names)
  {fa_5:Addr} {fd_law_bad_line:FuncData} (x_law_bad_line:nsIn K mainGlobals "_law_bad_line" = some (some (.ref fa_5))) (F_law_bad_line:Fun2 K "_law_bad_line" "_law_bad_line" vm .none fa_5 fd_law_bad_line)
  {fa_3:Addr} {fd_is_many:FuncData} (x_is_many:nsIn K mainGlobals "is_many" = some (some (.ref fa_3))) (F_is_many:Fun2 K "is_many" "is_many" q0n .none fa_3 fd_is_many)
  {fa_2:Addr} {fd_is_head:FuncData} (x_is_head:nsIn K mainGlobals "is_head" = some (some (.ref fa_2))) (F_is_head:Fun2 K "is_head" "is_head" q0o .none fa_2 fd_is_head)
  {fa_4:Addr} {fd_is_name:FuncData} (x_is_name:nsIn K mainGlobals "is_name" = some (some (.ref fa_4))) (F_is_name:Fun2 K "is_name" "is_name" q0p .none fa_4 fd_is_name)
  {fa_1:Addr} {fd_are_names:FuncData} (x_are_names:nsIn K mainGlobals "are_names" = some (some (.ref fa_1))) (F_are_names:Fun2 K "are_names" "are_names" kj .none fa_1 fd_are_names)
  {fa_17:Addr} {fd_line_read:FuncData} (x_line_read:nsIn K mainGlobals "line_read" = some (some (.ref fa_17))) (F_line_read:Fun2 K "line_read" "line_read" xc .none fa_17 fd_line_read)
  {fa_18:Addr} {fd_lines_of:FuncData} (x_lines_of:nsIn K mainGlobals "lines_of" = some (some (.ref fa_18))) (F_lines_of:Fun2 K "lines_of" "lines_of" v3 .none fa_18 fd_lines_of)
  {fa_19:Addr} {fd_places_by_name:FuncData} (x_places_by_name:nsIn K mainGlobals "places_by_name" = some (some (.ref fa_19))) (F_places_by_name:Fun2 K "places_by_name" "places_by_name" xu .none fa_19 fd_places_by_name)
  {fa_20:Addr} {fd_read:FuncData} (x_read:nsIn K mainGlobals "read" = some (some (.ref fa_20))) (F_read:Fun2 K "read" "read" q06 .none fa_20 fd_read)
  {fa_16:Addr} {fd_law_word:FuncData} (x_law_word:nsIn K mainGlobals "_law_word" = some (some (.ref fa_16))) (F_law_word:Fun2 K "_law_word" "_law_word" v5 .none fa_16 fd_law_word)
  {fa_12:Addr} {fd_law_refused:FuncData} (x_law_refused:nsIn K mainGlobals "_law_refused" = some (some (.ref fa_12))) (F_law_refused:Fun2 K "_law_refused" "_law_refused" vz .none fa_12 fd_law_refused)
  {fa_7:Addr} {fd_law_great:FuncData} (x_law_great:nsIn K mainGlobals "_law_great" = some (some (.ref fa_7))) (F_law_great:Fun2 K "_law_great" "_law_great" kn .none fa_7 fd_law_great)
  {fa_6:Addr} {fd_law_bounds:FuncData} (x_law_bounds:nsIn K mainGlobals "_law_bounds" = some (some (.ref fa_6))) (F_law_bounds:Fun2 K "_law_bounds" "_law_bounds" yp .none fa_6 fd_law_bounds)
  {fa_15:Addr} {fd_law_spoiled:FuncData} (x_law_spoiled:nsIn K mainGlobals "_law_spoiled" = some (some (.ref fa_15))) (F_law_spoiled:Fun2 K "_law_spoiled" "_law_spoiled" y0 .none fa_15 fd_law_spoiled)
  {fa_law:Addr} {fd_law:FuncData} (x_law:nsIn K mainGlobals "law" = some (some (.ref fa_law))) (F_law:Fun2 K "law" "law" q6m .none fa_law fd_law)
  {C_NoText:Addr} (ns_NoText:nsIn K mainGlobals "NoText" = some (some (.ref C_NoText)))
  {C_TooGreat:Addr} (ns_TooGreat:nsIn K mainGlobals "TooGreat" = some (some (.ref C_TooGreat)))
  {C_OftenError:Addr} (ns_OftenError:nsIn K mainGlobals "OftenError" = some (some (.ref C_OftenError)))
  {C_NoRun:Addr} (ns_NoRun:nsIn K mainGlobals "NoRun" = some (some (.ref C_NoRun)))
  {C_NoShare:Addr} (ns_NoShare:nsIn K mainGlobals "NoShare" = some (some (.ref C_NoShare)))
  {C_NoStore:Addr} (ns_NoStore:nsIn K mainGlobals "NoStore" = some (some (.ref C_NoStore)))
  {C_NoTree:Addr} (ns_NoTree:nsIn K mainGlobals "NoTree" = some (some (.ref C_NoTree)))
  {C_NotThere:Addr} (ns_NotThere:nsIn K mainGlobals "NotThere" = some (some (.ref C_NotThere)))
  (e_NoText:PySem.W.excIn K C_NoText vB "ValueError.__new__" = true)
  (ga_NoText:findIn K (.ref C_NoText) "__getattribute__" = some (some (.builtin "BaseException.__getattribute__")))
  (gk_NoText:findIn K (.ref C_NoText) "__getattr__" = some none)
  (cc_NoText:findIn K (.ref C_NoText) "__class__" = some (some (.builtin "object.__class__")))
  (cs_NoText:PySem.W.specialIn K (.builtin "object.__class__") "__get__" = some (some (.builtin "getset_descriptor.__get__")))
  (ct_NoText:PySem.W.takesIn K (.builtin "object.__class__")=some true)
  (cm_NoText:PySem.W.mroIn K C_NoText (.type "object")=some true)
  (cb_NoText:PySem.W.mroIn K C_NoText (.type "BaseException")=some true)
  (ciint_NoText:PySem.W.kitOne K (.ref C_NoText) (.type "int")=some false)
  (cibool_NoText:PySem.W.kitOne K (.ref C_NoText) (.type "bool")=some false)
  (cituple_NoText:PySem.W.kitOne K (.ref C_NoText) (.type "tuple")=some false)
  (cilist_NoText:PySem.W.kitOne K (.ref C_NoText) (.type "list")=some false)
  (cistr_NoText:PySem.W.kitOne K (.ref C_NoText) (.type "str")=some false)
  (cidict_NoText:PySem.W.kitOne K (.ref C_NoText) (.type "dict")=some false)
  {fa_0:Addr} {od_0 an_0:Option Addr} {sl_0:Array (Option Value)} {oc_0 kV_0 dc_0 pm_0 cd_0 ct_0:Value}
  (x_TooGreat___init__:findIn K (.ref C_TooGreat) "__init__" = some (some (.ref fa_0)))
  (l_0:K.lookup fa_0=some ⟨oc_0,od_0,.func (fnOf "__init__" "TooGreat.__init__" (q2m j4) (za j4) (qj j4) .none kV_0 dc_0 pm_0 an_0 cd_0 ct_0),sl_0⟩)
  (q_0:codeIn K cd_0 "TooGreat.__init__" = true) (k_0:keepIn K (.ref fa_0)=true)
  (ei_TooGreat:q03 K C_TooGreat fa_0=true)
  (tI_TooGreat:PySem.W.typeIn K (.ref fa_0)=some (.type "function"))
  (kp_TooGreat:keepIn K (.ref C_TooGreat)=true)
  (ga_TooGreat:findIn K (.ref C_TooGreat) "__getattribute__" = some (some (.builtin "BaseException.__getattribute__")))
  (gk_TooGreat:findIn K (.ref C_TooGreat) "__getattr__" = some none)
  (cc_TooGreat:findIn K (.ref C_TooGreat) "__class__" = some (some (.builtin "object.__class__")))
  (cs_TooGreat:PySem.W.specialIn K (.builtin "object.__class__") "__get__" = some (some (.builtin "getset_descriptor.__get__")))
  (ct_TooGreat:PySem.W.takesIn K (.builtin "object.__class__")=some true)
  (cm_TooGreat:PySem.W.mroIn K C_TooGreat (.type "object")=some true)
  (cb_TooGreat:PySem.W.mroIn K C_TooGreat (.type "BaseException")=some true)
  (ciint_TooGreat:PySem.W.kitOne K (.ref C_TooGreat) (.type "int")=some false)
  (cibool_TooGreat:PySem.W.kitOne K (.ref C_TooGreat) (.type "bool")=some false)
  (cituple_TooGreat:PySem.W.kitOne K (.ref C_TooGreat) (.type "tuple")=some false)
  (cilist_TooGreat:PySem.W.kitOne K (.ref C_TooGreat) (.type "list")=some false)
  (cistr_TooGreat:PySem.W.kitOne K (.ref C_TooGreat) (.type "str")=some false)
  (cidict_TooGreat:PySem.W.kitOne K (.ref C_TooGreat) (.type "dict")=some false)
  (tp_OftenError:PySem.W.typeIn K (.ref C_OftenError)=some (.type "type"))
  (ga_OftenError:findIn K (.ref C_OftenError) "__getattribute__" = some (some (.builtin "BaseException.__getattribute__")))
  (gk_OftenError:findIn K (.ref C_OftenError) "__getattr__" = some none)
  (cc_OftenError:findIn K (.ref C_OftenError) "__class__" = some (some (.builtin "object.__class__")))
  (cs_OftenError:PySem.W.specialIn K (.builtin "object.__class__") "__get__" = some (some (.builtin "getset_descriptor.__get__")))
  (ct_OftenError:PySem.W.takesIn K (.builtin "object.__class__")=some true)
  (cm_OftenError:PySem.W.mroIn K C_OftenError (.type "object")=some true)
  (cb_OftenError:PySem.W.mroIn K C_OftenError (.type "BaseException")=some true)
  (ciint_OftenError:PySem.W.kitOne K (.ref C_OftenError) (.type "int")=some false)
  (cibool_OftenError:PySem.W.kitOne K (.ref C_OftenError) (.type "bool")=some false)
  (cituple_OftenError:PySem.W.kitOne K (.ref C_OftenError) (.type "tuple")=some false)
  (cilist_OftenError:PySem.W.kitOne K (.ref C_OftenError) (.type "list")=some false)
  (cistr_OftenError:PySem.W.kitOne K (.ref C_OftenError) (.type "str")=some false)
  (cidict_OftenError:PySem.W.kitOne K (.ref C_OftenError) (.type "dict")=some false)
  (sa_TooGreat:findIn K (.ref C_TooGreat) "__setattr__" = some (some (.builtin "object.__setattr__")))
  (ov_TooGreat:qg1 K C_TooGreat=true)
  (na_TooGreat:findIn K (.ref C_TooGreat) "most" = some none)
  (hd_TooGreat:PySem.W.hasDictIn K C_TooGreat=true)
  (sp_OftenError:PySem.W.specialIn K (.ref C_OftenError) "__getattribute__" = some (some (.builtin "type.__getattribute__"))) (rd_OftenError:PySem.W.readsIn K C_OftenError (.type "type")=true) (fc_OftenError:PySem.W.findCls K (.ref C_OftenError) (.type "type") "__init__" = some (.val (.builtin "ValueError.__init__")))
  (mr_TooGreat_OftenError:PySem.W.mroIn K C_TooGreat (.ref C_OftenError)=some true)
  (mr_NoText_OftenError:PySem.W.mroIn K C_NoText (.ref C_OftenError)=some true)
  (kt_NoText_NoRun:PySem.W.kitOne K (.ref C_NoText) (.ref C_NoRun)=some false)
  (kt_NoText_NoShare:PySem.W.kitOne K (.ref C_NoText) (.ref C_NoShare)=some false)
  (kt_NoText_NoStore:PySem.W.kitOne K (.ref C_NoText) (.ref C_NoStore)=some false)
  (kt_NoText_NoTree:PySem.W.kitOne K (.ref C_NoText) (.ref C_NoTree)=some false)
  (kt_NoText_NotThere:PySem.W.kitOne K (.ref C_NoText) (.ref C_NotThere)=some false)
  (kt_NoText_NoText:PySem.W.kitOne K (.ref C_NoText) (.ref C_NoText)=some true)
  (kt_NoText_TooGreat:PySem.W.kitOne K (.ref C_NoText) (.ref C_TooGreat)=some false)
  (kt_NoText_ValueError:PySem.W.kitOne K (.ref C_NoText) (.type "ValueError")=some true)
  (kt_TooGreat_NoRun:PySem.W.kitOne K (.ref C_TooGreat) (.ref C_NoRun)=some false)
  (kt_TooGreat_NoShare:PySem.W.kitOne K (.ref C_TooGreat) (.ref C_NoShare)=some false)
  (kt_TooGreat_NoStore:PySem.W.kitOne K (.ref C_TooGreat) (.ref C_NoStore)=some false)
  (kt_TooGreat_NoTree:PySem.W.kitOne K (.ref C_TooGreat) (.ref C_NoTree)=some false)
  (kt_TooGreat_NotThere:PySem.W.kitOne K (.ref C_TooGreat) (.ref C_NotThere)=some false)
  (kt_TooGreat_NoText:PySem.W.kitOne K (.ref C_TooGreat) (.ref C_NoText)=some false)
  (kt_TooGreat_TooGreat:PySem.W.kitOne K (.ref C_TooGreat) (.ref C_TooGreat)=some true)
  (kt_TooGreat_ValueError:PySem.W.kitOne K (.ref C_TooGreat) (.type "ValueError")=some true)
  (z_range:nsIn K mainGlobals "range" = some none)
  (z_tuple:nsIn K mainGlobals "tuple" = some none)
  (z_len:nsIn K mainGlobals "len" = some none)
  (z_max:nsIn K mainGlobals "max" = some none)
  (z_min:nsIn K mainGlobals "min" = some none)
  (z_int:nsIn K mainGlobals "int" = some none)
  (z_all:nsIn K mainGlobals "all" = some none)
  (z_str:nsIn K mainGlobals "str" = some none)
  (z_set:nsIn K mainGlobals "set" = some none)
  (z_isinstance:nsIn K mainGlobals "isinstance" = some none)
  (z_sorted:nsIn K mainGlobals "sorted" = some none)
  (z_ValueError:nsIn K mainGlobals "ValueError" = some none)
  (z_bool:nsIn K mainGlobals "bool" = some none)
  {tk_FIGURES:Tok} (y_FIGURES:nsIn K mainGlobals "FIGURES" = some (some (.str "0123456789" tk_FIGURES)))
  {tk_SMALL_LETTERS:Tok} (y_SMALL_LETTERS:nsIn K mainGlobals "SMALL_LETTERS" = some (some (.str "abcdefghijklmnopqrstuvwxyz" tk_SMALL_LETTERS)))
  {tk_MOST_MANY:Tok} (y_MOST_MANY:nsIn K mainGlobals "MOST_MANY" = some (some (.int 1000000000000 tk_MOST_MANY)))
  {tk_LONGEST_NAME:Tok} (y_LONGEST_NAME:nsIn K mainGlobals "LONGEST_NAME" = some (some (.int 8 tk_LONGEST_NAME)))
  {tk_MOST_WARES:Tok} (y_MOST_WARES:nsIn K mainGlobals "MOST_WARES" = some (some (.int 12 tk_MOST_WARES)))
  {tk_MOST_RUNS:Tok} (y_MOST_RUNS:nsIn K mainGlobals "MOST_RUNS" = some (some (.int 200 tk_MOST_RUNS)))
  : ∃fd:FuncData,(∀(s:Shared) (v:Value),BindsTo s fd ⟨[v],[]⟩ [("_law_script",v)])/\∀base:Heap,K.In base->base.Ns mainGlobals mg->FnOk l.prog w K mg base CX0 8 fa fd ["_law_script"] (qb7 K):=by
 have k_14:=F_law_set.kp;have k_11:=F_law_power.kp;have k_13:=F_law_run.kp;have k_8:=F_law_mixed.kp;have k_10:=F_law_pile.kp;have k_9:=F_law_names.kp;have k_5:=F_law_bad_line.kp;have k_3:=F_is_many.kp;have k_2:=F_is_head.kp;have k_4:=F_is_name.kp;have k_1:=F_are_names.kp;have k_17:=F_line_read.kp;have k_18:=F_lines_of.kp;have k_19:=F_places_by_name.kp;have k_20:=F_read.kp;have k_16:=F_law_word.kp;have k_12:=F_law_refused.kp;have k_7:=F_law_great.kp;have k_6:=F_law_bounds.kp;have k_15:=F_law_spoiled.kp;have k_law:=F_law.kp;have m_NoText:=mg_of X G ns_NoText;have m_TooGreat:=mg_of X G ns_TooGreat;have m_OftenError:=mg_of X G ns_OftenError;have m_NoRun:=mg_of X G ns_NoRun;have m_NoShare:=mg_of X G ns_NoShare;have m_NoStore:=mg_of X G ns_NoStore;have m_NoTree:=mg_of X G ns_NoTree;have m_NotThere:=mg_of X G ns_NotThere;have cx_NoText:yk K C_NoText:=⟨⟨ga_NoText,gk_NoText,cc_NoText,cs_NoText,ct_NoText,cm_NoText,cb_NoText⟩,q9c ciint_NoText cibool_NoText cituple_NoText cilist_NoText cistr_NoText cidict_NoText⟩
 have F_TooGreat___init__:=qei (st:=j4) l_0 q_0 k_0;have cx_TooGreat:yk K C_TooGreat:=⟨⟨ga_TooGreat,gk_TooGreat,cc_TooGreat,cs_TooGreat,ct_TooGreat,cm_TooGreat,cb_TooGreat⟩,q9c ciint_TooGreat cibool_TooGreat cituple_TooGreat cilist_TooGreat cistr_TooGreat cidict_TooGreat⟩
 have cx_OftenError:yk K C_OftenError:=⟨⟨ga_OftenError,gk_OftenError,cc_OftenError,cs_OftenError,ct_OftenError,cm_OftenError,cb_OftenError⟩,q9c ciint_OftenError cibool_OftenError cituple_OftenError cilist_OftenError cistr_OftenError cidict_OftenError⟩
 have ci_TooGreat:ClsI K C_TooGreat "most" :=⟨sa_TooGreat,ov_TooGreat,na_TooGreat,hd_TooGreat⟩
 have n_range:=mg_none_of X G z_range;have n_tuple:=mg_none_of X G z_tuple;have n_len:=mg_none_of X G z_len;have n_max:=mg_none_of X G z_max;have n_min:=mg_none_of X G z_min;have n_int:=mg_none_of X G z_int;have n_all:=mg_none_of X G z_all;have n_str:=mg_none_of X G z_str;have n_set:=mg_none_of X G z_set;have n_isinstance:=mg_none_of X G z_isinstance;have n_sorted:=mg_none_of X G z_sorted;have n_ValueError:=mg_none_of X G z_ValueError;have n_bool:=mg_none_of X G z_bool;have gs_FIGURES:∃t,mg "FIGURES" = some (.str "0123456789" t):=⟨_,mg_of X G y_FIGURES⟩
 have gs_SMALL_LETTERS:∃t,mg "SMALL_LETTERS" = some (.str "abcdefghijklmnopqrstuvwxyz" t):=⟨_,mg_of X G y_SMALL_LETTERS⟩
 have g_MOST_MANY:∃t,mg "MOST_MANY" = some (.int 1000000000000 t):=⟨_,mg_of X G y_MOST_MANY⟩
 have g_LONGEST_NAME:∃t,mg "LONGEST_NAME" = some (.int 8 t):=⟨_,mg_of X G y_LONGEST_NAME⟩
 have g_MOST_WARES:∃t,mg "MOST_WARES" = some (.int 12 t):=⟨_,mg_of X G y_MOST_WARES⟩
 have g_MOST_RUNS:∃t,mg "MOST_RUNS" = some (.int 200 t):=⟨_,mg_of X G y_MOST_RUNS⟩
 have e:=hfa.symm.trans (mg_of X G x_law);cases e;have b_14:Binds K _ ["_law_mark"] []:=F_law_set.bindsTo (P:=fun fd=>Binds K fd ["_law_mark"] []) fun _ _ _ _ _ _ s us hk hl=>ln1 (fun _=>.of_eq rfl) us hl;have b_11:Binds K _ ["_law_many"] []:=F_law_power.bindsTo (P:=fun fd=>Binds K fd ["_law_many"] []) fun _ _ _ _ _ _ s us hk hl=>ln1 (fun _=>.of_eq rfl) us hl;have b_13:Binds K _ ["_law_number","_law_wares","_law_most"] []:=F_law_run.bindsTo (P:=fun fd=>Binds K fd ["_law_number","_law_wares","_law_most"] []) fun _ _ _ _ _ _ s us hk hl=>ln3 (fun _ _ _=>.of_eq rfl) us hl;have b_8:Binds K _ ["_law_script","_law_k"] []:=F_law_mixed.bindsTo (P:=fun fd=>Binds K fd ["_law_script","_law_k"] []) fun _ _ _ _ _ _ s us hk hl=>ln2 (fun _ _=>.of_eq rfl) us hl;have b_10:Binds K _ ["_law_script","_law_most_wares"] []:=F_law_pile.bindsTo (P:=fun fd=>Binds K fd ["_law_script","_law_most_wares"] []) fun _ _ _ _ _ _ s us hk hl=>ln2 (fun _ _=>.of_eq rfl) us hl;have b_9:Binds K _ ["_law_script","_law_letters","_law_many"] []:=F_law_names.bindsTo (P:=fun fd=>Binds K fd ["_law_script","_law_letters","_law_many"] []) fun _ _ _ _ _ _ s us hk hl=>ln3 (fun _ _ _=>.of_eq rfl) us hl;have b_5:Binds K _ ["_law_number"] []:=F_law_bad_line.bindsTo (P:=fun fd=>Binds K fd ["_law_number"] []) fun _ _ _ _ _ _ s us hk hl=>ln1 (fun _=>.of_eq rfl) us hl;have b_3:Binds K _ ["word"] []:=F_is_many.bindsTo (P:=fun fd=>Binds K fd ["word"] []) fun _ _ _ _ _ _ s us hk hl=>ln1 (fun _=>.of_eq rfl) us hl;have b_2:Binds K _ ["word"] []:=F_is_head.bindsTo (P:=fun fd=>Binds K fd ["word"] []) fun _ _ _ _ _ _ s us hk hl=>ln1 (fun _=>.of_eq rfl) us hl;have b_4:Binds K _ ["word"] []:=F_is_name.bindsTo (P:=fun fd=>Binds K fd ["word"] []) fun _ _ _ _ _ _ s us hk hl=>ln1 (fun _=>.of_eq rfl) us hl;have b_1:Binds K _ ["words"] []:=F_are_names.bindsTo (P:=fun fd=>Binds K fd ["words"] []) fun _ _ _ _ _ _ s us hk hl=>ln1 (fun _=>.of_eq rfl) us hl;have b_17:Binds K _ ["line"] []:=F_line_read.bindsTo (P:=fun fd=>Binds K fd ["line"] []) fun _ _ _ _ _ _ s us hk hl=>ln1 (fun _=>.of_eq rfl) us hl;have b_18:Binds K _ ["text"] []:=F_lines_of.bindsTo (P:=fun fd=>Binds K fd ["text"] []) fun _ _ _ _ _ _ s us hk hl=>ln1 (fun _=>.of_eq rfl) us hl;have b_19:Binds K _ ["lines"] []:=F_places_by_name.bindsTo (P:=fun fd=>Binds K fd ["lines"] []) fun _ _ _ _ _ _ s us hk hl=>ln1 (fun _=>.of_eq rfl) us hl;have b_20:Binds K _ ["text"] []:=F_read.bindsTo (P:=fun fd=>Binds K fd ["text"] []) fun _ _ _ _ _ _ s us hk hl=>ln1 (fun _=>.of_eq rfl) us hl;have b_16:Binds K _ ["_law_e"] []:=F_law_word.bindsTo (P:=fun fd=>Binds K fd ["_law_e"] []) fun _ _ _ _ _ _ s us hk hl=>ln1 (fun _=>.of_eq rfl) us hl;have b_12:Binds K _ ["_law_thing"] []:=F_law_refused.bindsTo (P:=fun fd=>Binds K fd ["_law_thing"] []) fun _ _ _ _ _ _ s us hk hl=>ln1 (fun _=>.of_eq rfl) us hl;have b_7:Binds K _ ["_law_many","_law_lines"] []:=F_law_great.bindsTo (P:=fun fd=>Binds K fd ["_law_many","_law_lines"] []) fun _ _ _ _ _ _ s us hk hl=>ln2 (fun _ _=>.of_eq rfl) us hl;have b_6:Binds K _ ["_law_script","_law_bad"] []:=F_law_bounds.bindsTo (P:=fun fd=>Binds K fd ["_law_script","_law_bad"] []) fun _ _ _ _ _ _ s us hk hl=>ln2 (fun _ _=>.of_eq rfl) us hl;have b_15:Binds K _ ["_law_text","_law_number"] []:=F_law_spoiled.bindsTo (P:=fun fd=>Binds K fd ["_law_text","_law_number"] []) fun _ _ _ _ _ _ s us hk hl=>ln2 (fun _ _=>.of_eq rfl) us hl;refine⟨_,F_law.bindsTo (P:=fun fd=>∀(s:Shared) (v:Value),BindsTo s fd ⟨[v],[]⟩ [("_law_script",v)]) (fun _ _ _ _ _ _ s v=>.of_eq rfl),fun base _ _=>?_⟩;have gI_TooGreat:=q4v (P:=l.prog) (w:=w) (mg:=mg) (base:=base) F_TooGreat___init__ m_OftenError sp_OftenError rd_OftenError fc_OftenError ei_TooGreat ci_TooGreat;have bI_TooGreat:Binds K _ ["self","most"] []:=F_TooGreat___init__.bindsTo (P:=fun fd=>Binds K fd ["self","most"] []) fun _ _ _ _ _ _ s us hk hl=>ln2 (fun _ _=>.of_eq rfl) us hl;have o_14:=qg8 (P:=l.prog) (w:=w) (mg:=mg) (base:=base) F_law_set n_range n_tuple;have c_14:=Cal.mk o_14 (mg_of X G x_law_set) k_14;have o_11:=qcm (P:=l.prog) (w:=w) (mg:=mg) (base:=base) F_law_power;have c_11:=Cal.mk o_11 (mg_of X G x_law_power) k_11;have o_13:=qgb (P:=l.prog) (w:=w) (mg:=mg) (base:=base) F_law_run c_14 b_14 c_11 b_11;have c_13:=Cal.mk o_13 (mg_of X G x_law_run) k_13;have o_8:=qco (P:=l.prog) (w:=w) (mg:=mg) (base:=base) F_law_mixed n_len;have c_8:=Cal.mk o_8 (mg_of X G x_law_mixed) k_8;have o_10:=qdx (P:=l.prog) (w:=w) (mg:=mg) (base:=base) F_law_pile c_13 b_13 c_8 b_8 n_range n_len n_tuple;have c_10:=Cal.mk o_10 (mg_of X G x_law_pile) k_10;have o_9:=qcq (P:=l.prog) (w:=w) (mg:=mg) (base:=base) F_law_names c_8 b_8 n_range n_max n_min;have c_9:=Cal.mk o_9 (mg_of X G x_law_names) k_9;have o_5:=q8k (P:=l.prog) (w:=w) (mg:=mg) (base:=base) F_law_bad_line n_len;have c_5:=Cal.mk o_5 (mg_of X G x_law_bad_line) k_5;have o_3:=qge (P:=l.prog) (w:=w) (mg:=mg) (base:=base) F_is_many n_int n_len n_all n_str g_MOST_MANY gs_FIGURES;have c_3:=Cal.mk o_3 (mg_of X G x_is_many) k_3;have o_2:=qgh (P:=l.prog) (w:=w) (mg:=mg) (base:=base) F_is_head c_3 b_3;have c_2:=Cal.mk o_2 (mg_of X G x_is_head) k_2;have o_4:=qgk (P:=l.prog) (w:=w) (mg:=mg) (base:=base) F_is_name n_all n_len g_LONGEST_NAME gs_SMALL_LETTERS;have c_4:=Cal.mk o_4 (mg_of X G x_is_name) k_4;have o_1:=qcv (P:=l.prog) (w:=w) (mg:=mg) (base:=base) F_are_names c_4 b_4 n_all n_len n_set;have c_1:=Cal.mk o_1 (mg_of X G x_are_names) k_1;have o_17:=qcw (P:=l.prog) (w:=w) (mg:=mg) (base:=base) F_line_read c_2 b_2 c_1 b_1 n_int;have c_17:=Cal.mk o_17 (mg_of X G x_line_read) k_17;have gr_line_read:=qaz (P:=l.prog) (w:=w) (mg:=mg) (base:=base) F_line_read c_2 b_2 c_1 b_1 n_int e_NoText m_NoText ns_NoText;have o_18:=qdz (P:=l.prog) (w:=w) (mg:=mg) (base:=base) F_lines_of c_17 b_17 n_isinstance n_str;have c_18:=Cal.mk o_18 (mg_of X G x_lines_of) k_18;have gr_lines_of:=qcy (P:=l.prog) (w:=w) (mg:=mg) (base:=base) F_lines_of c_17 b_17 n_isinstance n_str gr_line_read e_NoText m_NoText ns_NoText;have o_19:=q6w (P:=l.prog) (w:=w) (mg:=mg) (base:=base) F_places_by_name n_len;have c_19:=Cal.mk o_19 (mg_of X G x_places_by_name) k_19;have o_20:=qmy (P:=l.prog) (w:=w) (mg:=mg) (base:=base) F_read c_18 b_18 c_19 b_19 n_len n_tuple n_sorted g_MOST_WARES g_MOST_RUNS;have c_20:=Cal.mk o_20 (mg_of X G x_read) k_20;have gr_read:=qkh (P:=l.prog) (w:=w) (mg:=mg) (base:=base) F_read c_18 b_18 c_19 b_19 n_len n_tuple n_sorted g_MOST_WARES g_MOST_RUNS gr_lines_of ei_TooGreat gI_TooGreat bI_TooGreat tI_TooGreat kp_TooGreat m_TooGreat ns_TooGreat;have o_16:=qe1 (P:=l.prog) (w:=w) (mg:=mg) (base:=base) F_law_word ns_NoText cx_NoText m_NoText ns_TooGreat cx_TooGreat m_TooGreat ci_TooGreat m_NoRun kt_NoText_NoRun m_NoShare kt_NoText_NoShare m_NoStore kt_NoText_NoStore m_NoTree kt_NoText_NoTree m_NotThere kt_NoText_NotThere kt_NoText_NoText kt_NoText_TooGreat kt_NoText_ValueError kt_TooGreat_NoRun kt_TooGreat_NoShare kt_TooGreat_NoStore kt_TooGreat_NoTree kt_TooGreat_NotThere kt_TooGreat_NoText kt_TooGreat_TooGreat kt_TooGreat_ValueError n_isinstance n_ValueError n_int n_bool;have c_16:=Cal.mk o_16 (mg_of X G x_law_word) k_16;have cH__law_word:=qd0 (P:=l.prog) (w:=w) (mg:=mg) (base:=base) F_law_word (mg_of X G x_law_word) ns_NoText cx_NoText m_NoText ns_TooGreat cx_TooGreat m_TooGreat ci_TooGreat m_NoRun kt_NoText_NoRun m_NoShare kt_NoText_NoShare m_NoStore kt_NoText_NoStore m_NoTree kt_NoText_NoTree m_NotThere kt_NoText_NotThere kt_NoText_NoText kt_NoText_TooGreat kt_NoText_ValueError kt_TooGreat_NoRun kt_TooGreat_NoShare kt_TooGreat_NoStore kt_TooGreat_NoTree kt_TooGreat_NotThere kt_TooGreat_NoText kt_TooGreat_TooGreat kt_TooGreat_ValueError n_isinstance n_ValueError n_int n_bool;have o_12:=q9p (P:=l.prog) (w:=w) (mg:=mg) (base:=base) F_law_refused c_20 b_20 c_16 b_16 ns_NoText cx_NoText m_NoText ns_OftenError cx_OftenError m_OftenError ns_TooGreat cx_TooGreat m_TooGreat tp_OftenError mr_TooGreat_OftenError mr_NoText_OftenError gr_read cH__law_word;have c_12:=Cal.mk o_12 (mg_of X G x_law_refused) k_12;have o_7:=qd2 (P:=l.prog) (w:=w) (mg:=mg) (base:=base) F_law_great n_range;have c_7:=Cal.mk o_7 (mg_of X G x_law_great) k_7;have o_6:=qb3 (P:=l.prog) (w:=w) (mg:=mg) (base:=base) F_law_bounds c_7 b_7 c_12 b_12 c_8 b_8;have c_6:=Cal.mk o_6 (mg_of X G x_law_bounds) k_6;have o_15:=q9r (P:=l.prog) (w:=w) (mg:=mg) (base:=base) F_law_spoiled n_len n_range;have c_15:=Cal.mk o_15 (mg_of X G x_law_spoiled) k_15;exact qoq (qph (P:=l.prog) (w:=w) (mg:=mg) (base:=base) F_law c_10 b_10 c_9 b_9 c_5 b_5 c_12 b_12 c_8 b_8 c_6 b_6 c_15 b_15 c_20 b_20 n_range n_len n_str) hm
end My
namespace PySem.W.Fast
theorem tw12848932813387328250 : True := trivial
theorem tw6680048066074296182 : True := trivial
theorem tw5430463905875440987 : True := trivial
theorem tw1706885730845842767 : True := trivial
theorem tw4754812158811548630 : True := trivial
theorem tw3462713454999200107 : True := trivial
theorem tw1231461770990517279 : True := trivial
theorem tw7239370278036266495 : True := trivial
theorem tw13786806516395454772 : True := trivial
theorem tw11145100294953978584 : True := trivial
theorem tw9248594352787747175 : True := trivial
theorem tw7878213610207500168 : True := trivial
theorem tw8442593532076623690 : True := trivial
theorem tw17913021768547733789 : True := trivial
theorem tw10114368244797529598 : True := trivial
theorem tw14881877559054856029 : True := trivial
theorem tw11977670502300425719 : True := trivial
theorem tw11164599691824354231 : True := trivial
theorem tw9462244428408931745 : True := trivial
theorem tw1386536560285394110 : True := trivial
theorem tw2022275544690746021 : True := trivial
theorem tw322469887095459923 : True := trivial
theorem tw4087667638054739839 : True := trivial
theorem tw1071287247731871052 : True := trivial
theorem tw13426301208017860998 : True := trivial
theorem tw5983440231492686508 : True := trivial
theorem tw11392890122745940720 : True := trivial
end PySem.W.Fast
open PySem PySem.W PyProof.Rows
local macro_rules | `(tactic| walk_at "F")=> `(tactic| (letI:DL.Lam:=⟨[]⟩;exact DL.qei (by k_is) (by k_is) (by k_is)))
set_option maxHeartbeats 0 in
theorem PySem.Challenge.cw_oftentogether_k73_no_text_holds : PySem.Challenge.rw_oftentogether_k73_no_text.Holds := by
 w_on;o_law;k_head;(case hw=>w_witness2)
 k_fill
 letI:DL.Lam:=⟨[]⟩
 refine DL.qor rfl (l:=PySem.Challenge.rw_oftentogether_k73_no_text) (k:=8) (x:="_law_script") rfl rfl ⟨rfl,by decide,by decide⟩ (fun w h Y=>PySem.W.kIn_of Y) ?F
 case F=>
  intro w mg fa h KX G hmg;refine' My.all_mk KX G hmg My.ql2 ?x_law_set ?F_law_set ?x_law_power ?F_law_power ?x_law_run ?F_law_run ?x_law_mixed ?F_law_mixed ?x_law_pile ?F_law_pile ?x_law_names ?F_law_names ?x_law_bad_line ?F_law_bad_line ?x_is_many ?F_is_many ?x_is_head ?F_is_head ?x_is_name ?F_is_name ?x_are_names ?F_are_names ?x_line_read ?F_line_read ?x_lines_of ?F_lines_of ?x_places_by_name ?F_places_by_name ?x_read ?F_read ?x_law_word ?F_law_word ?x_law_refused ?F_law_refused ?x_law_great ?F_law_great ?x_law_bounds ?F_law_bounds ?x_law_spoiled ?F_law_spoiled ?x_law ?F_law ?ns_NoText ?ns_TooGreat ?ns_OftenError ?ns_NoRun ?ns_NoShare ?ns_NoStore ?ns_NoTree ?ns_NotThere ?e_NoText ?ga_NoText ?gk_NoText ?cc_NoText ?cs_NoText ?ct_NoText ?cm_NoText ?cb_NoText ?ciint_NoText ?cibool_NoText ?cituple_NoText ?cilist_NoText ?cistr_NoText ?cidict_NoText ?x_TooGreat___init__ ?l_0 ?q_0 ?k_0 ?ei_TooGreat ?tI_TooGreat ?kp_TooGreat ?ga_TooGreat ?gk_TooGreat ?cc_TooGreat ?cs_TooGreat ?ct_TooGreat ?cm_TooGreat ?cb_TooGreat ?ciint_TooGreat ?cibool_TooGreat ?cituple_TooGreat ?cilist_TooGreat ?cistr_TooGreat ?cidict_TooGreat ?tp_OftenError ?ga_OftenError ?gk_OftenError ?cc_OftenError ?cs_OftenError ?ct_OftenError ?cm_OftenError ?cb_OftenError ?ciint_OftenError ?cibool_OftenError ?cituple_OftenError ?cilist_OftenError ?cistr_OftenError ?cidict_OftenError ?sa_TooGreat ?ov_TooGreat ?na_TooGreat ?hd_TooGreat ?sp_OftenError ?rd_OftenError ?fc_OftenError ?mr_TooGreat_OftenError ?mr_NoText_OftenError ?kt_NoText_NoRun ?kt_NoText_NoShare ?kt_NoText_NoStore ?kt_NoText_NoTree ?kt_NoText_NotThere ?kt_NoText_NoText ?kt_NoText_TooGreat ?kt_NoText_ValueError ?kt_TooGreat_NoRun ?kt_TooGreat_NoShare ?kt_TooGreat_NoStore ?kt_TooGreat_NoTree ?kt_TooGreat_NotThere ?kt_TooGreat_NoText ?kt_TooGreat_TooGreat ?kt_TooGreat_ValueError ?z_range ?z_tuple ?z_len ?z_max ?z_min ?z_int ?z_all ?z_str ?z_set ?z_isinstance ?z_sorted ?z_ValueError ?z_bool ?y_FIGURES ?y_SMALL_LETTERS ?y_MOST_MANY ?y_LONGEST_NAME ?y_MOST_WARES ?y_MOST_RUNS
  (case x_law_set=>k_is)
  (case F_law_set=>walk_at "F")
  (case x_law_power=>k_is)
  (case F_law_power=>walk_at "F")
  (case x_law_run=>k_is)
  (case F_law_run=>walk_at "F")
  (case x_law_mixed=>k_is)
  (case F_law_mixed=>walk_at "F")
  (case x_law_pile=>k_is)
  (case F_law_pile=>walk_at "F")
  (case x_law_names=>k_is)
  (case F_law_names=>walk_at "F")
  (case x_law_bad_line=>k_is)
  (case F_law_bad_line=>walk_at "F")
  (case x_is_many=>k_is)
  (case F_is_many=>walk_at "F")
  (case x_is_head=>k_is)
  (case F_is_head=>walk_at "F")
  (case x_is_name=>k_is)
  (case F_is_name=>walk_at "F")
  (case x_are_names=>k_is)
  (case F_are_names=>walk_at "F")
  (case x_line_read=>k_is)
  (case F_line_read=>walk_at "F")
  (case x_lines_of=>k_is)
  (case F_lines_of=>walk_at "F")
  (case x_places_by_name=>k_is)
  (case F_places_by_name=>walk_at "F")
  (case x_read=>k_is)
  (case F_read=>walk_at "F")
  (case x_law_word=>k_is)
  (case F_law_word=>walk_at "F")
  (case x_law_refused=>k_is)
  (case F_law_refused=>walk_at "F")
  (case x_law_great=>k_is)
  (case F_law_great=>walk_at "F")
  (case x_law_bounds=>k_is)
  (case F_law_bounds=>walk_at "F")
  (case x_law_spoiled=>k_is)
  (case F_law_spoiled=>walk_at "F")
  (case x_law=>k_is)
  (case F_law=>walk_at "F")
  (case ns_NoText=>k_is)
  (case ns_TooGreat=>k_is)
  (case ns_OftenError=>k_is)
  (case ns_NoRun=>k_is)
  (case ns_NoShare=>k_is)
  (case ns_NoStore=>k_is)
  (case ns_NoTree=>k_is)
  (case ns_NotThere=>k_is)
  (case e_NoText=>first|kernel_rfl|rfl)
  (case ga_NoText=>k_is)
  (case gk_NoText=>k_is)
  (case cc_NoText=>k_is)
  (case cs_NoText=>k_is)
  (case ct_NoText=>k_is)
  (case cm_NoText=>k_is)
  (case cb_NoText=>k_is)
  (case ciint_NoText=>first|kernel_rfl|rfl)
  (case cibool_NoText=>first|kernel_rfl|rfl)
  (case cituple_NoText=>first|kernel_rfl|rfl)
  (case cilist_NoText=>first|kernel_rfl|rfl)
  (case cistr_NoText=>first|kernel_rfl|rfl)
  (case cidict_NoText=>first|kernel_rfl|rfl)
  (case x_TooGreat___init__=>k_is)
  (case l_0=>k_is)
  (case q_0=>k_is)
  (case k_0=>k_is)
  (case ei_TooGreat=>first|kernel_rfl|rfl)
  (case tI_TooGreat=>k_is)
  (case kp_TooGreat=>k_is)
  (case ga_TooGreat=>k_is)
  (case gk_TooGreat=>k_is)
  (case cc_TooGreat=>k_is)
  (case cs_TooGreat=>k_is)
  (case ct_TooGreat=>k_is)
  (case cm_TooGreat=>k_is)
  (case cb_TooGreat=>k_is)
  (case ciint_TooGreat=>first|kernel_rfl|rfl)
  (case cibool_TooGreat=>first|kernel_rfl|rfl)
  (case cituple_TooGreat=>first|kernel_rfl|rfl)
  (case cilist_TooGreat=>first|kernel_rfl|rfl)
  (case cistr_TooGreat=>first|kernel_rfl|rfl)
  (case cidict_TooGreat=>first|kernel_rfl|rfl)
  (case tp_OftenError=>first|k_is|kernel_rfl|rfl)
  (case ga_OftenError=>k_is)
  (case gk_OftenError=>k_is)
  (case cc_OftenError=>k_is)
  (case cs_OftenError=>k_is)
  (case ct_OftenError=>k_is)
  (case cm_OftenError=>k_is)
  (case cb_OftenError=>k_is)
  (case ciint_OftenError=>first|kernel_rfl|rfl)
  (case cibool_OftenError=>first|kernel_rfl|rfl)
  (case cituple_OftenError=>first|kernel_rfl|rfl)
  (case cilist_OftenError=>first|kernel_rfl|rfl)
  (case cistr_OftenError=>first|kernel_rfl|rfl)
  (case cidict_OftenError=>first|kernel_rfl|rfl)
  (case sa_TooGreat=>k_is)
  (case ov_TooGreat=>first|kernel_rfl|rfl)
  (case na_TooGreat=>k_is)
  (case hd_TooGreat=>k_is)
  (case sp_OftenError=>k_is)
  (case rd_OftenError=>k_is)
  (case fc_OftenError=>k_is)
  (case mr_TooGreat_OftenError=>first|k_is|kernel_rfl|rfl)
  (case mr_NoText_OftenError=>first|k_is|kernel_rfl|rfl)
  (case kt_NoText_NoRun=>first|kernel_rfl|rfl)
  (case kt_NoText_NoShare=>first|kernel_rfl|rfl)
  (case kt_NoText_NoStore=>first|kernel_rfl|rfl)
  (case kt_NoText_NoTree=>first|kernel_rfl|rfl)
  (case kt_NoText_NotThere=>first|kernel_rfl|rfl)
  (case kt_NoText_NoText=>first|kernel_rfl|rfl)
  (case kt_NoText_TooGreat=>first|kernel_rfl|rfl)
  (case kt_NoText_ValueError=>first|kernel_rfl|rfl)
  (case kt_TooGreat_NoRun=>first|kernel_rfl|rfl)
  (case kt_TooGreat_NoShare=>first|kernel_rfl|rfl)
  (case kt_TooGreat_NoStore=>first|kernel_rfl|rfl)
  (case kt_TooGreat_NoTree=>first|kernel_rfl|rfl)
  (case kt_TooGreat_NotThere=>first|kernel_rfl|rfl)
  (case kt_TooGreat_NoText=>first|kernel_rfl|rfl)
  (case kt_TooGreat_TooGreat=>first|kernel_rfl|rfl)
  (case kt_TooGreat_ValueError=>first|kernel_rfl|rfl)
  (case z_range=>k_is)
  (case z_tuple=>k_is)
  (case z_len=>k_is)
  (case z_max=>k_is)
  (case z_min=>k_is)
  (case z_int=>k_is)
  (case z_all=>k_is)
  (case z_str=>k_is)
  (case z_set=>k_is)
  (case z_isinstance=>k_is)
  (case z_sorted=>k_is)
  (case z_ValueError=>k_is)
  (case z_bool=>k_is)
  (case y_FIGURES=>k_is)
  (case y_SMALL_LETTERS=>k_is)
  (case y_MOST_MANY=>k_is)
  (case y_LONGEST_NAME=>k_is)
  (case y_MOST_WARES=>k_is)
  (case y_MOST_RUNS=>k_is)
