import PyProof.Rows.All
import Wide.All
import OpenK.AllK
import Wide.FinOn
import Lean
import PyProof.EqAt
import PyProof.EqKinds
import PyProof.TupleCall
import PyProof.AutoSeq1
import PyProof.NeKinds
import PyProof.ListRange
import PyProof.CollectIter
import PyProof.TupleOfGen
import PyProof.StationsW
import PyProof.Rows.Catch
import PySem.Challenge.RW_oftentogether_k43_store_refused
set_option maxRecDepth 100000
set_option maxHeartbeats 4000000
set_option Elab.async false
set_option linter.all false
abbrev g6:=@Option.bind_eq_some_iff
abbrev g9:=@PySem.wpAny_bind
abbrev gb:=@Option.bind_some
abbrev gc:=@PySem.Heap.get?_push_of_some
abbrev gf:=@List.getElem?_set_ne
abbrev gh:=@PySem.wpAny_pure
abbrev gi:=@Option.map_eq_some_iff
abbrev gj:=@List.size_toArray
abbrev gp:=@Bool.false_ne_true
abbrev gq:=@PySem.Heap.lt_size
abbrev gr:=@if_pos
abbrev gs:=@List.mem_cons_self
abbrev gu:=@Ne.symm
abbrev gv:=@Nat.le_refl
abbrev gw:=@List.mem_cons_of_mem
abbrev gx:=@Option.map_some
abbrev gy:=@if_neg
abbrev gz:=@decide_eq_false
abbrev m3:=@List.length_cons
abbrev m4:=@PySem.Heap.get?_push_size
abbrev m5:=@List.mem_cons
abbrev m6:=@List.length_map
abbrev m7:=@decide_eq_true
abbrev m8:=@Nat.lt_of_lt_of_le
abbrev m9:=@List.map_cons
abbrev ma:=@Nat.ne_of_lt
abbrev md:=@List.getElem?_map
abbrev mf:=@List.lookup_cons
abbrev mh:=@Bool.and_eq_true
abbrev mi:=@Option.some.inj
abbrev mj:=@Nat.le_trans
abbrev ml:=@Int.emod_lt_of_pos
abbrev mm:=@List.getElem?_append_left
abbrev mn:=@List.append_nil
abbrev mq:=@Int.emod_nonneg
abbrev mr:=@PySem.Heap.get?_update_other
abbrev mv:=@List.length_append
abbrev mw:=@PySem.wpAny_mono
abbrev mx:=@List.mem_append_right
abbrev my:=@PySem.wpAny_field
abbrev mz:=@List.not_mem_nil
abbrev n8:=@List.getElem?_eq_some_iff
abbrev n9:=@PyProof.Rows.callWith_type1
abbrev ng:=@PyProof.Rows.slot_tuple_getitem
abbrev nh:=@List.getElem?_append_right
abbrev ni:=@List.length_set
abbrev nj:=@List.length_nil
abbrev nk:=@beq_iff_eq
abbrev nq:=@PySem.wpAny_newObj_type
abbrev nr:=@PySem.AutoSeq1.wpAny_loadPart'
abbrev nt:=@List.getElem?_replicate
abbrev nu:=@Array.getElem?_eq_some_iff
abbrev nv:=@or_false
abbrev ny:=@PySem.PassesOwn.never
abbrev p5:=@if_true
abbrev p6:=@PySem.wpAny_callSpecial?_slot
abbrev p7:=@Bool.false_eq_true
abbrev p8:=@List.mem_singleton
abbrev p9:=@PySem.sizeLine_eq
abbrev pb:=@Nat.not_lt_zero
abbrev pd:=@Nat.lt_irrefl
abbrev pe:=@List.pairwise_singleton
abbrev pf:=@beq_eq_false_iff_ne
abbrev ph:=@List.replicate_succ
abbrev pj:=@Bool.false_and
abbrev pk:=@PySem.Heap.size_push
abbrev pq:=@beq_self_eq_true
abbrev pw:=@PySem.wpAny_seqItems
abbrev pz:=@PySem.W.Looks.here
abbrev t4:=@PySem.wpAny_Call_Name_kw
abbrev t5:=@PySem.W.callWith_K
abbrev t6:=@PySem.F.attrBase_ValueError
abbrev t7:=@PySem.Obj.data_mapFields
abbrev t8:=@PySem.wpAny_setField_rec
abbrev t9:=@List.map_map
abbrev td:=@PySem.Heap.get?_update_self
abbrev tf:=@congrArg
abbrev tj:=@PySem.wpAny_holding
abbrev tq:=@PySem.F.slot_tuple_iterator_next
abbrev tw:=@PySem.F.excBase_ValueError
abbrev tx:=@Bool.and_self
abbrev u0:=@PySem.wpAny_truthy_bool
abbrev u6:=@of_decide_eq_true
abbrev u9:=@PySem.Heap.get?_none_of_le
abbrev ua:=@PySem.wpAny_call
abbrev uc:=@PySem.codeAny_call_builtin
abbrev ud:=@Bool.and_false
abbrev ue:=@Option.isSome_iff_exists
abbrev uf:=@List.length_take
abbrev ug:=@PySem.wpAny_call_entry
abbrev uh:=@List.mem_nil_iff
abbrev ui:=@Array.length_toList
abbrev uj:=@PySem.mem_of_lookup
abbrev uk:=@List.getElem?_cons_succ
abbrev um:=@List.getElem?_set
abbrev uo:=@List.flatten_cons
abbrev uq:=@PySem.wpAny_loadPart_at
abbrev ur:=@Nat.ne_of_gt
abbrev uu:=@PySem.codeAny_mono
abbrev uv:=@PySem.W.methodCall_KW
abbrev uw:=@List.cons.sizeOf_spec
abbrev ux:=@PySem.wpAny_setField
abbrev uy:=@PySem.Obj.isFreed_of_fields
abbrev uz:=@PySem.wpAny_execs_cons
abbrev g00:=@Nat.lt_succ_self
abbrev g01:=@if_false
abbrev g02:=@PySem.F.slot_tuple_mul
abbrev g03:=@PySem.BindsTo.of_defaults
abbrev g04:=@PySem.wpAny_passesOwn
abbrev g05:=@Bool.eq_iff_iff
abbrev g06:=@List.forIn_cons
abbrev g07:=@Option.isNone_iff_eq_none
abbrev g08:=@List.map_append
abbrev g09:=@PySem.Calls.Constant_str
abbrev g0a:=@PySem.Calls.spliced_cons
abbrev g0b:=@PySem.F.args_tuple_add_2
abbrev g0c:=@PySem.AutoSeq1.sub_tuple_tuple
abbrev g0d:=@Int.sub_zero
abbrev g0e:=@Option.some_or
abbrev g0f:=@PySem.F.entry_tuple_add
abbrev g0g:=@PySem.Calls.spliced_nil
abbrev g0h:=@Int.toNat_natCast
abbrev g0i:=@List.append_assoc
abbrev g0j:=@List.length_range
abbrev g0k:=@PySem.F.slot_tuple_add
abbrev g0l:=@List.range_succ_eq_map
abbrev g0m:=@PySem.wpAny_attempt
abbrev g0n:=@Option.join_some
abbrev g0o:=@List.length_replicate
abbrev g0p:=@PySem.plainObj_wpAny_Assign_Attribute
abbrev g0q:=@List.mem_filter
abbrev g0r:=@List.mem_append_left
abbrev g0s:=@PySem.wpAny_execs_nil
abbrev g0t:=@List.nodup_cons
abbrev g0u:=@PyProof.Rows.callWith_builtin1
abbrev g0v:=@PySem.wpAny_typeOf
abbrev g0w:=@PySem.codeAny_builtin
abbrev g0x:=@Bool.or_eq_true
abbrev g0y:=@PySem.W.kia_one
abbrev g0z:=@PySem.wpAny_rule
abbrev g10:=@PySem.wpAny_updateSeq_pair
abbrev g11:=@PySem.F.slot_zip_next
abbrev g12:=@PySem.wpAny_ite_false
abbrev g13:=@PySem.Around.under_plainId
abbrev g14:=@List.eq_nil_of_length_eq_zero
abbrev g15:=@List.filterMap_cons
abbrev g16:=@PySem.W.plainGet_of
abbrev g17:=@List.length_zipWith
abbrev g18:=@List.map_congr_left
abbrev g19:=@PySem.wpAny_loadPart
abbrev g1a:=@PySem.F.args_tuple_iterator_next_1
abbrev g1b:=@Option.none_or
abbrev g1c:=@Nat.zero_le
abbrev g1d:=@Int.le_refl
abbrev g1e:=@Array.append_assoc
abbrev g1f:=@List.mem_filterMap
abbrev g1g:=@PySem.Code.quiet_builtin
abbrev g1h:=@PySem.F.entry_tuple_iterator_next
abbrev g1i:=@PySem.F.args_tuple_mul_2
abbrev g1j:=@PySem.wpAny_onRaise
abbrev g1k:=@Option.some.injEq
abbrev g1l:=@PySem.wpAny_pyIter_list
abbrev g1m:=@decide_eq_true_eq
abbrev g1n:=@PySem.F.entry_tuple_mul
abbrev g1o:=@PySem.call_meets
abbrev g1p:=@List.drop_eq_getElem_cons
abbrev g1q:=@PySem.concat_meets
abbrev g1r:=@PySem.noFill_tuple_add
abbrev g1s:=@List.length_drop
abbrev g1t:=@List.map_nil
abbrev g1u:=@List.drop_length
abbrev g1v:=@List.all_eq_true
abbrev g1w:=@PySem.AutoSeq1.idx_int
abbrev g1x:=@List.filter_cons
abbrev g1y:=@List.mem_append
abbrev g1z:=@List.of_mem_zip
abbrev g20:=@PySem.SeqAt.EqAt.same
abbrev g21:=@List.nil_append
abbrev g22:=@List.getElem?_set_self
abbrev g23:=@Nat.le_succ
abbrev g24:=@PySem.W.cellsFrom_some
abbrev g25:=@List.take_of_length_le
abbrev g26:=@List.sum_replicate_nat
abbrev g27:=@List.mem_range
abbrev g28:=@List.length_singleton
abbrev g29:=@List.forIn_nil
abbrev g2a:=@List.getElem?_zipWith
abbrev g2b:=@List.length_filter_le
abbrev g2c:=@Bool.not_true
abbrev g2d:=@Bool.true_and
abbrev g2e:=@Nat.le_of_lt
abbrev g2f:=@List.all_map
abbrev g2g:=@Nat.min_self
abbrev g2h:=@Bool.or_true
namespace L2
open PySem PySem.Spec PyProof.Rows
abbrev Key:=Sum Int Str
def ql0:Key->Value->Bool
 | .inl k,v=>Value.isInt k v
 | .inr x,v=>Value.isStrOf x v
def qql(w:World): Key->Int
 | .inl k=>hashInt k
 | .inr x=>hashStr w x
theorem vd:∀ {k:Key} {v:Value},ql0 k v=true->(∃i t,k=Sum.inl i/\v=Value.int i t)\/(∃x t,k=Sum.inr x/\v=Value.str x t)
 | .inl i,v,h=>by
  obtain⟨t,e⟩:=Value.isInt_shape (k:=i) (v:=v) h;exact .inl ⟨i,t,rfl,e⟩
 | .inr x,v,h=>by
  obtain⟨t,e⟩:=Value.isStrOf_shape (x:=x) (v:=v) h;exact .inr ⟨x,t,rfl,e⟩
theorem qmy(a b:Int): decide ((Sum.inl a:Key)=Sum.inl b)=(a==b):=by
 by_cases e:a=b
 ·subst e;simp
 ·have h:¬(Sum.inl a:Key)=Sum.inl b:=fun q=>e (Sum.inl.inj q)
  rw [gz h];exact(pf.mpr e).symm
theorem qmz(a b:Str): decide ((Sum.inr a:Key)=Sum.inr b)=decide (a=b):=by
 by_cases e:a=b
 ·subst e;simp
 ·have h:¬(Sum.inr a:Key)=Sum.inr b:=fun q=>e (Sum.inr.inj q)
  rw [gz h,gz e]
theorem qn0(a:Int)(b:Str): decide ((Sum.inl a:Key)=Sum.inr b)=false:=gz (fun q=>nomatch q)
theorem qn1(a:Str)(b:Int): decide ((Sum.inr a:Key)=Sum.inl b)=false:=gz (fun q=>nomatch q)
def mixKind(prog:Program)(w:World): PySem.KeyKind prog w Key where
 is:=ql0
 hash:=qql w
 inj:=fun v a b ha hb=>by
  rcases vd ha with⟨i,t,rfl,rfl⟩|⟨x,t,rfl,rfl⟩
  ·rcases vd hb with⟨j,u,rfl,e⟩|⟨y,u,rfl,e⟩
   ·injection e with e1 _;rw [e1]
   ·exact nomatch e
  ·rcases vd hb with⟨j,u,rfl,e⟩|⟨y,u,rfl,e⟩
   ·exact nomatch e
   ·injection e with e1 _;rw [e1]
 byValue:=fun k v h=>by
  rcases vd h with⟨i,t,rfl,rfl⟩|⟨x,t,rfl,rfl⟩ <;> rfl
 pyHash:=fun hv h=>by
  rcases vd hv with⟨i,t,rfl,rfl⟩|⟨x,t,rfl,rfl⟩
  ·exact wpAny_pyHash_int h
  ·exact wpAny_pyHash_str h
 eqBool:=fun hu hv h=>by
  rcases vd hu with⟨i,t,rfl,rfl⟩|⟨x,t,rfl,rfl⟩
  ·rcases vd hv with⟨j,u,rfl,rfl⟩|⟨y,u,rfl,rfl⟩
   ·rw [qmy] at h;exact wpAny_eqBool_int h
   ·rw [qn0] at h;exact SeqAt.EqAt.int_str i t y u _ _ _ _ h
  ·rcases vd hv with⟨j,u,rfl,rfl⟩|⟨y,u,rfl,rfl⟩
   ·rw [qn1] at h;exact SeqAt.EqAt.str_int x t j u _ _ _ _ h
   ·rw [qmz] at h;exact wpAny_eqBool_str h
 «strs» :=fun k x t v h=>by
  rcases vd h with⟨i,u,rfl,e⟩|⟨y,u,rfl,e⟩
  ·exact nomatch e
  ·injection e with e1 _
   subst e1;cases v <;> rfl
inductive V where
 | non|bl (b:Bool)|int (i:Int)|str (x:Str)|byt (b:Array UInt8)|flt (b:UInt64)|ref (a:Addr)|ty (n:String)
 deriving DecidableEq
def RelV:V->Value->Prop
 | .non,u=>u=Value.none
 | .bl b,u=>u=Value.bool b
 | .int i,u=>∃t,u=Value.int i t
 | .str x,u=>∃t,u=Value.str x t
 | .byt b,u=>∃t,u=Value.bytes b t
 | .flt b,u=>∃t,u=Value.float b t
 | .ref a,u=>u=Value.ref a
 | .ty n,u=>u=Value.type n
abbrev Vals:List V->List Value->Prop:=Paired RelV
theorem Vals.length{xs:List V}{us:List Value}(r:Vals xs us): xs.length=us.length:=Paired.length r
theorem Vals.get:∀ {xs:List V} {us:List Value} {i:Nat} {x:V},Vals xs us->xs[i]? = some x->∃u,us[i]? = some u/\RelV x u
 | _,_,_,_,.nil,e=>by simp at e
 | _,_,0,_,.cons r _,e=>by simp at e;subst e;exact⟨_,rfl,r⟩
 | _,_,i+1,x,.cons _ t,e=>by
  obtain⟨u,h1,h2⟩:=Vals.get (i:=i) (x:=x) t (by simpa using e);exact⟨u,by simpa using h1,h2⟩
theorem Vals.append:∀ {xs ys:List V} {us ws:List Value},Vals xs us->Vals ys ws->Vals (xs++ys) (us++ws)
 | _,_,_,_,.nil,s=>s
 | _,_,_,_,.cons r t,s=>.cons r (Vals.append t s)
theorem Vals.take:∀ {xs:List V} {us:List Value} (n:Nat),Vals xs us->Vals (xs.take n) (us.take n)
 | _,_,0,_=>.nil
 | _,_,_+1,.nil=>.nil
 | _,_,n+1,.cons r t=>.cons r (Vals.take n t)
theorem Vals.drop:∀ {xs:List V} {us:List Value} (n:Nat),Vals xs us->Vals (xs.drop n) (us.drop n)
 | _,_,0,r=>r
 | _,_,_+1,.nil=>.nil
 | _,_,n+1,.cons _ t=>Vals.drop n t
def RelO:Option V->Option Value->Prop
 | some v,some u=>RelV v u
 | none,none=>True
 | _,_=>False
def KV{κ : Type}: List (κ × V)->List (κ × Value)->Prop:=Paired fun(p : κ × V) (q : κ × Value)=>p.1=q.1/\RelV p.2 q.2
def kV:Key->V
 | .inl i=>.int i
 | .inr x=>.str x
inductive HO where
 /-- a list -/
 | lst (xs:List V)
 /-- a tuple (never changes) -/
 | tup (xs:List V)
 /-- a dict whose keys are ints and texts; one whose keys are tuples of ints and texts (the empty one is both) -/
 | dK (kvs:List (Key×V))|dT (kvs:List (List Key×V))
 /-- a set of ints: its members, its size -/
 | set (S:Int->Bool) (n:Nat)
 /-- an instance of the class at C, its dict at dx, its attributes -/
 | ins (C dx:Addr) (fs:List (Str×V))
 /-- the dict of the instance at x -/
 | own (x:Addr)
 /-- the dict of an exception -/
 | xd (fs:List (Str×V))
 /-- a bound method, f of x -/
 | met (f x:Addr)
 /-- a range object lo, lo + 1, .. below hi -/
 | rng (lo hi:Int)
 /-- a thing that is known to the object (the script; a dict while a loop walks it): read, never written while it is so -/
 | frz (o:Obj) (u:HO)
 /-- a code object's table -/
 | tbl (ps:Array Value)
 /-- any other thing, by what is true of its one object (a def of one's own: SetO a S n := HO.ext fun h => ..) -/
 | ext (φ : Heap->Prop)
abbrev Hp:=Addr->Option HO
def upd(H:Hp)(a:Addr)(o:HO): Hp:=fun b=>if b=a then some o else H b
theorem qy{H:Hp}{a:Addr}{o:HO}: upd H a o a=some o:=by unfold upd;rw [gr rfl]
theorem qo{H:Hp}{a b:Addr}{o:HO}(h:b≠a): upd H a o b=H b:=by unfold upd;rw [gy h]
theorem xp{H:Hp}{a b:Addr}{o:HO}(h:H a=some o)(h':H b=none): a≠b:=by
 intro e;subst e;rw [h] at h';cases h'
def TupX(h:Heap)(a:Addr)(items:Array Value): Prop:=∃o,h.get? a=some o/\o.cls=.type "tuple" /\ o.dict=none/\∃n,o.data=.seq items n
theorem TupX.up{h:Heap}{a:Addr}{items:Array Value}(p:TupX h a items): IsTup h a items:=let⟨o,x,y,_,z⟩:=p; ⟨o,x,y,z⟩
theorem TupX.new(h:Heap)(items:Array Value): TupX (h.push {cls:=.type "tuple",data:=.seq items}) h.objs.size items:=⟨_,m4 _ rfl,rfl,rfl,_,rfl⟩
section
variable(P:Program)(w:World)
def ObjOk(H:Hp)(h:Heap)(a:Addr): HO->Prop
 | .lst xs=>xs.length<=sizeLine/\∃(its:List Value) (n:Nat),Vals xs its/\h.get? a=some {cls:=.type "list",data:=.seq its.toArray n}
 | .tup xs=>xs.length<=sizeLine/\∃its:List Value,Vals xs its/\TupX h a its.toArray
 | .dK kvs=>kvs.length<=sizeLine/\(a==sysModules)=false/\∃vs,KV kvs vs/\h.DictOf (mixKind P w) a vs
 | .dT kvs=>kvs.length<=sizeLine/\(a==sysModules)=false/\∃xs:List (List Key×Addr×Value),
   Paired (fun(p:List Key×V) (q:List Key×Addr×Value)=>p.1=q.1/\H q.2.1=some (.tup (p.1.map kV))/\RelV p.2 q.2.2) kvs xs /\
   ∃o es ep,h.get? a=some o/\o.ExactDict/\o.data=.dict es ep/\es.toList=xs.map (entryOfKey (tupleKind (mixKind P w)))/\(xs.map (·.1)).Nodup
 | .set S n=>h.SetOf (intKind P w) a S n
 | .ins C dx fs=>H dx=some (.own a)/\fs.length<=1000/\dx≠a/\h.get? a=some (PySem.W.instObj C dx) /\
   ∃mA,h.Ns1 dx mA/\(∀f,RelO (fs.lookup f) (mA f))/\PySem.Within mA (fs.map (·.1))
 | .own _=>∃o,h.get? a=some o
 | .xd fs=>∃mA,h.Ns1 a mA/\∀f,RelO (fs.lookup f) (mA f)
 | .rng lo hi=>∃t u v,h.get? a=some {cls:=.type "range",data:=.fields #[.int lo t,.int hi u,.int 1 v]}
 | .frz o u=>h.get? a=some o/\ObjOk H h a u
 | .tbl ps=>h.get? a=some {cls:=.none,data:=.fields ps}
 | .met f x=>h.get? a=some (PySem.W.methodObj (.ref f) (.ref x))
 | .ext φ => φ h/\(∃o,h.get? a=some o)/\∀h1 h2:Heap, φ h1->(∀o,h1.get? a=some o->h2.get? a=some o) -> φ h2
def HOk(H:Hp)(h:Heap): Prop:=∀a o,H a=some o->ObjOk P w H h a o
end
section
variable{P:Program}{w:World}{H H':Hp}{h h':Heap}{a:Addr}{o:HO}
theorem ObjOk.lt(x:ObjOk P w H h a o): a<h.objs.size:=by
 cases o with
 | lst xs=>obtain⟨_,_,_,_,e⟩:=x;exact gq e
 | tup xs=>obtain⟨_,_,_,p⟩:=x;exact p.up.lt
 | dK kvs=>obtain⟨_,_,_,_,o,_,_,e,_⟩:=x;exact gq e
 | dT kvs=>obtain⟨_,_,_,_,o,_,_,e,_⟩:=x;exact gq e
 | set S n=>obtain⟨o,_,_,_,e,_⟩:=x;exact gq e
 | ins C dx fs=>obtain⟨_,_,_,e,_⟩:=x;exact gq e
 | own y=>obtain⟨_,e⟩:=x;exact gq e
 | xd fs=>obtain⟨_,⟨_,_,_,e,_⟩,_⟩:=x;exact gq e
 | rng lo hi=>obtain⟨_,_,_,e⟩:=x;exact gq e
 | frz ob u=>obtain⟨e,_⟩:=x;exact gq e
 | tbl ps=>exact gq (show h.get? a=some _ from x)
 | met f y=>exact gq (show h.get? a=some _ from x)
 | ext φ =>obtain⟨_,⟨_,e⟩,_⟩:=x;exact gq e
theorem Paired.mapP{α β : Type}{F G : α -> β -> Prop}: ∀ {l₁:List α} {l₂:List β},Paired F l₁ l₂->(∀a b,F a b->G a b)->Paired G l₁ l₂
 | _,_,.nil,_=>.nil
 | _,_,.cons r t,f=>.cons (f _ _ r) (Paired.mapP t f)
theorem ObjOk.stay(x:ObjOk P w H h a o)(k:∀b u,(b=a\/H b=some (.own a))->h.get? b=some u->h'.get? b=some u)
  (ho:∀b,H b=some (.own a)->H' b=some (.own a)) (ht:∀b xs,H b=some (.tup xs)->H' b=some (.tup xs)):ObjOk P w H' h' a o:=by
 induction o with
 | lst xs=>obtain⟨z,its,n,r,e⟩:=x;exact⟨z,its,n,r,k _ _ (.inl rfl) e⟩
 | tup xs=>obtain⟨z,its,r,ob,e,c⟩:=x;exact⟨z,its,r,ob,k _ _ (.inl rfl) e,c⟩
 | dK kvs=>obtain⟨z,y,vs,r,ob,es,ep,e,c⟩:=x;exact⟨z,y,vs,r,ob,es,ep,k _ _ (.inl rfl) e,c⟩
 | dT kvs=>
  obtain⟨z,y,xs,r,ob,es,ep,e,c⟩:=x;exact⟨z,y,xs,Paired.mapP r fun p q z=>⟨z.1,ht _ _ z.2.1,z.2.2⟩,ob,es,ep,k _ _ (.inl rfl) e,c⟩
 | set S n=>obtain⟨ob,es,ep,t,e,c⟩:=x;exact⟨ob,es,ep,t,k _ _ (.inl rfl) e,c⟩
 | ins C dx fs=>
  obtain⟨d,z,ne,e,mA,⟨od,es,ep,e2,c⟩,r⟩:=x;exact⟨ho _ d,z,ne,k _ _ (.inl rfl) e,mA,⟨od,es,ep,k _ _ (.inr d) e2,c⟩,r⟩
 | own y=>obtain⟨ob,e⟩:=x;exact⟨ob,k _ _ (.inl rfl) e⟩
 | xd fs=>obtain⟨mA,⟨od,es,ep,e,c⟩,r⟩:=x;exact⟨mA,⟨od,es,ep,k _ _ (.inl rfl) e,c⟩,r⟩
 | rng lo hi=>obtain⟨t,u,v,e⟩:=x;exact⟨t,u,v,k _ _ (.inl rfl) e⟩
 | frz ob u ih=>obtain⟨e,q⟩:=x;exact⟨k _ _ (.inl rfl) e,ih q⟩
 | tbl ps=>
  have e:h.get? a=some {cls:=.none,data:=.fields ps}:=x;show h'.get? a=some {cls:=.none,data:=.fields ps};exact k a _ (.inl rfl) e
 | met f y=>
  have e:h.get? a=some (PySem.W.methodObj (.ref f) (.ref y)):=x;show h'.get? a=some (PySem.W.methodObj (.ref f) (.ref y));exact k a _ (.inl rfl) e
 | ext φ =>obtain⟨p,⟨o,e⟩,st⟩:=x;exact⟨st _ _ p fun o q=>k _ _ (.inl rfl) q,⟨o,k _ _ (.inl rfl) e⟩,st⟩
theorem HOk.lt(x:HOk P w H h)(e:H a=some o): a<h.objs.size:=(x a o e).lt
theorem HOk.fresh(x:HOk P w H h)(e:h.objs.size<=a): H a=none:=by
 cases q:H a with
 | none=>rfl
 | some u=>exact absurd (m8 (x.lt q) e) (pd _)
theorem HOk.kept(x:HOk P w H h)(k:∀b u,h.get? b=some u->h'.get? b=some u): HOk P w H h':=fun a o e=>
 (x a o e).stay (fun b u _ q=>k b u q) (fun _ q=>q) fun _ _ q=>q
theorem HOk.laid(x:HOk P w H h)(k:∀b u,h.get? b=some u->h'.get? b=some u)(hp:h.objs.size<=a)(new:ObjOk P w (upd H a o) h' a o): HOk P w (upd H a o) h':=fun b u e=>by
 have hn:=x.fresh hp
 by_cases hb:b=a
 ·subst hb;rw [qy] at e;cases e;exact new
 ·rw [qo hb] at e
  exact(x b u e).stay (fun c v _ q=>k c v q) (fun c q=>by rw [qo (xp q hn)];exact q) fun c xs q=>by rw [qo (xp q hn)];exact q
end
def Rd(H:Hp)(a:Addr)(u:HO): Prop:=H a=some u\/∃o,H a=some (.frz o u)
theorem Rd.ok{P:Program}{w:World}{H:Hp}{h:Heap}{a:Addr}{u:HO}(r:Rd H a u)(x:HOk P w H h): ObjOk P w H h a u:=by
 rcases r with r|⟨o,r⟩
 ·exact x a u r
 ·obtain⟨_,q⟩:=x a _ r
  exact q
def Mut:Option HO->Prop
 | some (.lst _)=>True
 | some (.dK _)=>True
 | some (.dT _)=>True
 | some (.set _ _)=>True
 | some (.ins _ _ _)=>True
 | some (.ext _)=>True
 | _=>False
section
variable{P:Program}{w:World}{H:Hp}{h h':Heap}{x e:Addr}{o':HO}
theorem HOk.write(ok:HOk P w H h)(mu:Mut (H x))(he:e=x\/H e=some (.own x))(k:∀b u,b≠e->h.get? b=some u->h'.get? b=some u)(heo:∃u,h'.get? e=some u)
  (new:ObjOk P w (upd H x o') h' x o'):HOk P w (upd H x o') h':=fun b u q=>by
 have nown:∀c y,H c=some (.own y)->c≠x:=fun c y r z=>by subst z;rw [r] at mu;exact mu
 have ntup:∀c xs,H c=some (.tup xs)->c≠x:=fun c xs r z=>by subst z;rw [r] at mu;exact mu
 by_cases hb:b=x
 ·subst hb;rw [qy] at q;cases q;exact new
 ·rw [qo hb] at q
  by_cases hbe:b=e
  ·have q':H b=some (.own x):=by
    rcases he with z|z
    ·exact absurd (hbe.trans z) hb
    ·rw [hbe];exact z
   rw [q] at q';cases q';obtain⟨v,hv⟩:=heo;exact⟨v,by rw [hbe];exact hv⟩
  ·refine(ok b u q).stay (fun c v hc r=>k c v ?_ r) (fun c r=>by rw [qo (nown c b r)];exact r) fun c xs r=>by rw [qo (ntup c xs r)];exact r
   rcases hc with rfl|hc
   ·exact hbe
   ·rintro rfl
    rcases he with z|z
    ·exact nown c b hc z
    ·rw [hc] at z;cases z;exact hb rfl
end
structure Un(fs ex:List Addr)(H H':Hp)(h h':Heap): Prop where
 keep:∀b o,h.get? b=some o->H b=none->b∉fs->b∉ex->h'.get? b=some o
 slot:∀b o,h.get? b=some o->H b=none->b∈fs->b∉ex->∃sl,h'.get? b=some {o with slots:=sl}
 free:∀b o,h.get? b=some o->H b=none->b∉ex->H' b=none
 there:∀b o,h.get? b=some o->b∉ex->∃o',h'.get? b=some o'
 tups:∀b xs,H b=some (.tup xs)->H' b=some (.tup xs)
 frzs:∀b o u,H b=some (.frz o u)->H' b=some (.frz o u)
 tbls:∀b ps,H b=some (.tbl ps)->∃more,H' b=some (.tbl (ps++more))
section
variable{fs fs' ex ex':List Addr}{H H1 H2:Hp}{h h1 h2 h':Heap}{a x e:Addr}{o:HO}
theorem Un.any(u:Un fs ex H H1 h h1){b:Addr}{ob:Obj}(q:h.get? b=some ob)(n:H b=none)(hx:b∉ex): ∃sl,h1.get? b=some {ob with slots:=sl}:=by
 by_cases hb:b∈fs
 ·exact u.slot b ob q n hb hx
 ·exact⟨ob.slots,u.keep b ob q n hb hx⟩
theorem Un.trans(a:Un fs ex H H1 h h1)(b:Un fs ex H1 H2 h1 h2): Un fs ex H H2 h h2 where
 keep:=fun c ob q n hc hx=>b.keep c ob (a.keep c ob q n hc hx) (a.free c ob q n hx) hc hx
 slot:=fun c ob q n hc hx=>by
  obtain⟨sl,e1⟩:=a.slot c ob q n hc hx;obtain⟨sl',e2⟩:=b.slot c _ e1 (a.free c ob q n hx) hc hx;exact⟨sl',e2⟩
 free:=fun c ob q n hx=>by
  obtain⟨o',e1⟩:=a.there c ob q hx;exact b.free c o' e1 (a.free c ob q n hx) hx
 there:=fun c ob q hx=>by
  obtain⟨o',e1⟩:=a.there c ob q hx;exact b.there c o' e1 hx
 tups:=fun c xs q=>b.tups c xs (a.tups c xs q)
 frzs:=fun c ob xs q=>b.frzs c ob xs (a.frzs c ob xs q)
 tbls:=fun c ps q=>by
  obtain⟨m1,e1⟩:=a.tbls c ps q;obtain⟨m2,e2⟩:=b.tbls c _ e1;exact⟨m1++m2,by rw [e2,g1e]⟩
theorem Un.kept(k:∀b u,h.get? b=some u->h'.get? b=some u): Un fs ex H H h h':=
 ⟨fun b ob q _ _ _=>k b ob q,fun b ob q _ _ _=>⟨ob.slots,k b ob q⟩,fun _ _ _ n _=>n,fun b ob q _=>⟨ob,k b ob q⟩,fun _ _ q=>q,fun _ _ _ q=>q,fun _ ps q=>⟨#[],by rw [q];simp⟩⟩
theorem Un.refl:Un fs ex H H h h:=Un.kept fun _ _ q=>q
theorem Un.laid(k:∀b u,h.get? b=some u->h'.get? b=some u)(hp:h.objs.size<=a)(hn:H a=none): Un fs ex H (upd H a o) h h' where
 keep:=fun b u q _ _ _=>k b u q
 slot:=fun b u q _ _ _=>⟨u.slots,k b u q⟩
 free:=fun b u q n _=>by rw [qo (ma (m8 (gq q) hp))];exact n
 there:=fun b u q _=>⟨u,k b u q⟩
 tups:=fun b xs q=>by rw [qo (xp q hn)];exact q
 frzs:=fun b u xs q=>by rw [qo (xp q hn)];exact q
 tbls:=fun b ps q=>⟨#[],by rw [qo (xp q hn),q];simp⟩
theorem Un.write(mu:Mut (H x))(he:e=x\/H e=some (.own x))(k:∀b u,b≠e->h.get? b=some u->h'.get? b=some u)(heo:∃u,h'.get? e=some u): Un fs ex H (upd H x o) h h':=by
 have hx:∀b,H b=none->b≠x:=fun b n z=>by subst z;rw [n] at mu;exact mu
 have hb:∀b,H b=none->b≠e:=fun b n z=>by
  subst z;rcases he with r|r
  ·exact hx b n r
  ·rw [n] at r;cases r
 have hm:∀b u,H b=some u->¬Mut (some u)->b≠x:=fun b u q nm z=>by subst z;rw [q] at mu;exact nm mu
 refine⟨fun b u q n _ _=>k b u (hb b n) q,fun b u q n _ _=>⟨u.slots,k b u (hb b n) q⟩,fun b u q n _=>by rw [qo (hx b n)];exact n,fun b u q _=>?_,
  fun b xs q=>by rw [qo (hm b _ q fun z=>z)];exact q,fun b u xs q=>by rw [qo (hm b _ q fun z=>z)];exact q,fun b ps q=>⟨#[],by rw [qo (hm b _ q fun z=>z),q];simp⟩⟩
 by_cases hbe:b=e
 ·subst hbe;exact heo
 ·exact⟨u,k b u hbe q⟩
end
def trk(h:Heap)(H:Hp): List Addr:=(List.range h.objs.size).filter fun a=>(H a).isSome
def q55(h:Heap)(H:Hp): Heap:=PySem.W.hideAll h (trk h H)
theorem qh1(h:Heap)(H:Hp): (q55 h H).objs.size=h.objs.size:=PySem.W.hideAll_size _ _
theorem qj4{h:Heap}{H:Hp}{b:Addr}{o:Obj}(e:h.get? b=some o)(n:H b=none): (q55 h H).get? b=some o:=
 PySem.W.hideAll_get _ e fun hm=>by
  have q:(H b).isSome=true:=(g0q.mp hm).2;rw [n] at q;simp at q
theorem qll{h:Heap}{H:Hp}{b:Addr}{o:Obj}(e:(q55 h H).get? b=some o): h.get? b=some o/\H b=none:=by
 have e':h.get? b=some o:=PySem.W.of_hideAll (trk h H) e;refine⟨e',?_⟩;cases q:H b with
 | none=>rfl
 | some x=>
  have hm:b∈trk h H:=g0q.mpr ⟨g27.mpr (gq e'),by simp [q]⟩;have z:(q55 h H).get? b=none:=PySem.W.hideAll_none (trk h H) hm;rw [z] at e;cases e
def qlm(g h:Heap)(L:Addr): List (Addr×Obj):=(List.range h.objs.size).filterMap fun a=>if a=L\/(g.get? a).isSome=true then none else(h.get? a).map fun o=>(a,o)
def rest(g h:Heap)(L d:Addr): List (Addr×Obj):=(qlm g h L).filter fun p=>decide (p.1≠d)
structure Mod(K:PySem.W.Frag)(mg:Str->Option Value)(base:Heap): Prop where
 kin:K.In base
 glob:base.Ns mainGlobals mg
 blt:∃mb,base.Ns builtinsNs mb/\∀x:Str,x≠"__name__" -> mb x=bootBuiltins x
 nolimit:base.NoLimit
structure Cx where
 prog:Program
 w:World
 K:PySem.W.Frag
 mg:Str->Option Value
 base:Heap
 A:Around
 N:List Str
 s₀:Shared
 H₀:Hp
 env:Env
 outer:List Env
 stack:List Env
 ex:List Addr
 fn:Str->Bool
 calm:Bool
 pn:List (Addr×Obj)
 xe:Value->Shared->Prop
def frs(l:List Env): List Addr:=l.filterMap (·.frame)
abbrev Cx.fs(X:Cx): List Addr:=frs X.outer
def Vis(sc:Scope)(x:Str): Prop:=sc.names.lookup x=some .local\/sc.names.lookup x=some .cell\/sc.names.lookup x=some .free
def Loc(sc:Scope)(x:Str): Prop:=sc.names.lookup x=some .local\/sc.names.lookup x=some .cell
def Look(env:Env)(h:Heap)(m:Str->Option Value)(x:Str)(u:Value): Prop:=
 (env.kindOf x=some .local/\m x=some u)\/((env.kindOf x=some .cell\/env.kindOf x=some .free)/\∃c,env.cells.lookup x=some c/\h.IsCell c (some u))
structure Cx.Ok(X:Cx): Prop where
 mod:Mod X.K X.mg X.base
 kind:X.env.scope.kind=.function
 glob:X.env.globals=mainGlobals
 blt:X.env.builtins=builtinsNs
 above:X.s₀.heap.objs.size<=X.env.locals
 inj:∀x y c,X.env.cells.lookup x=some c->X.env.cells.lookup y=some c->x=y
 has:∀x,(X.env.kindOf x=some .cell\/X.env.kindOf x=some .free)->∃c,X.env.cells.lookup x=some c
 cab:∀x c,X.fn x=true->X.env.cells.lookup x=some c->X.s₀.heap.objs.size<=c
 hd:X.calm=true->X.A.handled=none
 frames:X.A.frames=some X.stack
 stk:X.stack=X.outer\/(X.stack=X.env :: X.outer/\X.env.frame=some X.env.locals)
 exf:∀b∈X.ex,b≠X.env.locals/\∀x c,X.env.cells.lookup x=some c->c≠b
 bs:∀b o,X.base.get? b=some o->X.s₀.heap.get? b=some o/\X.H₀ b=none
 bsz:X.base.objs.size<=X.s₀.heap.objs.size
 noex:∀b o,X.base.get? b=some o->b∉X.ex
 exfs:∀b∈X.ex,b∉X.fs
 funs:X.s₀.heap.FunFrames X.base X.outer
 frf:∀b∈X.fs,X.H₀ b=none
structure Inv(X:Cx)(pins:List (Addr×Obj))(σ : List (Option V))(H:Hp)(s:Shared): Prop where
 ok:X.Ok
 os:s.os=X.s₀.os
 bare:AllBare s.gens
 base:Un X.fs X.ex X.H₀ H X.s₀.heap s.heap
 loc:∃m,s.heap.Ns X.env.locals m/\∀(i:Nat) (x:Str) (v:V),X.N[i]? = some x -> σ[i]? = some (some v)->Vis X.env.scope x->∃u,RelV v u/\Look X.env s.heap m x u
 cell:∀x c,X.env.cells.lookup x=some c->∃v,s.heap.IsCell c v
 free:H X.env.locals=none
 freeC:∀x c,X.env.cells.lookup x=some c->H c=none
 pin:∀p∈X.pn++pins,s.heap.get? p.1=some p.2/\H p.1=none/\p.1≠X.env.locals/\p.1∉X.fs/\∀v,p.2.data ≠ .cell v
 hok:HOk X.prog X.w H s.heap
 len : σ.length=X.N.length
section
variable{X:Cx}{pins:List (Addr×Obj)}{σ : List (Option V)}{H H':Hp}{s:Shared}{h':Heap}
theorem Cx.Ok.nofr(ok:X.Ok){b:Addr}{o:Obj}(e:X.base.get? b=some o): b∉X.fs:=fun hb=>by
 have:=(ok.funs.mem hb).1;rw [e] at this;cases this
theorem Inv.bs(I:Inv X pins σ H s): ∀b o,X.base.get? b=some o->s.heap.get? b=some o/\H b=none:=fun b o e=>
 ⟨I.base.keep b o (I.ok.bs b o e).1 (I.ok.bs b o e).2 (I.ok.nofr e) (I.ok.noex b o e),I.base.free b o (I.ok.bs b o e).1 (I.ok.bs b o e).2 (I.ok.noex b o e)⟩
theorem Inv.bk(I:Inv X pins σ H s): ∀b o,X.base.get? b=some o->s.heap.get? b=some o:=fun b o e=>(I.bs b o e).1
theorem Inv.mod(I:Inv X pins σ H s): Mod X.K X.mg X.base:=I.ok.mod
theorem Inv.kIn(I:Inv X pins σ H s): X.K.In s.heap:=I.ok.mod.kin.keeps I.bk
theorem Inv.lt(I:Inv X pins σ H s): X.env.locals<s.heap.objs.size:=let⟨_,hn,_⟩:=I.loc;hn.lt
theorem Inv.sz(I:Inv X pins σ H s): X.s₀.heap.objs.size<=s.heap.objs.size:=mj I.ok.above (g2e I.lt)
theorem Inv.nofs(I:Inv X pins σ H s){a:Addr}(h:s.heap.objs.size<=a): a∉X.fs:=fun hb=>by
 obtain⟨_,o,ho,_⟩:=I.ok.funs.mem hb;exact absurd (m8 (gq ho) (mj I.sz h)) (pd _)
theorem Inv.cne(I:Inv X pins σ H s): ∀x c,X.env.cells.lookup x=some c->c≠X.env.locals:=fun x c e z=>by
 obtain⟨v,o,ho,hd⟩:=I.cell x c e;obtain⟨m,⟨o',es,ep,ho',hd',_⟩,_⟩:=I.loc;rw [z,ho'] at ho;cases ho;rw [hd'] at hd;cases hd
theorem Inv.funs(I:Inv X pins σ H s): s.heap.FunFrames X.base X.outer:=by
 have all:∀(l:List Env),(∀b∈frs l,b∈X.fs)->X.s₀.heap.FunFrames X.base l->s.heap.FunFrames X.base l:=by
  intro l
  induction l with
  | nil=>intro _ _;trivial
  | cons env r ih=>
   intro hs hl;obtain⟨hk,⟨L,o,hf,hn,ho,hd⟩,hr⟩:=hl;have hL:L∈X.fs:=hs L (by unfold frs;rw [g15,hf];exact gs);obtain⟨sl,e⟩:=I.base.slot L o ho (I.ok.frf L hL) hL fun z=>I.ok.exfs L z hL;exact⟨hk,⟨L,_,hf,hn,e,hd⟩,ih (fun b hb=>hs b (by unfold frs;rw [g15,hf];exact gw _ hb)) hr⟩
 exact all X.outer (fun _ hb=>hb) I.ok.funs
theorem Inv.stack(I:Inv X pins σ H s): s.heap.FunFrames X.base X.stack:=by
 rcases I.ok.stk with e|⟨e,hf⟩
 ·rw [e];exact I.funs
 ·rw [e]
  obtain⟨m,hn,_⟩:=I.loc;refine .cons (by rw [I.ok.kind];decide) hf hn ?_ I.funs;exact u9 (mj I.ok.bsz I.ok.above)
theorem Inv.stkSub(I:Inv X pins σ H s): ∀b∈frs X.stack,b∈X.env.locals :: X.fs:=fun b hb=>by
 rcases I.ok.stk with e|⟨e,hf⟩
 ·rw [e] at hb;exact gw _ hb
 ·rw [e] at hb
  unfold frs at hb;rw [g15,hf] at hb;exact hb
theorem Inv.stkFree(I:Inv X pins σ H s): ∀b∈frs X.stack,H b=none:=fun b hb=>by
 rcases m5.mp (I.stkSub b hb) with e|hb
 ·rw [e];exact I.free
 ·obtain⟨_,o,ho,_⟩:=I.ok.funs.mem hb
  exact I.base.free b o ho (I.ok.frf b hb) fun z=>I.ok.exfs b z hb
theorem Inv.step{g':Array GenState}{t':Nat}{d':Drawn}{ch:List Addr}(I:Inv X pins σ H s)
  (hch:∀b∈ch,(b∈X.ex\/X.s₀.heap.objs.size<=b)/\b≠X.env.locals/\(∀x c,X.env.cells.lookup x=some c->c≠b)/\∀p∈X.pn++pins,p.1≠b)
  (keep:∀b o,b≠X.env.locals->b∉X.fs->b∉ch->s.heap.get? b=some o->H b=none->h'.get? b=some o)
  (slot:∀b o,b≠X.env.locals->b∈X.fs->b∉ch->s.heap.get? b=some o->H b=none->∃sl,h'.get? b=some {o with slots:=sl}) (free:∀b o,b∉ch->s.heap.get? b=some o->H b=none->H' b=none)
  (there:∀b o,b∉ch->s.heap.get? b=some o->∃o',h'.get? b=some o')
  (tups:∀b xs,H b=some (.tup xs)->H' b=some (.tup xs)) (frzs:∀b o u,H b=some (.frz o u)->H' b=some (.frz o u)) (tbls:∀b ps,H b=some (.tbl ps)->∃more,H' b=some (.tbl (ps++more)))
  (ns:∀m,s.heap.Ns X.env.locals m->h'.Ns X.env.locals m) (hok:HOk X.prog X.w H' h') (hg:AllBare g') :
  Inv X pins σ H' {s with heap:=h',gens:=g',drawn:=d',toks:=t'}:=by
 have neL:∀b o,X.s₀.heap.get? b=some o->b≠X.env.locals:=fun b o e=>ma (m8 (gq e) I.ok.above);have neC:∀b o,X.s₀.heap.get? b=some o->b∉X.ex->b∉ch:=fun b o e hx hb=>by
  rcases(hch b hb).1 with z|z
  ·exact hx z
  ·exact absurd (m8 (gq e) z) (pd _)
 have cellK:∀x c,X.env.cells.lookup x=some c->∀v,s.heap.IsCell c v->h'.IsCell c v:=fun x c e v ⟨o,ho,hd⟩=>by
  have nch:c∉ch:=fun z=>(hch c z).2.2.1 x c e rfl
  by_cases hc:c∈X.fs
  ·obtain⟨sl,q⟩:=slot c o (I.cne x c e) hc nch ho (I.freeC x c e)
   exact⟨_,q,hd⟩
  ·exact⟨o,keep c o (I.cne x c e) hc nch ho (I.freeC x c e),hd⟩
 refine⟨I.ok,I.os,hg,⟨fun b o e n hb hx=>?_,fun b o e n hb hx=>?_,fun b o e n hx=>?_,fun b o e hx=>?_,fun b xs e=>tups b xs (I.base.tups b xs e),fun b o xs e=>frzs b o xs (I.base.frzs b o xs e),fun b ps e=>?_⟩,?_,fun x c e=>?_,?_,fun x c e=>?_,fun p hp=>?_,hok,I.len⟩
 ·exact keep b o (neL b o e) hb (neC b o e hx) (I.base.keep b o e n hb hx) (I.base.free b o e n hx)
 ·obtain⟨sl,e1⟩:=I.base.slot b o e n hb hx
  obtain⟨sl',e2⟩:=slot b _ (neL b o e) hb (neC b o e hx) e1 (I.base.free b o e n hx);exact⟨sl',e2⟩
 ·obtain⟨o',e1⟩:=I.base.there b o e hx
  exact free b o' (neC b o e hx) e1 (I.base.free b o e n hx)
 ·obtain⟨o',e1⟩:=I.base.there b o e hx
  exact there b o' (neC b o e hx) e1
 ·obtain⟨m1,e1⟩:=I.base.tbls b ps e
  obtain⟨m2,e2⟩:=tbls b _ e1;exact⟨m1++m2,by rw [e2,g1e]⟩
 ·obtain⟨m,hn,hl⟩:=I.loc
  refine⟨m,ns m hn,fun i x v e1 e2 e3=>?_⟩;obtain⟨u,r,l⟩:=hl i x v e1 e2 e3;refine⟨u,r,?_⟩;rcases l with l|⟨k,c,e,z⟩
  ·exact .inl l
  ·exact .inr ⟨k,c,e,cellK x c e _ z⟩
 ·obtain⟨v,z⟩:=I.cell x c e
  exact⟨v,cellK x c e v z⟩
 ·obtain⟨m,⟨o,_,_,ho,_⟩,_⟩:=I.loc
  exact free _ o (fun z=>(hch _ z).2.1 rfl) ho I.free
 ·obtain⟨v,o,ho,hd⟩:=I.cell x c e
  exact free c o (fun z=>(hch c z).2.2.1 x c e rfl) ho (I.freeC x c e)
 ·obtain⟨e,n,ne,nf,d⟩:=I.pin p hp
  have nch:p.1∉ch:=fun z=>(hch p.1 z).2.2.2 p hp rfl;exact⟨keep p.1 p.2 ne nf nch e n,free p.1 p.2 nch e n,ne,nf,d⟩
theorem Inv.un{t':Nat}(I:Inv X pins σ H s)(u:Un X.fs [] H H' s.heap h')(hok:HOk X.prog X.w H' h'): Inv X pins σ H' {s with heap:=h',toks:=t'}:=by
 obtain⟨m,⟨o,es,ep,ho,r⟩,_⟩:=id I.loc;obtain⟨sl,hL⟩:=u.any ho I.free (by simp);exact I.step (g':=s.gens) (d':=s.drawn) (ch:=[]) (fun _ z=>nomatch z) (fun b o _ hb _ e n=>u.keep b o e n hb (by simp)) (fun b o _ hb _ e n=>u.slot b o e n hb (by simp)) (fun b o _ e n=>u.free b o e n (by simp)) (fun b o _ e=>u.there b o e (by simp)) u.tups u.frzs u.tbls (fun m' hm=>by
  obtain⟨o',es',ep',ho',r'⟩:=hm;rw [ho] at ho';cases ho';exact⟨_,es',ep',hL,r'⟩) hok I.bare
theorem Inv.call{g':Array GenState}{t':Nat}{d':Drawn}{ch:List Addr}(I:Inv X pins σ H s)(u:Un (frs X.stack) ch H H' s.heap h')(hok:HOk X.prog X.w H' h')(hg:AllBare g')
  (hch:∀b∈ch,(b∈X.ex\/X.s₀.heap.objs.size<=b)/\b≠X.env.locals/\(∀x c,X.env.cells.lookup x=some c->c≠b)/\∀p∈X.pn++pins,p.1≠b) :
  Inv X pins σ H' {s with heap:=h',gens:=g',drawn:=d',toks:=t'}:=by
 obtain⟨m,⟨o,es,ep,ho,r⟩,_⟩:=id I.loc;obtain⟨sl,hL⟩:=u.any ho I.free fun z=>(hch _ z).2.1 rfl;exact I.step (ch:=ch) hch (fun b o hL hb hc e n=>u.keep b o e n (fun z=>(m5.mp (I.stkSub b z)).elim hL hb) hc) (fun b o _ _ hc e n=>u.any e n hc) (fun b o hc e n=>u.free b o e n hc) (fun b o hc e=>u.there b o e hc) u.tups u.frzs u.tbls (fun m' hm=>by
  obtain⟨o',es',ep',ho',r'⟩:=hm;rw [ho] at ho';cases ho';exact⟨_,es',ep',hL,r'⟩) hok hg
theorem Inv.turned{t':Nat}{it:Addr}(I:Inv X pins σ H s)(k:∀b o,b≠it->s.heap.get? b=some o->h'.get? b=some o)(hn:H it=none)(hL:it≠X.env.locals)
  (h1:it∈X.ex\/X.s₀.heap.objs.size<=it) (h2:∀x c,X.env.cells.lookup x=some c->c≠it) (h3:∀p∈X.pn++pins,p.1≠it):Inv X pins σ H {s with heap:=h',toks:=t'}:=by
 have nit:∀b u,H b=some u->b≠it:=fun b u e z=>by rw [z,hn] at e;cases e
 refine I.step (g':=s.gens) (d':=s.drawn) (ch:=[it]) (fun b hb=>?_) (fun b o _ _ hc e _=>k b o (fun z=>hc (by simp [z])) e) (fun b o _ _ hc e _=>⟨o.slots,k b o (fun z=>hc (by simp [z])) e⟩) (fun _ _ _ _ n=>n)
  (fun b o hc e=>⟨o,k b o (fun z=>hc (by simp [z])) e⟩) (fun _ _ e=>e) (fun _ _ _ e=>e) (fun b ps e=>⟨#[],by rw [e];simp⟩) (fun m hm=>?_) (fun b u e=>?_) I.bare
 ·have e:b=it:=by simpa using hb
  subst e;exact⟨h1,hL,h2,h3⟩
 ·obtain⟨o,es,ep,ho,r⟩:=hm
  exact⟨o,es,ep,k _ o (gu hL) ho,r⟩
 ·refine(I.hok b u e).stay (fun c v hc q=>k c v ?_ q) (fun _ q=>q) fun _ _ q=>q
  rcases hc with z|z
  ·rw [z];exact nit b u e
  ·exact nit c _ z
theorem Inv.tok(I:Inv X pins σ H s)(t:Nat): Inv X pins σ H {s with toks:=t}:=I.un (h':=s.heap) (t':=t) Un.refl I.hok
theorem Inv.kept{t':Nat}(I:Inv X pins σ H s)(k:∀b u,s.heap.get? b=some u->h'.get? b=some u): Inv X pins σ H {s with heap:=h',toks:=t'}:=I.un (Un.kept k) (I.hok.kept k)
theorem Inv.laid{a:Addr}{o:HO}{t':Nat}(I:Inv X pins σ H s)(k:∀b u,s.heap.get? b=some u->h'.get? b=some u)(hp:s.heap.objs.size<=a)(new:ObjOk X.prog X.w (upd H a o) h' a o):
  Inv X pins σ (upd H a o) {s with heap:=h',toks:=t'}:=I.un (Un.laid k hp (I.hok.fresh hp)) (I.hok.laid k hp new)
theorem Inv.write{x e:Addr}{o:HO}{t':Nat}(I:Inv X pins σ H s)(mu:Mut (H x))(he:e=x\/H e=some (.own x))(k:∀b u,b≠e->s.heap.get? b=some u->h'.get? b=some u)(heo:∃u,h'.get? e=some u)
  (new:ObjOk X.prog X.w (upd H x o) h' x o):Inv X pins σ (upd H x o) {s with heap:=h',toks:=t'}:=I.un (Un.write mu he k heo) (I.hok.write mu he k heo new)
theorem Inv.pins_of{pins':List (Addr×Obj)}(I:Inv X pins σ H s)(h:∀p∈pins',s.heap.get? p.1=some p.2/\H p.1=none/\p.1≠X.env.locals/\p.1∉X.fs/\∀v,p.2.data ≠ .cell v): Inv X pins' σ H s:=
 ⟨I.ok,I.os,I.bare,I.base,I.loc,I.cell,I.free,I.freeC,fun p hp=>(g1y.mp hp).elim (fun z=>I.pin p (g0r _ z)) (h p),I.hok,I.len⟩
theorem qch{N:List Str}(hN:N.Nodup){i j:Nat}{x:Str}(a:N[i]? = some x)(b:N[j]? = some x): i=j:=by
 obtain⟨h1,e1⟩:=n8.mp a;obtain⟨h2,e2⟩:=n8.mp b;exact(List.getElem_inj hN).mp (e1.trans e2.symm)
theorem qh2{M:Model}{A:Around}{E:Value->Shared->Prop}{i:Nat}{x:Str}{v:V}{u:Value}{Q:Unit->Shared->Prop}(I:Inv X pins σ H s)(hN:X.N.Nodup)(hi:X.N[i]? = some x)(hx:Loc X.env.scope x)(r:RelV v u)
  (h:∀s',Inv X pins (σ.set i (some v)) H s'->(∃a,Heap.SameBut a s.heap s'.heap/\(a=X.env.locals\/X.env.cells.lookup x=some a))->Q () s') (hf:X.fn x=true\/X.env.scope.names.lookup x=some .local:=by first|exact .inl rfl|exact .inr rfl|assumption):wpAny M A (storeName X.env x u) Q E s:=by
 obtain⟨m,hn,hl⟩:=id I.loc;have hcls:(X.env.scope.kind == .class || (X.env.scope.kind == .module&&X.env.locals != X.env.globals))=false:=by rw [I.ok.kind];rfl
 have hiσ : i < σ.length:=by rw [I.len];exact(n8.mp hi).1
 have cne:=I.cne;have tracked:∀ {a:Addr} {h':Heap},(∃o,s.heap.get? a=some o/\H a=none)->Heap.SameBut a s.heap h'->HOk X.prog X.w H h':=fun {a h'} ha hs b ob e=>by
  obtain⟨_,_,hfree⟩:=ha;refine(I.hok b ob e).stay (fun c w' hc q=>(hs.2 c ?_).trans q) (fun _ q=>q) fun _ _ q=>q
  rintro rfl
  rcases hc with rfl|hc
  ·rw [hfree] at e;cases e
  ·rw [hfree] at hc;cases hc
 rcases hx with hk|hk
 ·refine wpAny_storeName_local hk hn (fun h' hn' hs=>?_) hcls
  obtain⟨oL,_,_,hoL,_⟩:=id hn;refine h _ ⟨I.ok,I.os,I.bare,⟨fun b o e n hb hx=>?_,fun b o e n hb hx=>?_,I.base.free,fun b o e hx=>?_,I.base.tups,I.base.frzs,I.base.tbls⟩,⟨_,hn',fun j y v' e1 e2 e3=>?_⟩,fun y c e=>?_,I.free,I.freeC,fun p hp=>?_,tracked ⟨oL,hoL,I.free⟩ hs,by simpa using I.len⟩ ⟨_,hs,.inl rfl⟩
  ·exact(hs.2 b (ma (m8 (gq e) I.ok.above))).trans (I.base.keep b o e n hb hx)
  ·obtain⟨sl,e1⟩:=I.base.slot b o e n hb hx
   exact⟨sl,(hs.2 b (ma (m8 (gq e) I.ok.above))).trans e1⟩
  ·obtain⟨o',e1⟩:=I.base.there b o e hx
   exact⟨o',(hs.2 b (ma (m8 (gq e) I.ok.above))).trans e1⟩
  ·by_cases hj:j=i
   ·subst hj
    rw [hi] at e1;cases e1;rw [g22 hiσ] at e2;cases e2;exact⟨u,r,.inl ⟨hk,by simp⟩⟩
   ·rw [gf (gu hj)] at e2
    obtain⟨u',r',q⟩:=hl j y v' e1 e2 e3;refine⟨u',r',?_⟩;rcases q with⟨k,e⟩|⟨k,c,e,z⟩
    ·refine .inl ⟨k,?_⟩
     have:y≠x:=fun e=>hj (qch hN e1 (e ▸ hi));simp [this,e]
    ·exact .inr ⟨k,c,e,z.sameBut hs (cne y c e)⟩
  ·obtain⟨w',z⟩:=I.cell y c e
   exact⟨w',z.sameBut hs (cne y c e)⟩
  ·obtain⟨e,n,ne,nf,d⟩:=I.pin p hp
   exact⟨(hs.2 p.1 ne).trans e,n,ne,nf,d⟩
 ·have hfn:X.fn x=true:=by
   rcases hf with z|z
   ·exact z
   ·rw [z] at hk;cases hk
  obtain⟨c,hc⟩:=I.ok.has x (.inl hk);obtain⟨w',z⟩:=I.cell x c hc;refine wpAny_storeName_cell I.ok.kind hk hc z (fun h' hc' hs=>?_);obtain⟨oc,hoc,hocd⟩:=id z;refine h {s with heap:=h'} ⟨I.ok,I.os,I.bare,⟨fun b o e n hb hx=>?_,fun b o e n hb hx=>?_,I.base.free,fun b o e hx=>?_,I.base.tups,I.base.frzs,I.base.tbls⟩,⟨m,hn.sameBut hs (gu (cne x c hc)),fun j y v' e1 e2 e3=>?_⟩,fun y c' e=>?_,I.free,I.freeC,fun p hp=>?_,tracked ⟨oc,hoc,I.freeC x c hc⟩ hs,by simpa using I.len⟩ ⟨c,hs,.inr hc⟩
  ·exact(hs.2 b (ma (m8 (gq e) (I.ok.cab x c hfn hc)))).trans (I.base.keep b o e n hb hx)
  ·obtain⟨sl,e1⟩:=I.base.slot b o e n hb hx
   exact⟨sl,(hs.2 b (ma (m8 (gq e) (I.ok.cab x c hfn hc)))).trans e1⟩
  ·obtain⟨o',e1⟩:=I.base.there b o e hx
   exact⟨o',(hs.2 b (ma (m8 (gq e) (I.ok.cab x c hfn hc)))).trans e1⟩
  ·by_cases hj:j=i
   ·subst hj
    rw [hi] at e1;cases e1;rw [g22 hiσ] at e2;cases e2;exact⟨u,r,.inr ⟨.inl hk,c,hc,hc'⟩⟩
   ·rw [gf (gu hj)] at e2
    obtain⟨u',r',q⟩:=hl j y v' e1 e2 e3;refine⟨u',r',?_⟩;rcases q with q|⟨k,c',e,z'⟩
    ·exact .inl q
    ·refine .inr ⟨k,c',e,z'.sameBut hs ?_⟩
     rintro rfl
     exact hj (qch hN e1 (I.ok.inj _ _ _ e hc ▸ hi))
  ·by_cases hcc:c'=c
   ·subst hcc;exact⟨_,hc'⟩
   ·obtain⟨w2,z2⟩:=I.cell y c' e
    exact⟨w2,z2.sameBut hs hcc⟩
  ·obtain⟨e,n,ne,nf,d⟩:=I.pin p hp
   refine⟨(hs.2 p.1 ?_).trans e,n,ne,nf,d⟩;intro q;rw [q,hoc] at e;have q':oc=p.2:=mi e;exact d w' (by rw [<- q'];exact hocd)
theorem q56{M:Model}{A:Around}{E:Value->Shared->Prop}{i:Nat}{x:Str}{v:V}{u:Value}{Q:Unit->Shared->Prop}(I:Inv X pins σ H s)(hN:X.N.Nodup)(hi:X.N[i]? = some x)(hx:Loc X.env.scope x)(r:RelV v u)
  (h:∀s',Inv X pins (σ.set i (some v)) H s'->Q () s') (hf:X.fn x=true\/X.env.scope.names.lookup x=some .local:=by first|exact .inl rfl|exact .inr rfl|assumption):wpAny M A (storeName X.env x u) Q E s:=
 qh2 I hN hi hx r (fun s' I' _=>h s' I') hf
theorem Inv.call'{s':Shared}{ch:List Addr}(I:Inv X pins σ H s)(ho:s'.os=s.os)(u:Un (frs X.stack) ch H H' s.heap s'.heap)(hok:HOk X.prog X.w H' s'.heap)(hg:AllBare s'.gens)
  (hch:∀b∈ch,(b∈X.ex\/X.s₀.heap.objs.size<=b)/\b≠X.env.locals/\(∀x c,X.env.cells.lookup x=some c->c≠b)/\∀p∈X.pn++pins,p.1≠b):Inv X pins σ H' s':=by
 obtain⟨h',g',d',t',o'⟩:=s';have e:o'=s.os:=ho;subst e;exact I.call (g':=g') (t':=t') (d':=d') u hok hg hch
end
abbrev XK:=Value->Option Addr->Hp->Prop
abbrev St:=List (Option V)
abbrev VK:=V->Hp->Prop
abbrev TE:=St->Hp->VK->Prop
abbrev TT:=St->Hp->(Bool->Hp->Prop)->Prop
abbrev TA:=St->Hp->(List V->Hp->Prop)->Prop
structure Ends where
 nx:St->Hp->Prop
 rt:VK
 bk:St->Hp->Prop:=fun _ _=>False
 ct:St->Hp->Prop:=fun _ _=>False
abbrev TS:=Ends->St->Hp->Prop
def EP(X:Cx)(pins:List (Addr×Obj))(σ : St)(Q:VK)(u:Value)(s':Shared): Prop:=∃v H',Inv X pins σ H' s'/\RelV v u/\Q v H'
def TP(X:Cx)(pins:List (Addr×Obj))(σ : St)(Q:Bool->Hp->Prop)(b:Bool)(s':Shared): Prop:=∃H',Inv X pins σ H' s'/\Q b H'
def AP(X:Cx)(pins:List (Addr×Obj))(σ : St)(Q:List V->Hp->Prop)(us:List Value)(s':Shared): Prop:=∃vs H',Inv X pins σ H' s'/\Vals vs us/\Q vs H'
def SP(X:Cx)(pins:List (Addr×Obj))(D:Ends)(f:Flow)(s':Shared): Prop:=
 match f with
 | .next=>∃ σ' H',Inv X pins σ' H' s'/\D.nx σ' H'
 | .brk=>∃ σ' H',Inv X pins σ' H' s'/\D.bk σ' H'
 | .cont=>∃ σ' H',Inv X pins σ' H' s'/\D.ct σ' H'
 | .ret u=>∃v σ' H',Inv X pins σ' H' s'/\RelV v u/\D.rt v H'
def PE(X:Cx)(e:Expr)(t:TE): Prop:=
 ∀(pins:List (Addr×Obj)) (s:Shared) (σ : St) (H:Hp) (Q:VK),Inv X pins σ H s->t σ H Q->wpAny (model X.prog X.w) X.A (eval e X.env) (EP X pins σ Q) X.xe s
def PT(X:Cx)(e:Expr)(t:TT): Prop:=
 ∀(pins:List (Addr×Obj)) (s:Shared) (σ : St) (H:Hp) (Q:Bool->Hp->Prop),Inv X pins σ H s->t σ H Q->wpAny (model X.prog X.w) X.A (isTrue e X.env (eval e X.env)) (TP X pins σ Q) X.xe s
def PW(X:Cx)(e:Expr)(t:TT): Prop:=
 ∀(whole:Sem Value) (pins:List (Addr×Obj)) (s:Shared) (σ : St) (H:Hp) (Q:Bool->Hp->Prop),Inv X pins σ H s->t σ H Q->wpAny (model X.prog X.w) X.A (isTrue e X.env whole) (TP X pins σ Q) X.xe s
theorem PW.pt{X:Cx}{e:Expr}{t:TT}(h:PW X e t): PT X e t:=h _
def PA(X:Cx)(es:List Expr)(t:TA): Prop:=
 ∀(pos:Pos) (pins:List (Addr×Obj)) (s:Shared) (σ : St) (H:Hp) (Q:List V->Hp->Prop),Inv X pins σ H s->t σ H Q->wpAny (model X.prog X.w) X.A (spliced (backTo pos (starEach es X.env))) (AP X pins σ Q) X.xe s
def PS(X:Cx)(st:Stmt)(t:TS): Prop:=
 ∀(pins:List (Addr×Obj)) (s:Shared) (σ : St) (H:Hp) (D:Ends),Inv X pins σ H s->t D σ H->wpAny (model X.prog X.w) X.A (exec st X.env) (SP X pins D) X.xe s
def PSs(X:Cx)(st:List Stmt)(t:TS): Prop:=
 ∀(pins:List (Addr×Obj)) (s:Shared) (σ : St) (H:Hp) (D:Ends),Inv X pins σ H s->t D σ H->wpAny (model X.prog X.w) X.A (execs st X.env) (SP X pins D) X.xe s
theorem thn{α : Type}{t:Sem α}{Q Q' : α -> Shared->Prop}{M:Model}{A:Around}{E:Value->Shared->Prop}{s:Shared}(h:wpAny M A t Q E s)(hQ:∀a s,Q a s->Q' a s): wpAny M A t Q' E s:=mw h hQ fun _ _ x=>x
section
variable{X:Cx}
def wo(i:Nat): TE:=fun σ H Q=>∃v, σ[i]? = some (some v)/\Q v H
def tC(v:V): TE:=fun _ H Q=>Q v H
theorem qn2{i:Nat}{x:Str}{pos:Pos}(hN:X.N[i]? = some x)(hv:Vis X.env.scope x)(hd:(x==("__debug__" : Str))=false:=by decide)(hcd:(x==("__classdict__" : Str))=false:=by decide): PE X (.Name x pos) (wo i):=by
 intro pins s σ H Q I h;obtain⟨v,e,h⟩:=h;obtain⟨m,hn,hl⟩:=I.loc;obtain⟨u,r,l⟩:=hl i x v hN e hv;have fin:EP X pins σ Q u s:=⟨v,H,I,r,h⟩
 rcases l with⟨hk,hm⟩|⟨hk,c,hc,hcell⟩
 ·exact wpAny_Name (wpAny_loadName_local I.ok.kind hk hn hm fin) hd
 ·rcases hk with hk|hk
  ·exact wpAny_Name (wpAny_loadName_cell I.ok.kind hk hc hcell fin) hd
  ·exact wpAny_Name (wpAny_loadName_free I.ok.kind hk hc hcell fin hcd) hd
theorem qn3{i j pos}: PE X (.Constant (.int i) j pos) (tC (.int i)):=fun _ _ _ H _ I h=>wpAny_Constant_int ⟨.int i,H,I.tok _,⟨_,rfl⟩,h⟩
theorem qpd{b j pos}: PE X (.Constant (.bool b) j pos) (tC (.bl b)):=fun _ _ _ H _ I h=>Constant_bool ⟨.bl b,H,I,rfl,h⟩
theorem qn4{j pos}: PE X (.Constant .none j pos) (tC .non):=fun _ _ _ H _ I h=>Constant_none ⟨.non,H,I,rfl,h⟩
theorem qn5{x j pos}: PE X (.Constant (.str x) j pos) (tC (.str x)):=fun _ _ _ H _ I h=>g09 ⟨.str x,H,I.tok _,⟨_,rfl⟩,h⟩
def Gl(X:Cx)(x:Str): Prop:=X.env.kindOf x=some .globalImplicit
theorem q1a{E:Value->Shared->Prop}{pins:List (Addr×Obj)}{s:Shared}{σ : St}{H:Hp}{x:Str}{u:Value}{pos:Pos}{Q:Value->Shared->Prop}(I:Inv X pins σ H s)(hg:Gl X x)(hm:X.mg x=some u)(h:Q u s)
  (hd:(x==("__debug__" : Str))=false:=by decide):wpAny (model X.prog X.w) X.A (eval (.Name x pos) X.env) Q E s:=
 Calls.Name_function_global I.ok.kind hg (Calls.loadGlobal_global (by rw [I.ok.glob];exact I.mod.glob.keeps I.bk) hm h) hd
theorem q1h{E:Value->Shared->Prop}{pins:List (Addr×Obj)}{s:Shared}{σ : St}{H:Hp}{x:Str}{u:Value}{pos:Pos}{Q:Value->Shared->Prop}(I:Inv X pins σ H s)(hg:Gl X x)(hm:X.mg x=none)(hv:bootBuiltins x=some u)(h:Q u s)
  (hn:x≠"__name__" :=by decide) (hd:(x==("__debug__" : Str))=false:=by decide):wpAny (model X.prog X.w) X.A (eval (.Name x pos) X.env) Q E s:=by
 obtain⟨mb,h1,h2⟩:=I.mod.blt;exact Calls.Name_function_global I.ok.kind hg (Calls.loadGlobal_builtin (by rw [I.ok.glob];exact I.mod.glob.keeps I.bk) hm (by rw [I.ok.blt];exact h1.keeps I.bk) ((h2 x hn).trans hv) h) hd
theorem vg{x:Str}{v:V}{u:Value}{pos:Pos}(hg:Gl X x)(hm:X.mg x=some u)(r:RelV v u)(hd:(x==("__debug__" : Str))=false:=by decide): PE X (.Name x pos) (tC v):=
 fun _ _ _ H _ I h=>q1a I hg hm ⟨v,H,I,r,h⟩ hd
theorem qev{x:Str}{v:V}{u:Value}{pos:Pos}(hg:Gl X x)(hm:X.mg x=none)(hv:bootBuiltins x=some u)(r:RelV v u)(hn:x≠"__name__" :=by decide)(hd:(x==("__debug__" : Str))=false:=by decide): PE X (.Name x pos) (tC v):=
 fun _ _ _ H _ I h=>q1h I hg hm hv ⟨v,H,I,r,h⟩ hn hd
variable{a b:Expr}{ta tb:TE}{pos:Pos}
theorem q57(b:Expr){op:CmpOp}(h:op ≠ .In)(h2:op ≠ .NotIn): behindInMarks op b=false:=by
 have e1:(op==CmpOp.In)=false:=by cases op <;> first|rfl|exact absurd rfl h
 have e2:(op==CmpOp.NotIn)=false:=by cases op <;> first|rfl|exact absurd rfl h2
 cases b <;> simp [behindInMarks,e1,e2]
variable{tA tB':TT}{rest:List Expr}
def qqm(t u:TT): TT:=fun σ H Q=>t σ H fun c H1=>if c=true then u σ H1 Q else Q false H1
def tOr(t u:TT): TT:=fun σ H Q=>t σ H fun c H1=>if c=true then Q true H1 else u σ H1 Q
def qqn(t:TT): TT:=fun σ H Q=>t σ H fun c H1=>Q (!c) H1
theorem qew(ha:PT X a tA): PW X (.BoolOp .And [a] pos) tA:=by
 intro wh pins s σ H Q I h;refine isTrue_and (thn (ha pins s σ H Q I h) fun c s1 e=>?_);cases c with
 | true=>exact isTrue_and_nil e
 | false=>exact e
theorem qh3(ha:PT X a tA): PW X (.BoolOp .Or [a] pos) tA:=by
 intro wh pins s σ H Q I h;refine isTrue_or (thn (ha pins s σ H Q I h) fun c s1 e=>?_);cases c with
 | false=>exact isTrue_or_nil e
 | true=>exact e
theorem qh4(ha:PT X a tA)(hb:PW X (.BoolOp .And (b :: rest) pos) tB'): PW X (.BoolOp .And (a :: b :: rest) pos) (qqm tA tB'):=by
 intro wh pins s σ H Q I h;refine isTrue_and (thn (ha pins s σ H _ I h) fun c s1 ⟨H1,I1,q1⟩=>?_);cases c with
 | true=>exact hb wh pins s1 σ H1 Q I1 q1
 | false=>exact⟨H1,I1,q1⟩
theorem ql1(ha:PT X a tA)(hb:PW X (.BoolOp .Or (b :: rest) pos) tB'): PW X (.BoolOp .Or (a :: b :: rest) pos) (tOr tA tB'):=by
 intro wh pins s σ H Q I h;refine isTrue_or (thn (ha pins s σ H _ I h) fun c s1 ⟨H1,I1,q1⟩=>?_);cases c with
 | true=>exact⟨H1,I1,q1⟩
 | false=>exact hb wh pins s1 σ H1 Q I1 q1
theorem qh5(ha:PT X a tA): PT X (.UnaryOp .Not a pos) (qqn tA):=by
 intro pins s σ H Q I h;exact isTrue_not (ha pins s σ H (fun c H1=>Q (!c) H1) I h)
def qpe(ta tb:TE): TE:=fun σ H Q=>ta σ H fun x H1=>∃c,x=.bl c/\if c=true then tb σ H1 Q else Q (.bl false) H1
def qpf(ta:TE): TE:=fun σ H Q=>ta σ H fun x H1=>∃c,x=.bl c/\Q (.bl (!c)) H1
theorem qn6{op}{t:TE}(h:PE X a t): PE X (.BoolOp op [a] pos) t:=fun pins s σ H Q I hw=>BoolOp_one (h pins s σ H Q I hw)
theorem qn7(ha:PE X a ta)(hb:PE X (.BoolOp .And (b :: rest) pos) tb): PE X (.BoolOp .And (a :: b :: rest) pos) (qpe ta tb):=by
 intro pins s σ H Q I h;refine BoolOp_and (thn (ha pins s σ H _ I h) fun v s1 ⟨x,H1,I1,r1,q1⟩=>?_);obtain⟨c,rfl,q1⟩:=q1;cases r1;refine u0 ?_;cases c with
 | true=>exact hb pins s1 σ H1 Q I1 q1
 | false=>exact⟨.bl false,H1,I1,rfl,q1⟩
theorem qn8(ha:PE X a ta): PE X (.UnaryOp .Not a pos) (qpf ta):=by
 intro pins s σ H Q I h;refine UnaryOp_ (thn (ha pins s σ H _ I h) fun v s1 ⟨x,H1,I1,r1,q1⟩=>?_);obtain⟨c,rfl,q1⟩:=q1;cases r1;exact not_of (u0 ⟨.bl (!c),H1,I1,rfl,q1⟩)
def tIf(t:TT)(ta tb:TE): TE:=fun σ H Q=>t σ H fun c H1=>if c=true then ta σ H1 Q else tb σ H1 Q
theorem qj5{c:Expr}(hc:PT X c tA)(ha:PE X a ta)(hb:PE X b tb): PE X (.IfExp c a b pos) (tIf tA ta tb):=by
 intro pins s σ H Q I h;refine wpAny_IfExp (thn (hc pins s σ H _ I h) fun d s1 ⟨H1,I1,q1⟩=>?_);cases d with
 | true=>exact ha pins s1 σ H1 Q I1 q1
 | false=>exact hb pins s1 σ H1 Q I1 q1
end
def SqL(K:PySem.W.Frag)(H:Hp)(a:Addr)(xs:List V): Prop:=
 Rd H a (.lst xs) \/
  ∃(o:Obj) (its:Array Value) (n:Nat),K.lookup a=some o/\o.cls=.type "list" /\ o.dict=none/\o.data=.seq its n/\its.size<=sizeLine/\Vals xs its.toList
def SqT(K:PySem.W.Frag)(H:Hp)(a:Addr)(xs:List V): Prop:=
 Rd H a (.tup xs) \/
  ∃(o:Obj) (its:Array Value) (n:Nat),K.lookup a=some o/\o.cls=.type "tuple" /\ o.dict=none/\o.data=.seq its n/\its.size<=sizeLine/\Vals xs its.toList
def qqo:Value->Option V
 | .none=>some .non
 | .bool b=>some (.bl b)
 | .int i _=>some (.int i)
 | .str x _=>some (.str x)
 | .bytes b _=>some (.byt b)
 | .float b _=>some (.flt b)
 | .ref a=>some (.ref a)
 | .type n=>some (.ty n)
 | _=>none
theorem RelV.abs{x:V}{u:Value}(r:RelV x u): qqo u=some x:=by
 cases x with
 | non=>cases r;rfl
 | bl _=>cases r;rfl
 | int _=>obtain⟨t,rfl⟩:=r;rfl
 | str _=>obtain⟨t,rfl⟩:=r;rfl
 | byt _=>obtain⟨t,rfl⟩:=r;rfl
 | flt _=>obtain⟨t,rfl⟩:=r;rfl
 | ref _=>cases r;rfl
 | ty _=>cases r;rfl
theorem RelV.inj{x y:V}{u:Value}(r:RelV x u)(q:RelV y u): x=y:=mi (r.abs.symm.trans q.abs)
theorem Vals.inj:∀ {xs ys:List V} {us:List Value},Vals xs us->Vals ys us->xs=ys
 | _,_,_,.nil,.nil=>rfl
 | _,_,_,.cons r t,.cons r' t'=>by rw [r.inj r',Vals.inj t t']
section
variable{X:Cx}{pins:List (Addr×Obj)}{σ : St}{H:Hp}{s:Shared}{a:Addr}{xs ys:List V}
theorem SqL.of{K:PySem.W.Frag}(h:H a=some (.lst xs)): SqL K H a xs:=.inl (.inl h)
theorem SqT.of{K:PySem.W.Frag}(h:H a=some (.tup xs)): SqT K H a xs:=.inl (.inl h)
theorem Inv.list(I:Inv X pins σ H s)(h:SqL X.K H a xs): ∃its:List Value,Vals xs its/\PlainL s.heap a its.toArray/\xs.length<=sizeLine:=by
 rcases h with h|⟨o,its,n,hk,hc,hd,hs,hz,r⟩
 ·obtain⟨z,its,n,r,e⟩:=h.ok I.hok
  exact⟨its,r,⟨_,n,e,rfl,rfl,rfl⟩,z⟩
 ·refine⟨its.toList,r,⟨o,n,I.kIn a o hk,hc,hd,by simpa using hs⟩,?_⟩
  have e:=r.length;simp only [ui] at e;omega
theorem Inv.tupleX(I:Inv X pins σ H s)(h:SqT X.K H a xs): ∃its:List Value,Vals xs its/\TupX s.heap a its.toArray/\xs.length<=sizeLine:=by
 rcases h with h|⟨o,its,n,hk,hc,hd,hs,hz,r⟩
 ·obtain⟨z,its,r,p⟩:=h.ok I.hok
  exact⟨its,r,p,z⟩
 ·refine⟨its.toList,r,⟨o,I.kIn a o hk,hc,hd,n,by simpa using hs⟩,?_⟩
  have e:=r.length;simp only [ui] at e;omega
theorem Inv.tuple(I:Inv X pins σ H s)(h:SqT X.K H a xs): ∃its:List Value,Vals xs its/\IsTup s.heap a its.toArray/\xs.length<=sizeLine:=let⟨its,r,p,z⟩:=I.tupleX h; ⟨its,r,p.up,z⟩
theorem Inv.list_inj(I:Inv X pins σ H s)(h:SqL X.K H a xs)(h':SqL X.K H a ys): xs=ys:=by
 obtain⟨its,r,⟨o,n,e,_,_,d⟩,_⟩:=I.list h;obtain⟨its',r',⟨o',n',e',_,_,d'⟩,_⟩:=I.list h';rw [e] at e';cases e';rw [d] at d';injection d' with d1 _
 have:its=its':=by simpa using tf Array.toList d1
 subst this;exact r.inj r'
theorem Inv.tuple_inj(I:Inv X pins σ H s)(h:SqT X.K H a xs)(h':SqT X.K H a ys): xs=ys:=by
 obtain⟨its,r,⟨o,e,_,n,d⟩,_⟩:=I.tuple h;obtain⟨its',r',⟨o',e',_,n',d'⟩,_⟩:=I.tuple h';rw [e] at e';cases e';rw [d] at d';injection d' with d1 _
 have:its=its':=by simpa using tf Array.toList d1
 subst this;exact r.inj r'
end
abbrev Cx.wish(X:Cx)(E:Value->Shared->Prop): Cx:={X with xe:=E}
abbrev Cx.nox(X:Cx): Cx:=X.wish fun _ _=>False
theorem Cx.Ok.wish{X:Cx}(ok:X.Ok)(E:Value->Shared->Prop): (X.wish E).Ok:=
 ⟨ok.mod,ok.kind,ok.glob,ok.blt,ok.above,ok.inj,ok.has,ok.cab,ok.hd,ok.frames,ok.stk,ok.exf,ok.bs,ok.bsz,ok.noex,ok.exfs,ok.funs,ok.frf⟩
theorem Cx.Ok.unwish{X:Cx}{E:Value->Shared->Prop}(ok:(X.wish E).Ok): X.Ok:=
 ⟨ok.mod,ok.kind,ok.glob,ok.blt,ok.above,ok.inj,ok.has,ok.cab,ok.hd,ok.frames,ok.stk,ok.exf,ok.bs,ok.bsz,ok.noex,ok.exfs,ok.funs,ok.frf⟩
section
variable{X:Cx}{pins:List (Addr×Obj)}{σ : St}{H:Hp}{s:Shared}{E:Value->Shared->Prop}
theorem Inv.wish(I:Inv X pins σ H s)(E:Value->Shared->Prop): Inv (X.wish E) pins σ H s:=⟨I.ok.wish E,I.os,I.bare,I.base,I.loc,I.cell,I.free,I.freeC,I.pin,I.hok,I.len⟩
theorem Inv.unwish(I:Inv (X.wish E) pins σ H s): Inv X pins σ H s:=⟨I.ok.unwish,I.os,I.bare,I.base,I.loc,I.cell,I.free,I.freeC,I.pin,I.hok,I.len⟩
theorem SP.unwish{D:Ends}{f:Flow}{s':Shared}(h:SP (X.wish E) pins D f s'): SP X pins D f s':=by
 cases f with
 | next=>obtain⟨σ',H',I,q⟩:=h;exact⟨σ',H',I.unwish,q⟩
 | brk=>obtain⟨σ',H',I,q⟩:=h;exact⟨σ',H',I.unwish,q⟩
 | cont=>obtain⟨σ',H',I,q⟩:=h;exact⟨σ',H',I.unwish,q⟩
 | ret u=>obtain⟨v, σ',H',I,r,q⟩:=h;exact⟨v, σ',H',I.unwish,r,q⟩
theorem PT.nox{e:Expr}{t:TT}(h:PT X.nox e t): PT X e t:=fun pins s σ H Q I hw=>
 mw (h pins s σ H Q (I.wish _) hw) (fun _ _ ⟨H',I',q⟩=>⟨H',I'.unwish,q⟩) fun _ _ z=>False.elim z
theorem PSs.nox{st:List Stmt}{t:TS}(h:PSs X.nox st t): PSs X st t:=fun pins s σ H D I hw=>
 mw (h pins s σ H D (I.wish _) hw) (fun _ _ q=>q.unwish) fun _ _ z=>False.elim z
end
section
variable{X:Cx}{st:Stmt}{rest:List Stmt}{t u:TS}{e:Expr}{te:TE}{pos:Pos}
def tNext:TS:=fun D σ H=>D.nx σ H
def qqp(t u:TS): TS:=fun D σ H=>t {D with nx:=u D} σ H
theorem qln:PSs X [] tNext:=fun _ _ σ H _ I h=>g0s ⟨σ,H,I,h⟩
theorem qci(h1:PS X st t)(h2:PSs X rest u): PSs X (st :: rest) (qqp t u):=by
 intro pins s σ H D I h;refine uz (thn (h1 pins s σ H {D with nx:=u D} I h) fun f s1 q=>?_);cases f with
 | next=>
  obtain⟨σ',H',I',q⟩:=q;exact h2 pins s1 σ' H' D I' q
 | ret v=>exact q
 | brk=>exact q
 | cont=>exact q
theorem q9v(h1:PS X st t): PSs X [st] t:=by
 intro pins s σ H D I h;refine uz (thn (h1 pins s σ H D I h) fun f s1 q=>?_);cases f with
 | next=>exact g0s q
 | ret v=>exact q
 | brk=>exact q
 | cont=>exact q
theorem Inv.quiet{pins:List (Addr×Obj)}{σ : St}{H:Hp}{s:Shared}(I:Inv X pins σ H s): interactive X.env=false:=by simp [interactive,I.ok.kind]
def qpg(te:TE): TS:=fun D σ H=>te σ H fun _ H1=>D.nx σ H1
theorem q75(he:PE X e te)(hs:swapsWith e none pos.line X.env=pure false:=by rfl): PS X (.Expr e pos) (qpg te):=by
 intro pins s σ H D I h;exact wpAny_Expr_any (thn (he pins s σ H _ I h) fun v s1 ⟨x,H1,I1,r1,q1⟩=>⟨σ,H1,I1,q1⟩) I.quiet hs
def qqq(te:TE): TS:=fun D σ H=>te σ H D.rt
theorem qh6(he:PE X e te): PS X (.Return (some e) pos) (qqq te):=by
 intro pins s σ H D I h;exact wpAny_Return_some (thn (he pins s σ H _ I h) fun v s1 ⟨x,H1,I1,r1,q1⟩=>⟨x, σ,H1,I1,r1,q1⟩)
def qqr(c:TT)(t u:TS): TS:=fun D σ H=>c σ H fun b H1=>if b=true then t D σ H1 else u D σ H1
theorem qc4{c:Expr}{a b:List Stmt}{tc:TT}(hc:PT X c tc)(ha:PSs X a t)(hb:PSs X b u): PS X (.If c a b pos) (qqr tc t u):=by
 intro pins s σ H D I h;refine wpAny_If (thn (hc pins s σ H _ I h) fun d s1 ⟨H1,I1,q1⟩=>?_);cases d with
 | true=>exact ha pins s1 σ H1 D I1 q1
 | false=>exact hb pins s1 σ H1 D I1 q1
end
abbrev TG:=V->St->Hp->(St->Hp->Prop)->Prop
abbrev TGs:=List V->St->Hp->(St->Hp->Prop)->Prop
def PG(X:Cx)(target:Expr)(t:TG): Prop:=
 ∀(pins:List (Addr×Obj)) (s:Shared) (σ : St) (H:Hp) (v:V) (u:Value) (Q:St->Hp->Prop),Inv X pins σ H s->RelV v u->t v σ H Q ->
  wpAny (model X.prog X.w) X.A (assign target X.env u) (fun _ s'=>∃ σ' H',Inv X pins σ' H' s'/\Q σ' H') X.xe s
def PGs(X:Cx)(ts:List Expr)(t:TGs): Prop:=
 ∀(pins:List (Addr×Obj)) (s:Shared) (σ : St) (H:Hp) (vs:List V) (us:List Value) (Q:St->Hp->Prop),Inv X pins σ H s->Vals vs us->t vs σ H Q ->
  wpAny (model X.prog X.w) X.A (assignInOrder ((assignEach ts X.env).map (·.2)) us) (fun _ s'=>∃ σ' H',Inv X pins σ' H' s'/\Q σ' H') X.xe s
abbrev TIp:=V->V->Hp->VK->Prop
def PIp(X:Cx)(op:Operator)(t:TIp): Prop:=
 ∀(pins:List (Addr×Obj)) (s:Shared) (σ : St) (H:Hp) (x y:V) (v u:Value) (Q:VK),Inv X pins σ H s->RelV x v->RelV y u->t x y H Q ->
  wpAny (model X.prog X.w) X.A (inplaceOp op v u) (EP X pins σ Q) X.xe s
section
variable{X:Cx}{pos:Pos}
def qc5(i:Nat): TG:=fun v σ H Q=>Q (σ.set i (some v)) H
theorem qlo{i:Nat}{x:Str}(hN:X.N.Nodup)(hi:X.N[i]? = some x)(hx:Loc X.env.scope x)(hf:X.fn x=true\/X.env.scope.names.lookup x=some .local:=by first|exact .inl rfl|exact .inr rfl|assumption): PG X (.Name x pos) (qc5 i):=by
 intro pins s σ H v u Q I r h;exact wpAny_assign_Name (q56 I hN hi hx r (fun s' I'=>⟨_,H,I',h⟩) hf)
def gNil:TGs:=fun vs σ H Q=>vs=[]/\Q σ H
def qph(t:TG)(u:TGs): TGs:=fun vs σ H Q=>∃v r,vs=v :: r/\t v σ H fun σ' H'=>u r σ' H' Q
theorem qlp:PGs X [] gNil:=by
 intro pins s σ H vs us Q I r h;obtain⟨e,h⟩:=h;subst e;cases r;exact assignInOrder_nil ⟨σ,H,I,h⟩
theorem qj6{e:Expr}{es:List Expr}{t:TG}{u:TGs}(h1:PG X e t)(h2:PGs X es u)
  (hs:(assignEach (e :: es) X.env).map (·.2)=assign e X.env :: (assignEach es X.env).map (·.2):=by rfl):PGs X (e :: es) (qph t u):=by
 intro pins s σ H vs us Q I r h;obtain⟨v,vr,e1,h⟩:=h;subst e1;cases r with
 | cons r rr=>
  rw [hs];refine assignInOrder_cons (thn (h1 pins s σ H _ _ _ I r h) fun _ s1 ⟨σ1,H1,I1,q1⟩=>?_);exact h2 pins s1 σ1 H1 _ _ Q I1 rr q1
def qqs(K:PySem.W.Frag)(n:Nat)(t:TGs): TG:=fun v σ H Q=>∃a xs,v=.ref a/\SqT K H a xs/\xs.length=n/\t xs σ H Q
theorem qn9{es:List Expr}{k:Nat}{t:TGs}{n:Nat}(hc:X.calm=true)(h:PGs X es t)
  (hn:(assignEach es X.env).length=n:=by rfl) (hst:(assignEach es X.env).findIdx? (·.1)=none:=by rfl):PG X (.Tuple es k pos) (qqs X.K n t):=by
 intro pins s σ H v u Q I r hw;obtain⟨a,xs,e1,hq,hl,hw⟩:=hw;subst e1;cases r;obtain⟨its,rv,ht,hz⟩:=I.tuple hq;refine assign_Tuple_tuple (I.ok.hd hc) ht (by simp [hn, <- hl,rv.length]) hst fun h' hx=>?_;have I1:Inv X pins σ H {s with heap:=h'}:=I.kept (t':=s.toks) fun b o e=>hx b o (ma (gq e)) e;exact h pins _ σ H xs _ Q I1 (by simpa using rv) hw
def qqt(te:TE)(g:TG): TS:=fun D σ H=>te σ H fun x H1=>g x σ H1 D.nx
theorem q8w{i:Nat}{x:Str}{e:Expr}{te:TE}{pos':Pos}(hN:X.N.Nodup)(hi:X.N[i]? = some x)(hx:Loc X.env.scope x)(he:PE X e te)(hs:swapsWith e (some (.Name x pos')) pos.line X.env=pure false:=by rfl)(hf:X.fn x=true\/X.env.scope.names.lookup x=some .local:=by first|exact .inl rfl|exact .inr rfl|assumption):
  PS X (.Assign [.Name x pos'] e pos) (qqt te (qc5 i)):=by
 intro pins s σ H D I h;refine wpAny_Assign_Name (thn (he pins s σ H _ I h) fun v s1 ⟨y,H1,I1,r1,q1⟩=>?_) hs;exact q56 I1 hN hi hx r1 (fun s2 I2=>⟨_,H1,I2,q1⟩) hf
def qna(i:Nat)(te:TE)(ti:TIp): TS:=fun D σ H=>∃x, σ[i]? = some (some x)/\te σ H fun y H1=>ti x y H1 fun z H2=>D.nx (σ.set i (some z)) H2
theorem qnb{i:Nat}{x:Str}{e:Expr}{te:TE}{op:Operator}{ti:TIp}{pos':Pos}(hN:X.N.Nodup)(hi:X.N[i]? = some x)(hx:Loc X.env.scope x)(he:PE X e te)(ho:PIp X op ti)(hf:X.fn x=true\/X.env.scope.names.lookup x=some .local:=by first|exact .inl rfl|exact .inr rfl|assumption):
  PS X (.AugAssign (.Name x pos') op e pos) (qna i te ti):=by
 intro pins s σ H D I h;obtain⟨v,e1,h⟩:=h;obtain⟨m,hn,hl⟩:=I.loc;have vis:Vis X.env.scope x:=by rcases hx with k|k;exact .inl k;exact .inr (.inl k)
 obtain⟨u,r,l⟩:=hl i x v hi e1 vis;refine wpAny_AugAssign_Name ?_;have go:wpAny (model X.prog X.w) X.A (eval e X.env) (fun w s₂=>wpAny (model X.prog X.w) X.A (inplaceOp op u w) (fun r s₃=>wpAny (model X.prog X.w) X.A (storeName X.env x r) (fun _=>SP X pins D .next) X.xe s₃) X.xe s₂) X.xe s:=by
  refine thn (he pins s σ H _ I h) fun w s1 ⟨y,H1,I1,r1,q1⟩=>?_;refine thn (ho pins s1 σ H1 v y u w _ I1 r r1 q1) fun z s2 ⟨zv,H2,I2,r2,q2⟩=>?_;exact q56 I2 hN hi hx r2 (fun s3 I3=>⟨_,H2,I3,q2⟩) hf
 rcases l with⟨hk,hm⟩|⟨hk,c,hc,hcell⟩
 ·exact wpAny_loadName_local I.ok.kind hk hn hm go
 ·rcases hk with hk|hk
  ·exact wpAny_loadName_cell I.ok.kind hk hc hcell go
  ·rcases hx with k|k
   ·have:X.env.scope.names.lookup x=some .free:=hk
    rw [k] at this;cases this
   ·have:X.env.scope.names.lookup x=some .free:=hk
    rw [k] at this;cases this
def ipI(f:Int->Int->Int): TIp:=fun x y H Q=>∃i j,x=.int i/\y=.int j/\Q (.int (f i j)) H
theorem qnc:PIp X .Sub (ipI fun i j=>i-j):=by
 intro pins s σ H x y v u Q I r1 r2 h;obtain⟨i,j,e1,e2,q⟩:=h;subst e1;subst e2;obtain⟨t,rfl⟩:=r1;obtain⟨t',rfl⟩:=r2;exact isub_int ⟨.int _,H,I.tok _,⟨_,rfl⟩,q⟩
end
section
variable{X:Cx}{pos:Pos}
end
structure It where
 go:Nat->Hp->Prop
 yld:Nat->Hp->V->Hp->Prop
 stop:Nat->Hp->Prop
def q0y(X:Cx)(pins:List (Addr×Obj))(H:Hp)(b:Addr): Prop:=
 H b=none/\b≠X.env.locals/\b∉X.fs/\(b∈X.ex\/X.s₀.heap.objs.size<=b)/\(∀x c,X.env.cells.lookup x=some c->c≠b)/\∀p∈X.pn++pins,p.1≠b
theorem Inv.fpOk{X:Cx}{pins:List (Addr×Obj)}{σ : St}{H H':Hp}{s:Shared}{b:Addr}(I:Inv X pins σ H s)(hb:s.heap.objs.size<=b)(hn:H' b=none): q0y X pins H' b:=by
 refine⟨hn,ur (m8 I.lt hb),I.nofs hb,.inr (mj I.sz hb),fun x c e z=>?_,fun p hp z=>?_⟩
 ·obtain⟨v,q⟩:=I.cell x c e
  exact absurd (m8 q.lt (by rw [z];exact hb)) (pd _)
 ·exact absurd (m8 (gq (I.pin p hp).1) (by rw [z];exact hb)) (pd _)
structure Turn(P:Program)(w:World)(K:PySem.W.Frag)(tg:Expr)(J:It)(fp:List Addr)(it:Addr)(tn:Nat->Heap->Prop): Prop where
 mem:it∈fp
 obj:∀i h,tn i h->∀b∈fp,∃o,h.get? b=some o/\∀v,o.data ≠ .cell v
 keep:∀i h h',tn i h->(∀b∈fp,∀o,h.get? b=some o->h'.get? b=some o)->tn i h'
 item:∀(X:Cx),X.prog=P->X.w=w->X.K=K->X.calm=true->∀(i:Nat) (pins:List (Addr×Obj)) (s:Shared) (σ : St) (H:Hp) (E:Value->Shared->Prop),Inv X pins σ H s->(∀b∈fp,q0y X pins H b)->tn i s.heap->J.go i H ->
  wpAny (model P w) X.A (pyNext (.ref it)) (fun r s1=>∃u,r=some u /\
   wpAny (model P w) X.A (letOwnedTupleGo tg (.ref it) u) (fun _ s2=>∃x H',Inv X pins σ H' s2/\RelV x u/\J.yld i H x H'/\tn (i+1) s2.heap/\∀b∈fp,H' b=none) E s1) E s
 done:∀(X:Cx),X.prog=P->X.w=w->X.K=K->X.calm=true->∀(i:Nat) (pins:List (Addr×Obj)) (s:Shared) (σ : St) (H:Hp) (E:Value->Shared->Prop),Inv X pins σ H s->(∀b∈fp,q0y X pins H b)->tn i s.heap->J.stop i H ->
  wpAny (model P w) X.A (pyNext (.ref it)) (fun r s1=>r=none/\Inv X pins σ H s1) E s
 self:∀(A:Around) (i:Nat) (s:Shared) (Q:Value->Shared->Prop) (E:Value->Shared->Prop),tn i s.heap->Q (.ref it) s->wpAny (model P w) A (pyIter (.ref it)) Q E s
abbrev TI:=St->Hp->(It->Hp->Prop)->Prop
def PIE(X:Cx)(pins:List (Addr×Obj))(σ : St)(tg:Expr)(R:It->Hp->Prop)(itv:Value)(s2:Shared): Prop:=
 ∃(it:Addr) (fp:List Addr) (tn:Nat->Heap->Prop) (J:It) (H':Hp),itv=.ref it/\Inv X pins σ H' s2/\Turn X.prog X.w X.K tg J fp it tn/\tn 0 s2.heap/\(∀b∈fp,q0y X pins H' b)/\R J H'
def PI(X:Cx)(tg iter:Expr)(wi:TI): Prop:=
 ∀(pins:List (Addr×Obj)) (s:Shared) (σ : St) (H:Hp) (R:It->Hp->Prop),Inv X pins σ H s->wi σ H R ->
  wpAny (model X.prog X.w) X.A (eval iter X.env) (fun v s1=>wpAny (model X.prog X.w) X.A (pyIter v) (PIE X pins σ tg R) X.xe s1) X.xe s
theorem qg1{M:Model}{A:Around}{E:Value->Shared->Prop}{s:Shared}{tg:Expr}{it:Addr}{u:Value}{o:Obj}{n:String}{vs:Array Value}{Q:Unit->Shared->Prop}(ho:s.heap.get? it=some o)(hc:o.cls=.type n)(hd:o.data=.fields vs)
  (hn:["enumerate","zip","dict_itemiterator","dict_reverseitemiterator","odict_iterator","itertools.zip_longest","itertools.pairwise"].contains n=false) (hQ:Q () s):wpAny M A (letOwnedTupleGo tg (.ref it) u) Q E s:=by
 unfold letOwnedTupleGo;cases tg <;> first
  | exact gh hQ
  | (cases u <;> first
    | exact gh hQ
    | (refine g9 (wpAny_load ho ?_);rw [hc,hd];show wpAny M A (if(["enumerate","zip","dict_itemiterator","dict_reverseitemiterator","odict_iterator","itertools.zip_longest","itertools.pairwise"].contains n&&vs[0]? == some (rawInt _))=true then _ else _) Q E s;rw [gy (by intro h;rw [hn,pj] at h;cases h)];exact gh hQ))
def Itl(K:PySem.W.Frag)(a:Addr): It:=
 ⟨fun i H=>∃xs x,SqL K H a xs/\xs[i]? = some x,fun i H x H'=>H'=H/\∀xs,SqL K H a xs->xs[i]? = some x,fun i H=>∃xs,SqL K H a xs/\xs.length<=i⟩
def Itt(K:PySem.W.Frag)(a:Addr): It:=
 ⟨fun i H=>∃xs x,SqT K H a xs/\xs[i]? = some x,fun i H x H'=>H'=H/\∀xs,SqT K H a xs->xs[i]? = some x,fun i H=>∃xs,SqT K H a xs/\xs.length<=i⟩
def Itr(lo:Int)(n:Nat): It:=⟨fun i _=>i<n,fun i H x H'=>H'=H/\x=.int (lo+i),fun i _=>n<=i⟩
theorem qh7{P:Program}{w:World}{K:PySem.W.Frag}{tg:Expr}(a it:Addr): Turn P w K tg (Itl K a) [it] it (fun i h=>h.IsListIter it a i) where
 mem:=by simp
 obj:=fun i h st b hb=>by
  have e:b=it:=by simpa using hb
  subst e;obtain⟨o,e,c,d⟩:=st;exact⟨o,e,fun v z=>by rw [d] at z;cases z⟩
 keep:=fun i h h' st k=>st.at fun o e=>k it (by simp) o e
 item:=by
  intro X hP hw hK hc i pins s σ H E I hf st hg;subst hP hw hK;obtain⟨xs,x,hq,hx⟩:=hg;obtain⟨its,rv,p,hz⟩:=I.list hq;obtain⟨u,hu,ru⟩:=rv.get hx;obtain⟨f0,f1,f2,f3,f4,f5⟩:=hf it (by simp);refine wpAny_pyNext_list_item st p.isList (x:=u) (by simpa using hu) fun h' st' sb=>?_;have I1:Inv X pins σ H {s with heap:=h'}:=I.turned (t':=s.toks) (fun b o hb e=>(sb.2 b hb).trans e) f0 f1 f3 f4 f5;obtain⟨o,e,c,d⟩:=id st';exact⟨u,rfl,qg1 (s:={s with heap:=h'}) e c d (by decide) ⟨x,H,I1,ru,⟨rfl,fun ys hy=>by rw [I.list_inj hy hq];exact hx⟩,st',fun b hb=>(hf b hb).1⟩⟩
 done:=by
  intro X hP hw hK hc i pins s σ H E I hf st hg;subst hP hw hK;obtain⟨xs,hq,hx⟩:=hg;obtain⟨its,rv,p,hz⟩:=I.list hq;obtain⟨f0,f1,f2,f3,f4,f5⟩:=hf it (by simp);have hl:=rv.length;exact wpAny_pyNext_list_end (I.ok.hd hc) st p.isList (by simp;omega) fun h' eb=>⟨rfl,I.turned (t':=s.toks) (fun b o hb e=>eb b o hb e) f0 f1 f3 f4 f5⟩
 self:=fun _ _ _ _ _ st h=>wpAny_pyIter_listiter st h
theorem qg2{P:Program}{w:World}{K:PySem.W.Frag}{tg:Expr}(a it:Addr): Turn P w K tg (Itt K a) [it] it (fun i h=>h.IsTupleIter it a i) where
 mem:=by simp
 obj:=fun i h st b hb=>by
  have e:b=it:=by simpa using hb
  subst e;obtain⟨o,e,c,d⟩:=st;exact⟨o,e,fun v z=>by rw [d] at z;cases z⟩
 keep:=fun i h h' st k=>st.at fun o e=>k it (by simp) o e
 item:=by
  intro X hP hw hK hc i pins s σ H E I hf st hg;subst hP hw hK;obtain⟨xs,x,hq,hx⟩:=hg;obtain⟨its,rv,p,hz⟩:=I.tuple hq;obtain⟨u,hu,ru⟩:=rv.get hx;obtain⟨f0,f1,f2,f3,f4,f5⟩:=hf it (by simp);refine wpAny_pyNext_tuple_item st (show s.heap.IsTuple a its.toArray from p) (x:=u) (by simpa using hu) fun h' st' sb=>?_;have I1:Inv X pins σ H {s with heap:=h'}:=I.turned (t':=s.toks) (fun b o hb e=>(sb.2 b hb).trans e) f0 f1 f3 f4 f5;obtain⟨o,e,c,d⟩:=id st';exact⟨u,rfl,qg1 (s:={s with heap:=h'}) e c d (by decide) ⟨x,H,I1,ru,⟨rfl,fun ys hy=>by rw [I.tuple_inj hy hq];exact hx⟩,st',fun b hb=>(hf b hb).1⟩⟩
 done:=by
  intro X hP hw hK hc i pins s σ H E I hf st hg;subst hP hw hK;obtain⟨xs,hq,hx⟩:=hg;obtain⟨its,rv,p,hz⟩:=I.tuple hq;obtain⟨f0,f1,f2,f3,f4,f5⟩:=hf it (by simp);have hl:=rv.length;exact wpAny_pyNext_tuple_end (I.ok.hd hc) st (show s.heap.IsTuple a its.toArray from p) (by simp;omega) fun h' eb=>⟨rfl,I.turned (t':=s.toks) (fun b o hb e=>eb b o hb e) f0 f1 f3 f4 f5⟩
 self:=fun _ _ _ _ _ st h=>wpAny_pyIter_tupleiter st h
theorem qg3{P:Program}{w:World}{K:PySem.W.Frag}{tg:Expr}(it:Addr)(lo:Int)(n:Nat): Turn P w K tg (Itr lo n) [it] it (fun i h=>IsRangeIter h it (lo+(i:Nat)*1) ((n:Int)-(i:Nat)) 1) where
 mem:=by simp
 obj:=fun i h st b hb=>by
  have e:b=it:=by simpa using hb
  subst e;exact⟨_,st,fun v z=>by
   have z':Data.fields _=Data.cell v:=z;cases z'⟩
 keep:=fun i h h' st k=>k it (by simp) _ st
 item:=by
  intro X hP hw hK hc i pins s σ H E I hf st hg;subst hP hw hK;obtain⟨f0,f1,f2,f3,f4,f5⟩:=hf it (by simp);have W:=Walks.range (prog:=X.prog) (w:=X.w) (I.ok.hd hc) it lo 1 n;refine W.item i s _ _ hg st fun v h' tk hv st' kk=>?_;obtain⟨t,rfl⟩:=hv;have I1:Inv X pins σ H {s with heap:=h',toks:=tk}:=I.turned (fun b o hb e=>kk b o (by simpa using hb) e) f0 f1 f3 f4 f5;refine⟨_,rfl,qg1 (s:={s with heap:=h',toks:=tk}) (n:="range_iterator") st' rfl rfl (by decide) ⟨.int (lo+i),H,I1,⟨t,?_⟩,⟨rfl,rfl⟩,st',fun b hb=>(hf b hb).1⟩⟩;rw [Int.mul_one]
 done:=by
  intro X hP hw hK hc i pins s σ H E I hf st hg;subst hP hw hK;obtain⟨f0,f1,f2,f3,f4,f5⟩:=hf it (by simp);exact wpAny_pyNext_range_end (I.ok.hd hc) st (by have:n<=i:=hg;omega) fun h' eb=>⟨rfl,I.turned (t':=s.toks) (fun b o hb e=>eb b o hb e) f0 f1 f3 f4 f5⟩
 self:=fun _ _ _ _ _ st h=>wpAny_pyIter_rangeiter st h
section
variable{X:Cx}{tg:Expr}
theorem qj7{pins:List (Addr×Obj)}{σ : St}{H:Hp}{s:Shared}{R:It->Hp->Prop}{E:Value->Shared->Prop}{lo hi:Int}{t u v:Tok}{tk:Nat}(I:Inv X pins σ H s)(h1 : -(2 ^ 62)<=lo)(h2:lo<2 ^ 62)(h3 : -(2 ^ 62)<=hi)(h4:hi<2 ^ 62)
  (q:R (Itr lo (hi-lo).toNat) H):wpAny (model X.prog X.w) X.A (pyIter (.ref s.heap.objs.size)) (PIE X pins σ tg R) E {s with heap:=s.heap.push {cls:=.type "range",data:=.fields #[.int lo t,.int hi u,.int 1 v]},toks:=tk}:=by
 refine wpAny_pyIter_range (IsRange.new ..) (small_one h1 h2 h3 h4) ?_;have I1:Inv X pins σ H {s with heap:=s.heap.push {cls:=.type "range",data:=.fields #[.int lo t,.int hi u,.int 1 v]},toks:=tk}:=I.kept fun b o e=>gc _ e;refine⟨(s.heap.push {cls:=.type "range",data:=.fields #[.int lo t,.int hi u,.int 1 v]}).objs.size,[(s.heap.push {cls:=.type "range",data:=.fields #[.int lo t,.int hi u,.int 1 v]}).objs.size],_,_,H,rfl,
  I1.kept (t':=tk) fun b o e=>gc _ e,qg3 _ lo (hi-lo).toNat,?_,fun b hb=>?_,q⟩
 ·have e1:lo+((0:Nat):Int)*1=lo:=by simp
  have e2:(((hi-lo).toNat:Nat):Int)-((0:Nat):Int)=Builtin.Range.rangeSize lo hi 1:=by rw [rangeSize_one];split <;> omega
  show IsRangeIter _ _ (lo+((0:Nat):Int)*1) ((((hi-lo).toNat:Nat):Int)-((0:Nat):Int)) 1;rw [e1,e2];exact m4 _ rfl
 ·have e:b=(s.heap.push {cls:=.type "range",data:=.fields #[.int lo t,.int hi u,.int 1 v]}).objs.size:=by simpa using hb
  subst e;exact I1.fpOk (gv _) (I1.hok.fresh (gv _))
def qpi(ta:TA): TI:=fun σ H R=>ta σ H fun vs H1=>∃j:Int,vs=[.int j] /\ -(2 ^ 62)<=j/\j<2 ^ 62/\R (Itr 0 j.toNat) H1
theorem qh8{a:Expr}{ta:TA}{p pos:Pos}(hg:Gl X "range")(hm:X.mg "range" = none)(ha:PA X [a] ta)(hs:starEach [a] X.env=[(false,eval a X.env)]:=by rfl): PI X tg (.Call (.Name "range" p) [a] [] pos) (qpi ta):=by
 intro pins s σ H R I h;refine Call_ (q1h I hg hm boot_range (n9 (thn (ha pos pins s σ H _ I h) fun us s1 ⟨vs,H1,I1,r1,q1⟩=>?_) hs rfl));obtain⟨j,e,q1,q2,q⟩:=q1;subst e;cases r1 with
 | cons r rr=>
  cases rr;obtain⟨t,rfl⟩:=r;exact call_range_1 (qj7 I1 (by omega) (by omega) q1 q2 (by simpa using q))
def qqu(wi:TI)(g:TG)(tb:TS): TS:=fun D σ H=>wi σ H fun J H1=>∃W:Nat->Nat->St->Hp->Prop,(∃m,W 0 m σ H1)/\∀i m σ H,W i m σ H ->
 (J.stop i H/\D.nx σ H)\/(J.go i H/\∃N:St->Hp->Prop,(∀ σ' H',N σ' H'->∃m',m'<m/\W (i+1) m' σ' H')/\∀x H',J.yld i H x H'->g x σ H' fun σ2 H2=>tb {D with nx:=N,ct:=N,bk:=D.nx} σ2 H2)
def q4n(fp:List Addr)(h:Heap): List (Addr×Obj):=fp.filterMap fun b=>(h.get? b).map fun o=>(b,o)
theorem q2y{fp:List Addr}{h:Heap}{b:Addr}{o:Obj}(hb:b∈fp)(e:h.get? b=some o): (b,o)∈q4n fp h:=g1f.mpr ⟨b,hb,by rw [e];rfl⟩
theorem qh9{fp:List Addr}{h:Heap}{p:Addr×Obj}(hp:p∈q4n fp h): p.1∈fp/\h.get? p.1=some p.2:=by
 obtain⟨b,hb,e⟩:=g1f.mp hp;cases q:h.get? b with
 | none=>rw [q] at e;cases e
 | some o=>
  rw [q] at e;have e':(b,o)=p:=mi e;subst e';exact⟨hb,q⟩
theorem Inv.pinned{pins:List (Addr×Obj)}{σ : St}{H:Hp}{s:Shared}{fp:List Addr}(I:Inv X pins σ H s)(hf:∀b∈fp,q0y X pins H b)(ho:∀b∈fp,∃o,s.heap.get? b=some o/\∀v,o.data ≠ .cell v): Inv X (pins++q4n fp s.heap) σ H s:=
 I.pins_of fun p hp=>(g1y.mp hp).elim (fun z=>I.pin p (mx _ z)) fun z=>by
  obtain⟨hb,e⟩:=qh9 z;obtain⟨f0,f1,f2,_⟩:=hf p.1 hb;obtain⟨o,e',d⟩:=ho p.1 hb;rw [e] at e';cases e';exact⟨e,f0,f1,f2,d⟩
theorem Inv.unpinned{pins pl:List (Addr×Obj)}{σ : St}{H:Hp}{s:Shared}(I:Inv X (pins++pl) σ H s): Inv X pins σ H s:=I.pins_of fun p hp=>I.pin p (mx _ (g0r _ hp))
theorem qnd{iter:Expr}{body:List Stmt}{wi:TI}{g:TG}{tb:TS}{pos:Pos}(hp:PassesOwn (model X.prog X.w) X.A X.env X.xe)(hc:X.calm=true)(hi:PI X tg iter wi)(hg:PG X tg g)(hb:PSs X body tb)
  (hs:∀x,foldedSetIterable iter X.env x=pure x:=by intro _;rfl):PS X (.For tg iter body [] pos) (qqu wi g tb):=by
 intro pins s σ H D I h;refine wpAny_For (thn (hi pins s σ H _ I h) fun v s1 h1=>thn h1 fun itv s2 h2=>?_) hs;obtain⟨it,fp,tn,J,H2,e,I2,T,st2,f2,W,⟨m0,w0⟩,turn⟩:=h2;subst e
 -- what stays true of the iterator's objects through the loop
 have stat:∀ {H':Hp},(∀b∈fp,H' b=none)->∀b∈fp,q0y X pins H' b:=fun hn b hb=>⟨hn b hb,(f2 b hb).2⟩
 refine codeAny_forLoop_any (fun n s'=>∃i σ' H',Inv X pins σ' H' s'/\tn i s'.heap/\(∀b∈fp,H' b=none)/\W i n σ' H') ?_ m0 ⟨0, σ,H2,I2,st2,fun b hb=>(f2 b hb).1,w0⟩
 rintro n s3 ⟨i, σ3,H3,I3,st3,fr3,w3⟩
 rcases turn i n σ3 H3 w3 with⟨stop,qn⟩|⟨go,N,hN,step⟩
 ·refine g04 hp (thn (T.done X rfl rfl rfl hc i pins s3 σ3 H3 X.xe I3 (stat fr3) st3 stop) fun r s4 ⟨hr,I4⟩=>?_)
  subst hr;exact g0s ⟨σ3,H3,I4,qn⟩
 ·refine g04 hp (thn (T.item X rfl rfl rfl hc i pins s3 σ3 H3 X.xe I3 (stat fr3) st3 go) fun r s4 ⟨u,hr,h4⟩=>?_)
  subst hr;refine g04 hp (thn h4 fun _ s5 ⟨x,H5,I5,r5,y5,st5,fr5⟩=>?_);have I5':=I5.pinned (stat fr5) (T.obj _ _ st5);refine g04 hp (thn (hg _ s5 σ3 H5 x u _ I5' r5 (step x H5 y5)) fun _ s6 ⟨σ6,H6,I6,q6⟩=>?_);refine g04 hp (thn (hb _ s6 σ6 H6 _ I6 q6) fun f s7 q7=>?_);have again:∀ {σ7:St} {H7:Hp},Inv X (pins++q4n fp s5.heap) σ7 H7 s7->N σ7 H7->∃m,m<n/\∃i σ' H',Inv X pins σ' H' s7/\tn i s7.heap/\(∀b∈fp,H' b=none)/\W i m σ' H':=fun {σ7 H7} I7 n7=>by
   obtain⟨m',hm,w7⟩:=hN σ7 H7 n7;refine⟨m',hm,i+1, σ7,H7,I7.unpinned,T.keep _ _ _ st5 fun b hb o e=>(I7.pin (b,o) (mx _ (mx _ (q2y hb e)))).1,fun b hb=>?_,w7⟩;obtain⟨o,e,d⟩:=T.obj _ _ st5 b hb;exact(I7.pin (b,o) (mx _ (mx _ (q2y hb e)))).2.1
  cases f with
  | next=>obtain⟨σ7,H7,I7,n7⟩:=q7;exact again I7 n7
  | cont=>obtain⟨σ7,H7,I7,n7⟩:=q7;exact again I7 n7
  | brk=>obtain⟨σ7,H7,I7,q7⟩:=q7;exact⟨σ7,H7,I7.unpinned,q7⟩
  | ret v=>obtain⟨x7, σ7,H7,I7,r7,q7⟩:=q7;exact⟨x7, σ7,H7,I7.unpinned,r7,q7⟩
end
abbrev R2:=V->V->Hp->VK->Prop
def OpR(X:Cx)(f:Value->Value->Sem Value)(r:R2): Prop:=
 ∀(pins:List (Addr×Obj)) (s:Shared) (σ : St) (H:Hp) (x y:V) (v u:Value) (Q:VK),Inv X pins σ H s->RelV x v->RelV y u->r x y H Q ->
  wpAny (model X.prog X.w) X.A (f v u) (EP X pins σ Q) X.xe s
def vh(X:Cx)(f:Value)(r:List V->Hp->VK->Prop): Prop:=
 ∀(pins:List (Addr×Obj)) (s:Shared) (σ : St) (H:Hp) (xs:List V) (us:List Value) (Q:VK),Inv X pins σ H s->Vals xs us->r xs H Q ->
  wpAny (model X.prog X.w) X.A (call f us) (EP X pins σ Q) X.xe s
def qqv(X:Cx)(r:V->Hp->(Bool->Hp->Prop)->Prop): Prop:=
 ∀(pins:List (Addr×Obj)) (s:Shared) (σ : St) (H:Hp) (x:V) (v:Value) (Q:Bool->Hp->Prop),Inv X pins σ H s->RelV x v->r x H Q ->
  wpAny (model X.prog X.w) X.A (truthy v) (TP X pins σ Q) X.xe s
def tOp(r:R2)(ta tb:TE): TE:=fun σ H Q=>ta σ H fun x H1=>tb σ H1 fun y H2=>r x y H2 Q
def rI(C:Int->Int->Prop)(g:Int->Int->V): R2:=fun x y H Q=>∃i j,x=.int i/\y=.int j/\C i j/\Q (g i j) H
def rI0(g:Int->Int->V): R2:=fun x y H Q=>∃i j,x=.int i/\y=.int j/\Q (g i j) H
section
variable{X:Cx}{a b c:Expr}{ta tb tc:TE}{pos:Pos}
theorem qj8(ha:PE X a ta)(hb:PE X b tb){pins:List (Addr×Obj)}{s:Shared}{σ : St}{H:Hp}{R:V->V->Hp->Prop}(I:Inv X pins σ H s)
  (h:ta σ H fun x H1=>tb σ H1 fun y H2=>R x y H2) {Q:Value->Shared->Prop} {f:Value->Value->Sem Value}
  (hf:∀v u s2 x y H2,Inv X pins σ H2 s2->RelV x v->RelV y u->R x y H2->wpAny (model X.prog X.w) X.A (f v u) Q X.xe s2) :
  wpAny (model X.prog X.w) X.A (eval a X.env) (fun v s₁=>wpAny (model X.prog X.w) X.A (eval b X.env) (fun u s₂=>wpAny (model X.prog X.w) X.A (f v u) Q X.xe s₂) X.xe s₁) X.xe s:=by
 refine thn (ha pins s σ H _ I h) fun v s1 ⟨x,H1,I1,r1,q1⟩=>?_;refine thn (hb pins s1 σ H1 _ I1 q1) fun u s2 ⟨y,H2,I2,r2,q2⟩=>?_;exact hf v u s2 x y H2 I2 r1 r2 q2
theorem qpj{op:Operator}{r:R2}(ho:OpR X (binaryOp op) r)(ha:PE X a ta)(hb:PE X b tb): PE X (.BinOp a op b pos) (tOp r ta tb):=by
 intro pins s σ H Q I h;exact wpAny_BinOp (qj8 ha hb I h fun v u s2 x y H2 I2 rx ry q=>ho pins s2 σ H2 x y v u Q I2 rx ry q)
theorem opI{f:Value->Value->Sem Value}{C:Int->Int->Prop}{g:Int->Int->Int}
  (rule:∀(i j:Int) (t u:Tok) (s:Shared) (Q:Value->Shared->Prop) (E:Value->Shared->Prop),C i j->Q (.int (g i j) s.toks) {s with toks:=s.toks+1}->wpAny (model X.prog X.w) X.A (f (.int i t) (.int j u)) Q E s) :
  OpR X f (rI C fun i j=>.int (g i j)):=by
 intro pins s σ H x y v u Q I rx ry h;obtain⟨i,j,rfl,rfl,hc,q⟩:=h;obtain⟨t,rfl⟩:=rx;obtain⟨t',rfl⟩:=ry;exact rule i j t t' s _ _ hc ⟨.int (g i j),H,I.tok _,⟨_,rfl⟩,q⟩
theorem qne{f:Value->Value->Sem Value}{g:Int->Int->Int}
  (rule:∀(i j:Int) (t u:Tok) (s:Shared) (Q:Value->Shared->Prop) (E:Value->Shared->Prop),Q (.int (g i j) s.toks) {s with toks:=s.toks+1}->wpAny (model X.prog X.w) X.A (f (.int i t) (.int j u)) Q E s) :
  OpR X f (rI0 fun i j=>.int (g i j)):=by
 intro pins s σ H x y v u Q I rx ry h;obtain⟨i,j,rfl,rfl,q⟩:=h;obtain⟨t,rfl⟩:=rx;obtain⟨t',rfl⟩:=ry;exact rule i j t t' s _ _ ⟨.int (g i j),H,I.tok _,⟨_,rfl⟩,q⟩
theorem qg4{f:Value->Value->Sem Value}{g:Int->Int->Bool}
  (rule:∀(i j:Int) (t u:Tok) (s:Shared) (Q:Value->Shared->Prop) (E:Value->Shared->Prop),Q (.bool (g i j)) s->wpAny (model X.prog X.w) X.A (f (.int i t) (.int j u)) Q E s) :
  OpR X f (rI0 fun i j=>.bl (g i j)):=by
 intro pins s σ H x y v u Q I rx ry h;obtain⟨i,j,rfl,rfl,q⟩:=h;obtain⟨t,rfl⟩:=rx;obtain⟨t',rfl⟩:=ry;exact rule i j t t' s _ _ ⟨.bl (g i j),H,I,rfl,q⟩
def qqw(i j:Int): Prop:=0<j/\j<1073741824
def qqx(i j:Int): Prop:=0<=j/\j<=1000000/\i.natAbs<2 ^ 64
def CMul(i j:Int): Prop:=(-(2 ^ 64)<i/\i<2 ^ 64)\/(-(2 ^ 64)<j/\j<2 ^ 64)
theorem CMul.ok{i j:Int}(h:CMul i j): IntMulOk i j:=by
 rcases h with⟨h1,h2⟩|⟨h1,h2⟩
 ·exact .of_left (intBits_le_64 h1 h2)
 ·exact .of_right (intBits_le_64 h1 h2)
theorem qnf:OpR X (binaryOp .Add) (rI0 fun i j=>.int (i+j)):=qne fun _ _ _ _ _ _ _ q=>add_int q
theorem qng:OpR X (binaryOp .Sub) (rI0 fun i j=>.int (i-j)):=qne fun _ _ _ _ _ _ _ q=>sub_int q
theorem qnh:OpR X (binaryOp .Mult) (rI CMul fun i j=>.int (i*j)):=opI fun _ _ _ _ _ _ _ hc q=>mul_int q hc.ok
theorem qlq:OpR X (binaryOp .FloorDiv) (rI qqw fun i j=>.int (i / j)):=opI fun i j _ _ _ _ _ hc q=>by
 have h1:(0:Int)<j:=hc.1;have h2:j<1073741824:=hc.2;exact floordiv_int (by omega) (by rw [Int.fdiv_eq_ediv_of_nonneg i (by omega)];exact q) (.inl (PyProof.noPylong_small (by omega)))
theorem qni:OpR X (binaryOp .Mod) (rI (fun _ j=>0<j) fun i j=>.int (i%j)):=opI fun i j _ _ _ _ _ hc q=>by
 have h1:(0:Int)<j:=hc;exact mod_int' (by omega) (by rw [Int.fmod_eq_emod_of_nonneg i (by omega)];exact q)
theorem qnj:OpR X (binaryOp .Pow) (rI qqx fun i j=>.int (i ^ j.toNat)):=opI fun _ _ _ _ _ _ _ hc q=>pow_int_small hc.1 hc.2.1 hc.2.2 q
end
def q9w:V->V->Bool
 | .non,.non=>true | .non,.int _=>true | .int _,.non=>true | .non,.bl _=>true | .bl _,.non=>true | .non,.str _=>true | .str _,.non=>true
 | .int _,.int _=>true | .bl _,.bl _=>true | .str _,.str _=>true | .byt _,.byt _=>true
 | .int _,.str _=>true | .str _,.int _=>true | .bl _,.str _=>true | .str _,.bl _=>true
 | _,_=>false
def rEq:R2:=fun x y H Q=>q9w x y=true/\Q (.bl (decide (x=y))) H
def rNe:R2:=fun x y H Q=>q9w x y=true/\Q (.bl (!decide (x=y))) H
theorem qex{i j:Int}: decide (V.int i=V.int j)=(i==j):=by
 rw [g05];simp
theorem qha{i j:Bool}: decide (V.bl i=V.bl j)=(i==j):=by
 rw [g05];simp
theorem qey{i j:Str}: decide (V.str i=V.str j)=(i==j):=by
 rw [g05];simp
theorem qez{i j:Array UInt8}: decide (V.byt i=V.byt j)=(i.toList==j.toList):=by
 rw [g05];cases i;cases j;simp
section
variable{X:Cx}{a b c:Expr}{ta tb tc:TE}{pos:Pos}
theorem zq{pins:List (Addr×Obj)}{σ : St}{H:Hp}{s:Shared}{Q:VK}{k k':Bool}(I:Inv X pins σ H s)(q:Q (.bl k) H)(e:k=k'): EP X pins σ Q (.bool k') s:=by
 subst e;exact⟨.bl k,H,I,rfl,q⟩
theorem qpk:OpR X (compareOp .Eq) rEq:=by
 intro pins s σ H x y v u Q I rx ry h;obtain⟨hs,q⟩:=h;cases x with
 | non=>
  cases rx;cases y with
  | non=>cases ry;exact PySem.EqNone.eq_none_none (zq I q (by simp))
  | bl j=>cases ry;exact PySem.EqNone.eq_none_bool (zq I q (by simp))
  | int j=>obtain⟨t',rfl⟩:=ry;exact PySem.EqNone.eq_none_int (zq I q (by simp))
  | str j=>obtain⟨t',rfl⟩:=ry;exact PySem.EqNone.eq_none_str (zq I q (by simp))
  | _=>exact absurd (show false=true from hs) gp
 | bl i=>
  cases rx;cases y with
  | non=>cases ry;exact PySem.EqNone.eq_bool_none (zq I q (by simp))
  | bl j=>cases ry;exact eq_bool (zq I q qha)
  | str j=>obtain⟨t',rfl⟩:=ry;exact PySem.EqMixed.eq_bool_str (zq I q (by simp))
  | _=>exact absurd (show false=true from hs) gp
 | int i=>
  obtain⟨t,rfl⟩:=rx;cases y with
  | non=>cases ry;exact PySem.EqNone.eq_int_none (zq I q (by simp))
  | int j=>obtain⟨t',rfl⟩:=ry;exact eq_int (zq I q qex)
  | str j=>obtain⟨t',rfl⟩:=ry;exact PySem.EqMixed.eq_int_str (zq I q (by simp))
  | _=>exact absurd (show false=true from hs) gp
 | str i=>
  obtain⟨t,rfl⟩:=rx;cases y with
  | non=>cases ry;exact PySem.EqNone.eq_str_none (zq I q (by simp))
  | bl j=>cases ry;exact PySem.EqMixed.eq_str_bool (zq I q (by simp))
  | int j=>obtain⟨t',rfl⟩:=ry;exact PySem.EqMixed.eq_str_int (zq I q (by simp))
  | str j=>obtain⟨t',rfl⟩:=ry;exact eq_str (zq I q qey)
  | _=>exact absurd (show false=true from hs) gp
 | byt i=>
  obtain⟨t,rfl⟩:=rx;cases y with
  | byt j=>obtain⟨t',rfl⟩:=ry;exact PySem.W.eq_bytes (zq I q qez)
  | _=>exact absurd (show false=true from hs) gp
 | _=>cases y <;> exact absurd (show false=true from hs) gp
theorem qpl:OpR X (compareOp .NotEq) rNe:=by
 intro pins s σ H x y v u Q I rx ry h;obtain⟨hs,q⟩:=h;cases x with
 | non=>
  cases rx;cases y with
  | non=>cases ry;exact PySem.EqNone.ne_none_none (zq I q (by simp))
  | bl j=>cases ry;exact PySem.EqNone.ne_none_bool (zq I q (by simp))
  | int j=>obtain⟨t',rfl⟩:=ry;exact PySem.EqNone.ne_none_int (zq I q (by simp))
  | str j=>obtain⟨t',rfl⟩:=ry;exact PySem.EqNone.ne_none_str (zq I q (by simp))
  | _=>exact absurd (show false=true from hs) gp
 | bl i=>
  cases rx;cases y with
  | non=>cases ry;exact PySem.EqNone.ne_bool_none (zq I q (by simp))
  | bl j=>cases ry;exact ne_bool (zq I q (tf not qha))
  | str j=>obtain⟨t',rfl⟩:=ry;exact PySem.EqMixed.ne_bool_str (zq I q (by simp))
  | _=>exact absurd (show false=true from hs) gp
 | int i=>
  obtain⟨t,rfl⟩:=rx;cases y with
  | non=>cases ry;exact PySem.EqNone.ne_int_none (zq I q (by simp))
  | int j=>obtain⟨t',rfl⟩:=ry;exact ne_int (zq I q (tf not qex))
  | str j=>obtain⟨t',rfl⟩:=ry;exact PySem.EqMixed.ne_int_str (zq I q (by simp))
  | _=>exact absurd (show false=true from hs) gp
 | str i=>
  obtain⟨t,rfl⟩:=rx;cases y with
  | non=>cases ry;exact PySem.EqNone.ne_str_none (zq I q (by simp))
  | bl j=>cases ry;exact PySem.EqMixed.ne_str_bool (zq I q (by simp))
  | int j=>obtain⟨t',rfl⟩:=ry;exact PySem.EqMixed.ne_str_int (zq I q (by simp))
  | str j=>obtain⟨t',rfl⟩:=ry;exact ne_str (zq I q (tf not qey))
  | _=>exact absurd (show false=true from hs) gp
 | byt i=>
  obtain⟨t,rfl⟩:=rx;cases y with
  | byt j=>obtain⟨t',rfl⟩:=ry;exact PySem.W.ne_bytes (zq I q (tf not qez))
  | _=>exact absurd (show false=true from hs) gp
 | _=>cases y <;> exact absurd (show false=true from hs) gp
theorem qpm:OpR X (compareOp .Lt) (rI0 fun i j=>.bl (decide (i<j))):=qg4 fun _ _ _ _ _ _ _ q=>lt_int q
theorem qpn:OpR X (compareOp .LtE) (rI0 fun i j=>.bl (decide (i<=j))):=qg4 fun _ _ _ _ _ _ _ q=>le_int q
theorem qpo:OpR X (compareOp .Gt) (rI0 fun i j=>.bl (decide (j<i))):=qg4 fun _ _ _ _ _ _ _ q=>gt_int q
theorem qpp:OpR X (compareOp .GtE) (rI0 fun i j=>.bl (decide (j<=i))):=qg4 fun _ _ _ _ _ _ _ q=>ge_int q
theorem qf0{op:CmpOp}{r:R2}(ho:OpR X (compareOp op) r)(ha:PE X a ta)(hb:PE X b tb)(hm:behindInMarks op b=false): PE X (.Compare a [op] [b] pos) (tOp r ta tb):=by
 intro pins s σ H Q I h;exact wpAny_Compare1 (qj8 ha hb I h fun v u s2 x y H2 I2 rx ry q=>ho pins s2 σ H2 x y v u Q I2 rx ry q) hm
def qpq(t:TE): TT:=fun σ H Q=>t σ H fun x H'=>∃k,x=.bl k/\Q k H'
theorem qf1{op:CmpOp}{r:R2}(ho:OpR X (compareOp op) r)(ha:PE X a ta)(hb:PE X b tb)(hm:behindInMarks op b=false): PT X (.Compare a [op] [b] pos) (qpq (tOp r ta tb)):=by
 intro pins s σ H Q I h;refine wpAny_isTrue_Compare1 (thn (ha pins s σ H _ I h) fun v s1 ⟨x,H1,I1,r1,q1⟩=>thn (hb pins s1 σ H1 _ I1 q1) fun u s2 ⟨y,H2,I2,r2,q2⟩=>
  thn (ho pins s2 σ H2 x y v u _ I2 r1 r2 q2) fun c s3 ⟨z,H3,I3,r3,k,e,q3⟩=>?_) hm
 subst e;cases r3;exact u0 ⟨H3,I3,q3⟩
def qhb(r r':R2)(ta tb tc:TE): TE:=fun σ H Q=>ta σ H fun x H1=>tb σ H1 fun y H2=>r x y H2 fun z H3=>∃k,z=.bl k /\
 (if k=true then tc σ H3 fun w' H4=>r' y w' H4 Q else Q (.bl false) H3)
theorem qj9{op op':CmpOp}{r r':R2}(ho:OpR X (compareOp op) r)(ho':OpR X (compareOp op') r')(ha:PE X a ta)(hb:PE X b tb)(hc:PE X c tc)
  (hm:lastMarks [op,op'] [b,c]=false:=by with_unfolding_all rfl):PE X (.Compare a [op,op'] [b,c] pos) (qhb r r' ta tb tc):=by
 intro pins s σ H Q I h;refine Compare_chain (thn (ha pins s σ H _ I h) fun v s1 ⟨x,H1,I1,r1,q1⟩=>chain_link (thn (hb pins s1 σ H1 _ I1 q1) fun u s2 ⟨y,H2,I2,r2,q2⟩=>
  thn (ho pins s2 σ H2 x y v u _ I2 r1 r2 q2) fun d s3 ⟨z,H3,I3,r3,k,e,q3⟩=>?_)) hm
 subst e;cases r3;refine u0 ?_;cases k with
 | false=>exact ite_ff ⟨.bl false,H3,I3,rfl,q3⟩
 | true=>exact ite_tt (chain_last (thn (hc pins s3 σ H3 _ I3 q3) fun w' s4 ⟨z',H4,I4,r4,q4⟩=>ho' pins s4 σ H4 y z' u w' Q I4 r2 r4 q4))
def qja(K:PySem.W.Frag)(x:V)(H:Hp)(k:Bool): Prop:=
 match x with
 | .non=>k=false
 | .bl b=>k=b
 | .int i=>k=(i != 0)
 | .str y=>y.length<=sizeLine/\k=((y.length:Int) != 0)
 | .byt y=>y.size<=sizeLine/\k=((y.size:Int) != 0)
 | .ref p=>(∃xs,SqL K H p xs/\k = !xs.isEmpty)\/(∃xs,SqT K H p xs/\k = !xs.isEmpty)\/∃kvs,H p=some (.dK kvs)/\k = !kvs.isEmpty
 | _=>False
theorem qg5{κ : Type}{kvs:List (κ × V)}{vs:List (κ × Value)}(r:KV kvs vs): (!vs.isEmpty) = !kvs.isEmpty:=by
 cases r <;> rfl
theorem q8x{xs:List V}{its:List Value}(r:Vals xs its): (!its.toArray.isEmpty) = !xs.isEmpty:=by
 cases r <;> simp
theorem q67:(sizeLine:Nat)<2 ^ 63:=by rw [p9];decide
theorem qnk:qqv X (fun x H Q=>∃k,qja X.K x H k/\Q k H):=by
 intro pins s σ H x v Q I rx h;obtain⟨k,e,q⟩:=h;have hl:=q67;have hs:sizeLine=16777216:=p9;cases x with
 | non=>
  cases rx;have e':k=false:=e;subst e';exact truthy_none ⟨H,I,q⟩
 | bl b=>
  cases rx;have e':k=b:=e;subst e';exact u0 ⟨H,I,q⟩
 | int i=>
  obtain⟨t,rfl⟩:=rx;have e':k=(i != 0):=e;subst e';exact PySem.P.truthy_int ⟨H,I,q⟩
 | str y=>
  obtain⟨t,rfl⟩:=rx;obtain⟨hy,e'⟩:y.length<=sizeLine/\k=((y.length:Int) != 0):=e;subst e';exact PySem.P.truthy_str (by omega) ⟨H,I.tok _,q⟩
 | byt y=>
  obtain⟨t,rfl⟩:=rx;obtain⟨hy,e'⟩:y.size<=sizeLine/\k=((y.size:Int) != 0):=e;subst e';exact PySem.W.truthy_bytes (by omega) ⟨H,I.tok _,q⟩
 | ref p=>
  cases rx;have e':(∃xs,SqL X.K H p xs/\k = !xs.isEmpty)\/(∃xs,SqT X.K H p xs/\k = !xs.isEmpty)\/∃kvs,H p=some (.dK kvs)/\k = !kvs.isEmpty:=e;rcases e' with⟨xs,hx,e'⟩|⟨xs,hx,e'⟩|⟨kvs,hx,e'⟩
  ·subst e'
   obtain⟨its,r,pl,hz⟩:=I.list hx;have hlen:=r.length;exact wpAny_truthy_list pl.isList (by simp only [gj];omega) ⟨H,I.tok _,by rw [q8x r];exact q⟩
  ·subst e'
   obtain⟨its,r,pl,hz⟩:=I.tuple hx;have hlen:=r.length;exact truthy_tuple pl (by simp only [gj];omega) ⟨H,I.tok _,by rw [q8x r];exact q⟩
  ·subst e'
   obtain⟨hz,hS,vs,r,m⟩:kvs.length<=sizeLine/\(p==sysModules)=false/\∃vs,KV kvs vs/\s.heap.DictOf (mixKind X.prog X.w) p vs:=I.hok p _ hx;have hlen:kvs.length=vs.length:=Paired.length r;exact wpAny_truthy_dict hS m (by omega) ⟨H,I.tok _,by rw [qg5 r];exact q⟩
 | _=>exact(show False from e).elim
theorem qcj(ha:PE X a ta)(he:∀whole,isTrue a X.env whole=(do let v <- whole;standAt a.pos;holding [v] (truthy v))):
  PT X a (fun σ H Q=>ta σ H fun x H'=>∃k,qja X.K x H' k/\Q k H'):=by
 intro pins s σ H Q I h;exact isTrue_plain (thn (ha pins s σ H _ I h) fun v s1 ⟨x,H1,I1,r1,q1⟩=>qnk pins s1 σ H1 x v Q I1 r1 q1) (he _)
theorem vals1{x:V}{us:List Value}(r:Vals [x] us): ∃u,us=[u]/\RelV x u:=by
 cases r with
 | cons r1 r2=>cases r2;exact⟨_,rfl,r1⟩
theorem vals2{x y:V}{us:List Value}(r:Vals [x,y] us): ∃u w',us=[u,w']/\RelV x u/\RelV y w':=by
 cases r with
 | cons r1 r2=>
  cases r2 with
  | cons r3 r4=>cases r4;exact⟨_,_,rfl,r1,r3⟩
theorem qhc(hc:X.calm=true): vh X (.builtin "max") (fun xs H Q=>∃i j,xs=[.int i,.int j]/\Q (.int (if j>i then j else i)) H):=by
 intro pins s σ H xs us Q I r h;obtain⟨i,j,rfl,q⟩:=h;obtain⟨u,w',rfl,⟨t,rfl⟩,⟨t',rfl⟩⟩:=vals2 r;refine max_two_ints (I.ok.hd hc) fun h' tk k=>⟨_,H,I.kept k,?_,q⟩
 by_cases hj:j>i
 ·rw [gr hj,gr hj];exact⟨_,rfl⟩
 ·rw [gy hj,gy hj];exact⟨_,rfl⟩
theorem qhd(hc:X.calm=true): vh X (.builtin "min") (fun xs H Q=>∃i j,xs=[.int i,.int j]/\Q (.int (if j<i then j else i)) H):=by
 intro pins s σ H xs us Q I r h;obtain⟨i,j,rfl,q⟩:=h;obtain⟨u,w',rfl,⟨t,rfl⟩,⟨t',rfl⟩⟩:=vals2 r;refine min_two_ints (I.ok.hd hc) fun h' tk k=>⟨_,H,I.kept k,?_,q⟩
 by_cases hj:j<i
 ·rw [gr hj,gr hj];exact⟨_,rfl⟩
 ·rw [gy hj,gy hj];exact⟨_,rfl⟩
def qqy(K:PySem.W.Frag)(x:V)(H:Hp)(n:Nat): Prop:=
 match x with
 | .str y=>y.length<=sizeLine/\n=y.length
 | .byt y=>y.size<=sizeLine/\n=y.size
 | .ref p=>(∃xs,SqL K H p xs/\n=xs.length)\/∃xs,SqT K H p xs/\n=xs.length
 | _=>False
theorem qjb:vh X (.builtin "len") (fun xs H Q=>∃x n,xs=[x]/\qqy X.K x H n/\Q (.int n) H):=by
 intro pins s σ H xs us Q I r h;obtain⟨x,n,rfl,e,q⟩:=h;obtain⟨u,rfl,rx⟩:=vals1 r;have hl:=q67;have hs:sizeLine=16777216:=p9;cases x with
 | str y=>
  obtain⟨t,rfl⟩:=rx;obtain⟨hy,e'⟩:y.length<=sizeLine/\n=y.length:=e;subst e';exact len_str (by omega) ⟨.int _,H,I.tok _,⟨_,rfl⟩,q⟩
 | byt y=>
  obtain⟨t,rfl⟩:=rx;obtain⟨hy,e'⟩:y.size<=sizeLine/\n=y.size:=e;subst e';exact PySem.W.len_bytes (by omega) ⟨.int _,H,I.tok _,⟨_,rfl⟩,q⟩
 | ref p=>
  cases rx;have e':(∃xs,SqL X.K H p xs/\n=xs.length)\/∃xs,SqT X.K H p xs/\n=xs.length:=e;rcases e' with⟨xs,hx,e'⟩|⟨xs,hx,e'⟩
  ·subst e'
   obtain⟨its,r',pl,hz⟩:=I.list hx;have hlen:=r'.length;exact Calls.call_len_list pl.isList (by simp only [gj];omega) ⟨.int xs.length,H,I.tok _,⟨_,by simp only [gj];rw [hlen]⟩,q⟩
  ·subst e'
   obtain⟨its,r',pl,hz⟩:=I.tuple hx;have hlen:=r'.length;exact len_tuple pl (by simp only [gj];omega) ⟨.int xs.length,H,I.tok _,⟨_,by simp only [gj];rw [hlen]⟩,q⟩
 | _=>exact(show False from e).elim
end
structure ObjM(h:Heap)(x dx C:Addr)(mA:Str->Option Value): Prop where
 obj:h.get? x=some (PySem.W.instObj C dx)
 ns:h.Ns1 dx mA
 ne:dx≠x
theorem qar{h:Heap}{dx:Addr}{mA:Str->Option Value}(n:h.Ns1 dx mA): ∃od,h.get? dx=some od/\∀name,PySem.W.lookIn name od=some (mA name):=by
 obtain⟨o,es,ep,ho,hd,hk,_,hm⟩:=n;refine⟨o,ho,fun name=>?_⟩;have e:=hm name;unfold nsFind findBy at e;rw [<- Array.find?_toList] at e;unfold PySem.W.lookIn;rw [hd];dsimp only
 split
 ·rename_i y q
  rw [q] at e;exact tf some e
 ·rename_i q
  rw [q] at e;have a:es.toList.any (·.refKey)=false:=by
   rw [List.any_eq_false];intro y hy;obtain⟨z,t,hkey⟩:=hk y (Array.mem_toList_iff.mp hy);simp [DictEntry.refKey,hkey]
  have a':¬es.toList.any (·.refKey)=true:=by rw [a];exact gp
  rw [gy a'];exact tf some e
theorem ObjM.look{h:Heap}{x dx C:Addr}{mA:Str->Option Value}(I:ObjM h x dx C mA): ∃od,PySem.W.InstAt h x (PySem.W.instObj C dx) C (some od)/\∀name,PySem.W.lookIn name od=some (mA name):=
 let⟨od,ho,hl⟩:=qar I.ns
 ⟨od,⟨I.obj,rfl,rfl,ho⟩,hl⟩
section
variable{prog:Program}{w:World}{A:Around}{E:Value->Shared->Prop}{s:Shared}{K:PySem.W.Frag}{x dx C f:Addr}{mA:Str->Option Value}{name:Str}{v:Value}
theorem get_map{expr:Bool}{Q:Value->Shared->Prop}(X:K.In s.heap)(I:ObjM s.heap x dx C mA)(hg:PySem.W.plainGet K C name=true)(hh:PySem.W.hasDictIn K C=true)
  (ha:PySem.W.findIn K (.ref C) name=some none) (hv:mA name=some v) (hv':PySem.W.handedIn v=true) (h:Q v {s with toks:=s.toks+1}) :
  wpAny (model prog w) A (getAttr (.ref x) name expr) Q E s:=by
 obtain⟨od,J,hl⟩:=I.look;exact PySem.W.get_value X J (g16 hg).1 (PySem.W.findObj_own hh ha rfl (by rw [hl,hv])) hv' h
theorem qjc{pl:Sem Bool}{Q:Value×List Value->Shared->Prop}(X:K.In s.heap)(I:ObjM s.heap x dx C mA)(hg:PySem.W.plainGet K C name=true)
  (hf:PySem.W.findIn K (.ref C) name=some (some (.ref f))) (ht:PySem.W.isFn K (.ref f)=true) (hv:mA name=none) (h:Q (.ref f,[.ref x]) s) :
  wpAny (model prog w) A (getMethod (.ref x) name pl) Q E s:=by
 obtain⟨od,J,hl⟩:=I.look;exact PySem.W.method_fn X J (g16 hg).1 (g16 hg).2 hf (nk.mp ht) (by show(PySem.W.lookIn name od).map (·.isSome)=some false;rw [hl,hv];rfl) h
theorem qlr{ns:List Str}{Q:Unit->Shared->Prop}(X:K.In s.heap)(I:ObjM s.heap x dx C mA)
  (hs:PySem.W.findIn K (.ref C) "__setattr__" = some (some (.builtin "object.__setattr__"))) (hp:PySem.W.plainOver K C=true) (ht:PySem.W.takerIn K C name=some none) (hh:PySem.W.hasDictIn K C=true)
  (hw:PySem.Within mA ns) (hsz:ns.length<=sizeLine)
  (h:∀h',ObjM h' x dx C (fun y=>if y=name then some v else mA y)->Heap.SameBut dx s.heap h'->Q () {s with heap:=h',toks:=s.toks+2}) :
  wpAny (model prog w) A (setAttr (.ref x) name v) Q E s:=by
 obtain⟨od,J,hl⟩:=I.look;refine PySem.W.set_plain X J hs (PySem.W.osa_open (s:={s with toks:=s.toks+1}) (r:=none) X J hp ht fun b=>?_);obtain⟨cd,hc,hd'⟩:=PySem.W.any_some hh;have hx:s.heap.get? x=some ⟨.ref C,some dx,.plain, #[]⟩:=I.obj;refine g9 (gh (g9 (g9 (g19 hx (g9 (pz (s:={s with toks:=s.toks+1}) (PySem.W.looks_clsIn X hc) ?_))))));rw [hd'];refine gh (a:=some dx) (g9 (gh (g9 ?_)));refine wpAny_nsSet1 (s:={s with toks:=s.toks+1}) I.ns fun h' hn2 hs2=>?_;obtain⟨oD,esD,epD,hoD,hdD,hcD⟩:=hn2.count (PySem.Within.cons name v hw);refine g9 (wpAny_lookBehind hoD (by rw [hdD];exact pastItsLine_dict (mj hcD (by rw [m3];omega))) ?_);exact gh (h _ ⟨(hs2.2 _ (gu I.ne)).trans I.obj,hn2,I.ne⟩ hs2)
theorem qck{R:Result->Shared->Prop}{vs:List Value}{kw:List (Str×Value)}(X:K.In s.heap)(hm:PySem.W.makesIn K C=true)
  (hi:PySem.W.findIn K (.ref C) "__init__" = some (some (.ref f))) (hf:PySem.W.typeIn K (.ref f)=some (.type "function"))
  (h:codeAny (model prog w) (A.under (.builtin "type.__call__" ⟨.ref C :: vs,kw⟩)) (.call (.ref f) ⟨.ref (s.heap.objs.size+1) :: vs,kw⟩) (PySem.W.InitBack (s.heap.objs.size+1) R)
   {s with heap:=(s.heap.push PySem.W.emptyDict).push (PySem.W.instObj C s.heap.objs.size)}) :
  codeAny (model prog w) A (.call (.ref C) ⟨vs,kw⟩) R s:=by
 obtain⟨hh,g,d,t,os⟩:=s;exact PySem.W.make_core (PySem.W.makes_of X hm) (PySem.W.looks_findIn X hi) (fun self=>PySem.W.bind_fn X self hf) (.inl rfl) h
end
def wq(f:Str)(v:V): List (Str×V)->List (Str×V)
 | []=>[(f,v)]
 | (g,x) :: r=>if g=f then(g,v) :: r else(g,x) :: wq f v r
theorem q7y(f g:Str)(v:V): ∀fs:List (Str×V),(wq f v fs).lookup g=if g=f then some v else fs.lookup g
 | []=>by
  show List.lookup g [(f,v)]=_
  by_cases h:g=f
  ·have hb:(g==f)=true:=nk.mpr h
   simp only [List.lookup,hb,gr h]
  ·have hb:(g==f)=false:=pf.mpr h
   simp only [List.lookup,hb,gy h]
 | (k,x) :: r=>by
  have ih:=q7y f g v r;rw [show wq f v ((k,x) :: r)=(if k=f then(k,v) :: r else(k,x) :: wq f v r) from rfl]
  by_cases hk:k=f
  ·rw [gr hk]
   by_cases h:g=k
   ·have hb:(g==k)=true:=nk.mpr h
    simp only [List.lookup,hb,gr (h.trans hk)]
   ·have hb:(g==k)=false:=pf.mpr h
    simp only [List.lookup,hb,gy (fun e:g=f=>h (e.trans hk.symm))]
  ·rw [gy hk]
   by_cases h:g=k
   ·have hb:(g==k)=true:=nk.mpr h
    simp only [List.lookup,hb,gy (fun e:g=f=>hk (h.symm.trans e))]
   ·have hb:(g==k)=false:=pf.mpr h
    simp only [List.lookup,hb];exact ih
theorem q68(f:Str)(v:V): ∀fs:List (Str×V),f∈(wq f v fs).map (·.1)/\∀g,g∈fs.map (·.1)->g∈(wq f v fs).map (·.1)
 | []=>⟨by simp [wq],fun g h=>by simp at h⟩
 | (k,x) :: r=>by
  obtain⟨i1,i2⟩:=q68 f v r;rw [show wq f v ((k,x) :: r)=(if k=f then(k,v) :: r else(k,x) :: wq f v r) from rfl]
  by_cases hk:k=f
  ·rw [gr hk]
   subst hk;exact⟨by simp,fun g h=>by simpa using h⟩
  ·rw [gy hk]
   refine⟨?_,fun g h=>?_⟩
   ·rw [m9]
    exact gw _ i1
   ·rw [m9] at h ⊢
    rcases m5.mp h with e|e
    ·exact m5.mpr (.inl e)
    ·exact gw _ (i2 g e)
theorem q7z(f:Str)(v:V): ∀fs:List (Str×V),(wq f v fs).length<=fs.length+1
 | []=>by simp [wq]
 | (k,x) :: r=>by
  have ih:=q7z f v r;rw [show wq f v ((k,x) :: r)=(if k=f then(k,v) :: r else(k,x) :: wq f v r) from rfl]
  by_cases hk:k=f
  ·rw [gr hk,m3,m3];omega
  ·rw [gy hk,m3,m3];omega
theorem RelO.some_of{v:V}{o:Option Value}(r:RelO (some v) o): ∃u,o=some u/\RelV v u:=by
 cases o with
 | none=>exact(show False from r).elim
 | some u=>exact⟨u,rfl,r⟩
theorem RelO.none_of{o:Option Value}(r:RelO none o): o=none:=by
 cases o with
 | none=>rfl
 | some u=>exact(show False from r).elim
theorem qhe{v:V}{u:Value}(r:RelV v u): PySem.W.handedIn u=true:=by
 cases v with
 | non=>cases(show u=Value.none from r);rfl
 | bl b=>cases(show u=Value.bool b from r);rfl
 | int i=>obtain⟨t,e⟩:=(show ∃t,u=Value.int i t from r);cases e;rfl
 | str x=>obtain⟨t,e⟩:=(show ∃t,u=Value.str x t from r);cases e;rfl
 | byt b=>obtain⟨t,e⟩:=(show ∃t,u=Value.bytes b t from r);cases e;rfl
 | flt b=>obtain⟨t,e⟩:=(show ∃t,u=Value.float b t from r);cases e;rfl
 | ref a=>cases(show u=Value.ref a from r);rfl
 | ty n=>cases(show u=Value.type n from r);rfl
section
variable{P:Program}{w:World}{H H':Hp}{h h':Heap}{a C dx:Addr}{fs fs':List (Str×V)}
theorem q76(hok:HOk P w H h)(e:H a=some (.ins C dx fs)): ∃mA,ObjM h a dx C mA/\(∀f,RelO (fs.lookup f) (mA f))/\PySem.Within mA (fs.map (·.1))/\fs.length<=1000/\H dx=some (.own a):=by
 obtain⟨d,z,ne,ob,mA,n,r,q⟩:=(show ObjOk P w H h a (.ins C dx fs) from hok a _ e)
 exact⟨mA,⟨ob,n,ne⟩,r,q,z,d⟩
end
structure Cls(K:PySem.W.Frag)(C:Addr): Prop where
 pg:PySem.W.plainGet K C Str.empty=true
 hd:PySem.W.hasDictIn K C=true
 po:PySem.W.plainOver K C=true
 sa:PySem.W.findIn K (.ref C) "__setattr__" = some (some (.builtin "object.__setattr__"))
theorem Cls.get{K:PySem.W.Frag}{C:Addr}(c:Cls K C)(f:Str): PySem.W.plainGet K C f=true:=c.pg
def NoAttr(K:PySem.W.Frag)(C:Addr)(f:Str): Prop:=PySem.W.findIn K (.ref C) f=some none
theorem NoAttr.taker{K:PySem.W.Frag}{C:Addr}{f:Str}(n:NoAttr K C f): PySem.W.takerIn K C f=some none:=by
 unfold PySem.W.takerIn;rw [show PySem.W.findIn K (.ref C) f=some none from n]
 rfl
structure Meth(K:PySem.W.Frag)(C:Addr)(m:Str)(f:Addr): Prop where
 at_:PySem.W.findIn K (.ref C) m=some (some (.ref f))
 fn:PySem.W.isFn K (.ref f)=true
 kp:PySem.W.keepIn K (.ref f)=true
section
variable{X:Cx}{pins:List (Addr×Obj)}{σ : St}{H:Hp}{s:Shared}{a C dx:Addr}{fs:List (Str×V)}{f:Str}{v:V}{A:Around}{E:Value->Shared->Prop}
theorem qg6{b:Bool}{Q:Value->Shared->Prop}(I:Inv X pins σ H s)(e:H a=some (.ins C dx fs))(c:Cls X.K C)(n:NoAttr X.K C f)(l:fs.lookup f=some v)
  (h:∀u s',Inv X pins σ H s'->RelV v u->Q u s'):wpAny (model X.prog X.w) A (getAttr (.ref a) f b) Q E s:=by
 obtain⟨mA,O,r,_,_,_⟩:=q76 I.hok e;obtain⟨u,hu,ru⟩:=RelO.some_of (v:=v) (o:=mA f) (by rw [<- l];exact r f);exact get_map I.kIn O (c.get f) c.hd n hu (qhe ru) (h u _ (I.tok _) ru)
theorem q58{m:Str}{g:Addr}{pl:Sem Bool}{Q:Value×List Value->Shared->Prop}(I:Inv X pins σ H s)(e:H a=some (.ins C dx fs))(c:Cls X.K C)(k:Meth X.K C m g)(l:fs.lookup m=none)
  (h:Q (.ref g,[.ref a]) s):wpAny (model X.prog X.w) A (getMethod (.ref a) m pl) Q E s:=by
 obtain⟨mA,O,r,_,_,_⟩:=q76 I.hok e;have hn:mA m=none:=RelO.none_of (by rw [<- l];exact r m);exact qjc I.kIn O (c.get m) k.at_ k.fn hn h
theorem qg7{y:V}{u:Value}{Q:Unit->Shared->Prop}(I:Inv X pins σ H s)(e:H a=some (.ins C dx fs))(c:Cls X.K C)(n:NoAttr X.K C f)(hl:fs.length<1000)(ry:RelV y u)
  (h:∀s',Inv X pins σ (upd H a (.ins C dx (wq f y fs))) s'->Q () s'):wpAny (model X.prog X.w) A (setAttr (.ref a) f u) Q E s:=by
 obtain⟨mA,O,r,wi,_,ho⟩:=q76 I.hok e;have hz:(fs.map (·.1)).length<=sizeLine:=by rw [m6,p9];omega
 refine qlr I.kIn O c.sa c.po n.taker c.hd wi hz fun h' O' sb=>h _ ?_;have hd:∃o,h'.get? dx=some o:=let⟨o,_,_,e',_⟩:=O'.ns; ⟨o,e'⟩
 refine I.write (x:=a) (e:=dx) (by rw [e];exact True.intro) (.inr ho) (fun b q hb z=>(sb.2 b hb).trans z) hd ?_;refine⟨by rw [qo O.ne];exact ho,?_,O.ne,O'.obj,_,O'.ns,fun g=>?_,fun g hg=>?_⟩
 ·have:=q7z f y fs;omega
 ·show RelO ((wq f y fs).lookup g) (if g=f then some u else mA g)
  rw [q7y]
  by_cases q:g=f
  ·rw [gr q,gr q];exact ry
  ·rw [gy q,gy q];exact r g
 ·by_cases q:g=f
  ·rw [q];exact(q68 f y fs).1
  ·refine(q68 f y fs).2 g (wi g fun z=>hg ?_)
   show(if g=f then some u else mA g)=none;rw [gy q];exact z
theorem Inv.made(I:Inv X pins σ H s): Inv X pins σ (upd (upd H s.heap.objs.size (.own (s.heap.objs.size+1))) (s.heap.objs.size+1) (.ins C s.heap.objs.size []))
  {s with heap:=(s.heap.push PySem.W.emptyDict).push (PySem.W.instObj C s.heap.objs.size)}:=by
 have e1:(s.heap.push PySem.W.emptyDict).get? s.heap.objs.size=some PySem.W.emptyDict:=m4 s.heap rfl;have e2:((s.heap.push PySem.W.emptyDict).push (PySem.W.instObj C s.heap.objs.size)).get? (s.heap.objs.size+1)=some (PySem.W.instObj C s.heap.objs.size):=by
  have:=m4 (s.heap.push PySem.W.emptyDict) (o:=PySem.W.instObj C s.heap.objs.size) rfl;rwa [pk] at this
 have e3:(s.heap.push PySem.W.emptyDict).Ns s.heap.objs.size (fun _=>none):=⟨PySem.W.emptyDict, #[],_,e1,rfl,(fun e he=>absurd he (by simp)),fun _=>rfl⟩
 have I1:=I.laid (a:=s.heap.objs.size) (o:=.own (s.heap.objs.size+1)) (h':=s.heap.push PySem.W.emptyDict) (t':=s.toks) (fun b u q=>gc _ q) (gv _) ⟨_,e1⟩;refine I1.laid (a:=s.heap.objs.size+1) (o:=.ins C s.heap.objs.size []) (t':=s.toks) (fun b u q=>gc _ q) (Nat.le_of_eq (pk _ _)) ?_;have ne:s.heap.objs.size≠s.heap.objs.size+1:=ma (g00 _);refine⟨by rw [qo ne,qy],g1c _,ne,e2,fun _=>none,(Heap.Ns1.of_empty e3).at fun o q=>gc _ q,fun _=>True.intro,fun y hy=>absurd rfl hy⟩
theorem qf2{prog:Program}{w:World}{env:Env}{e:Expr}{f:Str}{pos:Pos}{s:Shared}{Q:Value->Shared->Prop}(hb:attributeBase e f env (eval e env)=eval e env)
  (h:wpAny (model prog w) A (eval e env) (fun o s₁=>wpAny (model prog w) A (getAttr o f true) Q E s₁) E s):wpAny (model prog w) A (eval (.Attribute e f pos) env) Q E s:=
 Attribute_any_ h (by rw [arm_eval_Attribute,hb])
end
def qqz(K:PySem.W.Frag)(ta:TE)(f:Str): TE:=fun σ H Q=>ta σ H fun x H1=>∃a C dx fs v,x=.ref a/\H1 a=some (.ins C dx fs)/\Cls K C/\NoAttr K C f/\fs.lookup f=some v/\Q v H1
def qr0(K:PySem.W.Frag)(ta tv:TE)(f:Str): TS:=fun D σ H=>tv σ H fun y H1=>ta σ H1 fun x H2=>∃a C dx fs,x=.ref a/\H2 a=some (.ins C dx fs)/\Cls K C/\NoAttr K C f/\fs.length<1000 /\
 D.nx σ (upd H2 a (.ins C dx (wq f y fs)))
section
variable{X:Cx}{o e value:Expr}{f:Str}{pos pos' tpos:Pos}{ta tv:TE}
theorem qnl(he:PE X e ta)(hb:attributeBase e f X.env (eval e X.env)=eval e X.env): PE X (.Attribute e f pos) (qqz X.K ta f):=by
 intro pins s σ H Q I h;refine qf2 hb (thn (he pins s σ H _ I h) fun u s1 ⟨x,H1,I1,rx,a,C,dx,fs,v,ex,ea,c,n,l,q⟩=>?_);subst ex;obtain rfl:u=Value.ref a:=rx;exact qg6 I1 ea c n l fun u' s2 I2 ru=>⟨v,H1,I2,ru,q⟩
theorem qnm(ha:PE X o ta)(hv:PE X value tv)(hs:swapsWith value (some (.Attribute o f pos')) pos.line X.env=pure false): PS X (.Assign [.Attribute o f pos'] value pos) (qr0 X.K ta tv f):=by
 intro pins s σ H D I h;refine g0p (thn (hv pins s σ H _ I h) fun u s1 ⟨y,H1,I1,ry,q⟩=>thn (ha pins s1 σ H1 _ I1 q) fun ov s2 ⟨x,H2,I2,rx,a,C,dx,fs,ex,ea,c,n,l,q2⟩=>?_) hs;subst ex;obtain rfl:ov=Value.ref a:=rx;exact qg7 I2 ea c n l ry fun s3 I3=>⟨σ,_,I3,q2⟩
end
section
variable{X:Cx}{pins:List (Addr×Obj)}{σ : St}{H:Hp}{s:Shared}{A:Around}{E:Value->Shared->Prop}{Q:Value->Shared->Prop}{c:Value}{b:Bool}
end
structure Room(k:Nat)(A:Around): Prop where
 hd:A.handled=none
 dp:A.depth+3*k+5<recursionLimit
 un:A.units+16*k+200<cLine
theorem Room.mono{j k:Nat}{A:Around}(r:Room k A)(h:j<=k): Room j A:=⟨r.hd,by have:=r.dp;omega,by have:=r.un;omega⟩
theorem Room.deeper{k:Nat}{A:Around}(r:Room (k+1) A)(env:Env): Room k (A.deeper env):=
 ⟨r.hd,by have:=r.dp;show A.depth+1+3*k+5<_;omega,by have:=r.un;show A.units+3+16*k+200<_;omega⟩
theorem qg8{A:Around}{C:Addr}{us:List Value}{kw:List (Str×Value)}: (A.under (.builtin "type.__call__" ⟨.ref C :: us,kw⟩)).depth=A.depth+1:=by
 first|rfl|simp [Around.under,Code.weight,Code.isCreation,Code.isGuard,Code.isCaller,Code.frames,Code.isFrame,guardIds]
theorem qg9{A:Around}{C:Addr}{us:List Value}{kw:List (Str×Value)}: (A.under (.builtin "type.__call__" ⟨.ref C :: us,kw⟩)).units=A.units+1:=by
 first|rfl|simp [Around.under,Code.cUnits,Code.frames,Code.isFrame]
theorem Room.make{k:Nat}{A:Around}(r:Room (k+1) A)(C:Addr)(us:List Value)(kw:List (Str×Value)): Room k (A.under (.builtin "type.__call__" ⟨.ref C :: us,kw⟩)):=
 ⟨r.hd,by have:=r.dp;rw [qg8];omega,by have:=r.un;rw [qg9];omega⟩
theorem Room.depth{k:Nat}{A:Around}(r:Room k A): A.depth<recursionLimit:=by have:=r.dp;omega
theorem Room.units{k:Nat}{A:Around}(r:Room k A): A.units+64<cLine:=by have:=r.un;omega
def tNil:TA:=fun _ H Q=>Q [] H
def qpr(ta:TE)(tr:TA): TA:=fun σ H Q=>ta σ H fun x H1=>tr σ H1 fun xs H2=>Q (x :: xs) H2
section
variable{X:Cx}{e:Expr}{es:List Expr}{te:TE}{t:TA}{pos:Pos}
theorem w8:PA X [] tNil:=fun _ _ _ _ H Q I h=>g0g ⟨[],H,I,.nil,h⟩
theorem zm(ha:PE X e te)(hr:PA X es t)(hs:starEach (e :: es) X.env=(false,eval e X.env) :: starEach es X.env:=by rfl): PA X (e :: es) (qpr te t):=by
 intro pos pins s σ H Q I h;rw [hs];show wpAny _ _ (spliced ((false,eval e X.env) :: backTo pos (starEach es X.env))) _ _ s;refine g0a (thn (ha pins s σ H _ I h) fun u s1 ⟨x,H1,I1,r1,q1⟩=>?_);exact thn (hr pos pins s1 σ H1 _ I1 q1) fun us s2 ⟨xs,H2,I2,r2,q2⟩=>⟨x :: xs,H2,I2,.cons r1 r2,q2⟩
def qr1(t:TA): TE:=fun σ H Q=>t σ H fun xs H1=>xs.length<=sizeLine/\∀p,H1 p=none->Q (.ref p) (upd H1 p (.tup xs))
def qr2(t:TA): TE:=fun σ H Q=>t σ H fun xs H1=>xs.length<=sizeLine/\∀p,H1 p=none->Q (.ref p) (upd H1 p (.lst xs))
theorem qhf{x1}(h:PA X es t): PE X (.Tuple es x1 pos) (qr1 t):=by
 intro pins s σ H Q I hq;refine wpAny_Tuple_spliced (thn (h pos pins s σ H _ I hq) fun us s1 ⟨xs,H1,I1,r,z,q⟩=>⟨by rw [<- r.length];exact z,?_⟩);have hf:H1 s1.heap.objs.size=none:=I1.hok.fresh (gv _);refine⟨.ref s1.heap.objs.size,upd H1 s1.heap.objs.size (.tup xs),I1.laid (t':=s1.toks) (fun b u e=>gc _ e) (gv _) ?_,rfl,q _ hf⟩;exact⟨z,us,r,⟨_,m4 _ rfl,rfl,rfl,_,rfl⟩⟩
theorem qnn(h:PA X es t): PE X (.List es pos) (qr2 t):=by
 intro pins s σ H Q I hq;refine wpAny_List_spliced (thn (h pos pins s σ H _ I hq) fun us s1 ⟨xs,H1,I1,r,z,q⟩=>⟨by rw [<- r.length];exact z,?_⟩);have hf:H1 s1.heap.objs.size=none:=I1.hok.fresh (gv _);refine⟨.ref s1.heap.objs.size,upd H1 s1.heap.objs.size (.lst xs),I1.laid (t':=s1.toks) (fun b u e=>gc _ e) (gv _) ?_,rfl,q _ hf⟩;exact⟨z,us,0,r,m4 _ rfl⟩
end
abbrev Sp:=List V->Hp->VK->XK->Prop
abbrev CXT:=List Env->Hp->Shared->XK->Value->Shared->Prop
structure Env0(P:Program)(w:World)(K:PySem.W.Frag)(mg:Str->Option Value)(base:Heap)(A:Around)(outer:List Env)(s:Shared)(H:Hp): Prop where
 frames:A.frames=some outer
 mod:Mod K mg base
 bs:∀b o,base.get? b=some o->s.heap.get? b=some o/\H b=none
 bsz:base.objs.size<=s.heap.objs.size
 funs:s.heap.FunFrames base outer
 frf:∀b∈frs outer,H b=none
 hok:HOk P w H s.heap
 bare:AllBare s.gens
def CE(outer:List Env)(P:Program)(w:World)(H:Hp)(s:Shared)(Q:VK)(u:Value)(s':Shared): Prop:=
 ∃v H',s'.os=s.os/\AllBare s'.gens/\Un (frs outer) [] H H' s.heap s'.heap/\HOk P w H' s'.heap/\RelV v u/\Q v H'
def CR(CX:CXT)(outer:List Env)(P:Program)(w:World)(H:Hp)(s:Shared)(Q:VK)(E:XK)(r:Result)(s':Shared): Prop:=
 match r with
 | .ok (.ret u)=>CE outer P w H s Q u s'
 | .ok _=>False
 | .error e=>CX outer H s E e s'
structure FnOk(P:Program)(w:World)(K:PySem.W.Frag)(mg:Str->Option Value)(base:Heap)(CX:CXT)(k:Nat)(f:Addr)(fd:FuncData)(ps:List Str)(sp:Sp): Prop where
 len:∀vs H Q E,sp vs H Q E->vs.length=ps.length
 run:∀(A:Around) (outer:List Env) (s:Shared) (H:Hp) (args:Args) (us:List Value) (vs:List V) (Q:VK) (E:XK),Room k A->Env0 P w K mg base A outer s H->BindsTo s fd args (ps.zip us)->Vals vs us->sp vs H Q E ->
  codeAny (model P w) A (.call (.ref f) args) (CR CX outer P w H s Q E) s
theorem FnOk.imp{P:Program}{w:World}{K:PySem.W.Frag}{mg:Str->Option Value}{base:Heap}{CX:CXT}{k:Nat}{f:Addr}{fd:FuncData}{ps:List Str}{sp sp':Sp}(F:FnOk P w K mg base CX k f fd ps sp)
  (h:∀vs H Q E,sp' vs H Q E->sp vs H Q E):FnOk P w K mg base CX k f fd ps sp':=
 ⟨fun vs H Q E q=>F.len vs H Q E (h _ _ _ _ q),fun A outer s H args us vs Q E hr he hb hv hs=>F.run A outer s H args us vs Q E hr he hb hv (h _ _ _ _ hs)⟩
theorem Env0.make{P:Program}{w:World}{K:PySem.W.Frag}{mg:Str->Option Value}{base:Heap}{A:Around}{outer:List Env}{s:Shared}{H:Hp}(e:Env0 P w K mg base A outer s H)(C:Addr)(us:List Value)(kw:List (Str×Value)):
  Env0 P w K mg base (A.under (.builtin "type.__call__" ⟨.ref C :: us,kw⟩)) outer s H:=⟨by first|exact e.frames|(simpa [Around.under,Code.envs,Code.isFrame,pushEnvs] using e.frames),e.mod,e.bs,e.bsz,e.funs,e.frf,e.hok,e.bare⟩
section
variable{X:Cx}{pins:List (Addr×Obj)}{σ : St}{H:Hp}{s s':Shared}
theorem Inv.env0(I:Inv X pins σ H s): Env0 X.prog X.w X.K X.mg X.base X.A X.stack s H:=
 ⟨I.ok.frames,I.ok.mod,I.bs,mj I.ok.bsz I.sz,I.stack,I.stkFree,I.hok,I.bare⟩
theorem Inv.after{Q:VK}{u:Value}(I:Inv X pins σ H s)(h:CE X.stack X.prog X.w H s Q u s'): EP X pins σ Q u s':=by
 obtain⟨v,H',os,bare,un,hok,r,q⟩:=h;obtain⟨hh,g,d,t,os'⟩:=s';obtain rfl:os'=s.os:=os;exact⟨v,H',I.call (h':=hh) (g':=g) (d':=d) (t':=t) (ch:=[]) un hok bare (fun b z=>absurd z (by simp)),r,q⟩
end
def qps(sp:Sp)(dvs:List V)(E:XK)(t:TA): TE:=fun σ H Q=>t σ H fun vs H1=>sp (vs++dvs) H1 Q E
def q8y(C:Addr)(m:Str)(sp:Sp)(dvs:List V)(E:XK)(ta:TE)(t:TA): TE:=fun σ H Q=>ta σ H fun x H1=>∃a dx fs,x=.ref a/\H1 a=some (.ins C dx fs)/\fs.lookup m=none /\
 t σ H1 fun vs H2=>sp (x :: (vs++dvs)) H2 Q E
def qpt(C:Addr)(sp:Sp)(dvs:List V)(E:XK)(t:TA): TE:=fun σ H Q=>t σ H fun vs H1=>∀x dx,H1 x=none->H1 dx=none->dx≠x ->
 sp (.ref x :: (vs++dvs)) (upd (upd H1 dx (.own x)) x (.ins C dx [])) (fun v H2=>v=.non/\Q (.ref x) H2) E
def Binds(K:PySem.W.Frag)(fd:FuncData)(ps:List Str)(ds:List Value): Prop:=
 ∀(s:Shared) (us:List Value),K.In s.heap->(us++ds).length=ps.length->BindsTo s fd ⟨us,[]⟩ (ps.zip (us++ds))
def q2l(CX:CXT)(X:Cx)(E:XK): Prop:=∀(pins:List (Addr×Obj)) (σ : St) (H:Hp) (s:Shared) (e:Value) (s':Shared),Inv X pins σ H s->CX X.stack H s E e s'->X.xe e s'
section
variable{X:Cx}{CX:CXT}{k:Nat}{f C:Addr}{fd:FuncData}{ps:List Str}{sp:Sp}{dvs:List V}{ds:List Value}{E:XK}{x m:Str}{p pos apos:Pos}{e o:Expr}{es:List Expr}{ta:TE}{t:TA}
theorem qcl{pins:List (Addr×Obj)}{σ : St}{H:Hp}{s:Shared}{Q:VK}{us:List Value}{vs:List V}(F:FnOk X.prog X.w X.K X.mg X.base CX k f fd ps sp)(hr:Room k X.A)(hb:Binds X.K fd ps ds)(hd:Vals dvs ds)(hx:q2l CX X E)
  (I:Inv X pins σ H s) (r:Vals vs us) (h:sp (vs++dvs) H Q E):wpAny (model X.prog X.w) X.A (call (.ref f) us) (EP X pins σ Q) X.xe s:=by
 have r2:Vals (vs++dvs) (us++ds):=r.append hd;have hl:(us++ds).length=ps.length:=by rw [<- r2.length];exact F.len _ _ _ _ h
 refine ua (uu (F.run X.A X.stack s H ⟨us,[]⟩ (us++ds) (vs++dvs) Q E hr I.env0 (hb s us I.kIn hl) r2 h) fun r s' hq=>?_);cases r with
 | error e=>exact hx pins σ H s e s' I hq
 | ok fl=>
  cases fl with
  | ret u=>exact I.after hq
  | next=>exact False.elim hq
  | brk=>exact False.elim hq
  | cont=>exact False.elim hq
theorem q77(F:FnOk X.prog X.w X.K X.mg X.base CX k f fd ps sp)(hr:Room k X.A)(hg:Gl X x)(hm:X.mg x=some (.ref f))(hk:PySem.W.keepIn X.K (.ref f)=true)(hb:Binds X.K fd ps ds)(hd:Vals dvs ds)(hx:q2l CX X E)
  (ha:PA X (e :: es) t) (hdb:(x==("__debug__" : Str))=false:=by decide) (he:starEach (e :: es) X.env=(false,eval e X.env) :: starEach es X.env:=by rfl) (hpl:(backTo pos (starEach es X.env)).any (·.1)=false:=by rfl) :
  PE X (.Call (.Name x p) (e :: es) [] pos) (qps sp dvs E t):=by
 intro pins s σ H Q I h;refine t4 (q1a I hg hm ?_ hdb);refine t5 (h₀:=X.base) I.ok.mod.kin hk (thn (ha pos pins s σ H _ I h) fun us s1 ⟨vs,H1,I1,r,q⟩=>⟨I1.kIn,?_⟩) he hpl;exact qcl F hr hb hd hx I1 r q
theorem qf3{pl:Sem Bool}(he:PE X o ta)(c:Cls X.K C)(hm:Meth X.K C m f)(F:FnOk X.prog X.w X.K X.mg X.base CX k f fd ps sp)(hr:Room k X.A)(hb:Binds X.K fd ps ds)(hd:Vals dvs ds)(hx:q2l CX X E)(ha:PA X (e :: es) t)
  (hst:starEach (e :: es) X.env=(false,eval e X.env) :: starEach es X.env:=by rfl) (hpl:(backTo pos (starEach es X.env)).any (·.1)=false:=by rfl)
  (ht:eval (.Call (.Attribute o m apos) (e :: es) [] pos) X.env=(do
   let ov <- eval o X.env
   standAt apos.atName
   let(f,first) <- holding [ov] (getMethod ov m pl)
   callWith pos f first (backTo pos (starEach (e :: es) X.env)) (backToKw pos (keywordEach [] X.env))):=by rfl) :
  PE X (.Call (.Attribute o m apos) (e :: es) [] pos) (q8y C m sp dvs E ta t):=by
 intro pins s σ H Q I h;refine uv (pl:=pl) (thn (he pins s σ H _ I h) fun u s1 ⟨x,H1,I1,rx,a,dx,fs,ex,ea,l,q⟩=>?_) ht;subst ex;obtain rfl:u=Value.ref a:=rx;refine q58 I1 ea c hm l ?_;refine t5 (first:=[.ref a]) (h₀:=X.base) I.ok.mod.kin hm.kp (thn (ha pos pins s1 σ H1 _ I1 q) fun us s2 ⟨vs,H2,I2,r,q2⟩=>⟨I2.kIn,?_⟩) hst hpl;exact qcl (us:=.ref a :: us) (vs:=.ref a :: vs) F hr hb hd hx I2 (.cons rfl r) q2
theorem qjd{pl:Sem Bool}(he:PE X o ta)(c:Cls X.K C)(hm:Meth X.K C m f)(F:FnOk X.prog X.w X.K X.mg X.base CX k f fd ps sp)(hr:Room k X.A)(hb:Binds X.K fd ps ds)(hd:Vals dvs ds)(hx:q2l CX X E)
  (ht:eval (.Call (.Attribute o m apos) [] [] pos) X.env=(do
   let ov <- eval o X.env
   standAt apos.atName
   let(f,first) <- holding [ov] (getMethod ov m pl)
   callWith pos f first (backTo pos (starEach [] X.env)) (backToKw pos (keywordEach [] X.env))):=by rfl) :
  PE X (.Call (.Attribute o m apos) [] [] pos) (q8y C m sp dvs E ta tNil):=by
 intro pins s σ H Q I h;refine uv (pl:=pl) (thn (he pins s σ H _ I h) fun u s1 ⟨x,H1,I1,rx,a,dx,fs,ex,ea,l,q⟩=>?_) ht;subst ex;obtain rfl:u=Value.ref a:=rx;refine q58 I1 ea c hm l ?_;exact PySem.W.callWith_K0 (first:=[.ref a]) I1.kIn hm.kp (qcl (us:=[.ref a]) (vs:=[.ref a]) F hr hb hd hx I1 (.cons rfl .nil) q)
structure Mk(K:PySem.W.Frag)(C f:Addr): Prop where
 makes:PySem.W.makesIn K C=true
 init:PySem.W.findIn K (.ref C) "__init__" = some (some (.ref f))
 fn:PySem.W.isFn K (.ref f)=true
 kp:PySem.W.keepIn K (.ref C)=true
theorem qje{pins:List (Addr×Obj)}{σ : St}{H:Hp}{s:Shared}{Q:VK}{us:List Value}{vs:List V}(M:Mk X.K C f)(F:FnOk X.prog X.w X.K X.mg X.base CX k f fd ps sp)(hr:Room (k+1) X.A)(hb:Binds X.K fd ps ds)(hd:Vals dvs ds)
  (hx:q2l CX X E) (I:Inv X pins σ H s) (r:Vals vs us)
  (h:∀x dx,H x=none->H dx=none->dx≠x->sp (.ref x :: (vs++dvs)) (upd (upd H dx (.own x)) x (.ins C dx [])) (fun v H2=>v=.non/\Q (.ref x) H2) E) :
  wpAny (model X.prog X.w) X.A (call (.ref C) us) (EP X pins σ Q) X.xe s:=by
 have hq:=h (s.heap.objs.size+1) s.heap.objs.size (I.hok.fresh (g23 _)) (I.hok.fresh (gv _)) (ma (g00 _));have I2:=Inv.made (C:=C) I;have r2:Vals (V.ref (s.heap.objs.size+1) :: (vs++dvs)) (Value.ref (s.heap.objs.size+1) :: (us++ds)):=.cons rfl (r.append hd);have hl:(Value.ref (s.heap.objs.size+1) :: us++ds).length=ps.length:=by
  have e:=r2.length;rw [F.len _ _ _ _ hq] at e;exact e.symm
 refine ua (qck (f:=f) I.kIn M.makes M.init (nk.mp M.fn) (uu (F.run _ X.stack _ _ ⟨Value.ref (s.heap.objs.size+1) :: us,[]⟩ (Value.ref (s.heap.objs.size+1) :: (us++ds)) _ _ E (hr.make C us [])
  (I2.env0.make C us []) (hb _ (Value.ref (s.heap.objs.size+1) :: us) I2.kIn hl) r2 hq) fun r s' hq'=>?_))
 cases r with
 | error e=>exact hx pins σ _ _ e s' I2 hq'
 | ok fl=>
  cases fl with
  | ret u=>
   obtain⟨v,H',I3,rv,ev,q3⟩:=I2.after hq';subst ev;exact⟨rv,⟨V.ref (s.heap.objs.size+1),H',I3,rfl,q3⟩⟩
  | next=>exact False.elim hq'
  | brk=>exact False.elim hq'
  | cont=>exact False.elim hq'
theorem qls(M:Mk X.K C f)(F:FnOk X.prog X.w X.K X.mg X.base CX k f fd ps sp)(hr:Room (k+1) X.A)(hg:Gl X x)(hm:X.mg x=some (.ref C))(hb:Binds X.K fd ps ds)(hd:Vals dvs ds)(hx:q2l CX X E)
  (ha:PA X (e :: es) t) (hdb:(x==("__debug__" : Str))=false:=by decide) (he:starEach (e :: es) X.env=(false,eval e X.env) :: starEach es X.env:=by rfl) (hpl:(backTo pos (starEach es X.env)).any (·.1)=false:=by rfl) :
  PE X (.Call (.Name x p) (e :: es) [] pos) (qpt C sp dvs E t):=by
 intro pins s σ H Q I h;refine t4 (q1a I hg hm ?_ hdb);refine t5 (h₀:=X.base) I.ok.mod.kin M.kp (thn (ha pos pins s σ H _ I h) fun us s1 ⟨vs,H1,I1,r,q⟩=>⟨I1.kIn,?_⟩) he hpl;exact qje M F hr hb hd hx I1 r q
end
section
variable{X:Cx}{CX:CXT}{k:Nat}{f C:Addr}{fd:FuncData}{ps ks:List Str}{sp:Sp}{E:XK}{x m:Str}{p pos apos kpos:Pos}{e o:Expr}{es:List Expr}{kws:List Keyword}{te ta:TE}{t tk:TA}{nm:Option Str}
variable{g:List Value->List Value->List Value}{gV:List V->List V->List V}
end
structure FnScope(N P:List Str)(sc:Scope): Prop where
 kind:sc.kind=.function
 co:sc.isCoroutine=false
 gen:sc.isGenerator=false
 nd:N.Nodup
 pre:N.take P.length=P
 par:∀x∈P,sc.names.lookup x=some .local\/sc.names.lookup x=some .cell
 nofree:∀y∈sc.names,y.2 ≠ .free
theorem qas{kindOf:Str->Option NameKind}{x:Str}: ∀ {binds:List (Str×Value)} {m:Str->Option Value},(∀v,(x,v)∉binds)->bindL kindOf binds m x=m x
 | [],_,_=>rfl
 | (n,v) :: r,m,h=>by
  unfold bindL;rw [qas fun w hw=>h w (gw _ hw)]
  split
  ·have:x≠n:=by rintro rfl;exact h v gs
   simp [this]
  ·rfl
theorem qat{kindOf:Str->Option NameKind}{x:Str}: ∀ {binds:List (Str×Value)} {m:Str->Option Value},(∀v,(x,v)∉binds)->bindC kindOf binds m x=m x
 | [],_,_=>rfl
 | (n,v) :: r,m,h=>by
  unfold bindC;rw [qat fun w hw=>h w (gw _ hw)]
  split
  ·rfl
  ·have:x≠n:=by rintro rfl;exact h v gs
   simp [this]
theorem qau{kindOf:Str->Option NameKind}{x:Str}{v:Value}: ∀ {P:List Str} {vs:List Value} {i:Nat} {m:Str->Option Value},P.Nodup->P[i]? = some x->vs[i]? = some v->kindOf x=some .local ->
  bindL kindOf (P.zip vs) m x=some v
 | [],_,_,_,_,h,_,_=>by simp at h
 | _ :: _,[],_,_,_,_,h,_=>by simp at h
 | p :: P,w :: vs,0,m,nd,h1,h2,hk=>by
  simp at h1 h2;subst h1;subst h2;show bindL kindOf ((p,w) :: P.zip vs) m p=_;unfold bindL;rw [qas fun v hv=>(g0t.mp nd).1 (g1z hv).1,gr hk];simp
 | p :: P,w :: vs,i+1,m,nd,h1,h2,hk=>by
  show bindL kindOf ((p,w) :: P.zip vs) m x=_;unfold bindL;exact qau (i:=i) (g0t.mp nd).2 (by simpa using h1) (by simpa using h2) hk
theorem qav{kindOf:Str->Option NameKind}{x:Str}{v:Value}: ∀ {P:List Str} {vs:List Value} {i:Nat} {m:Str->Option Value},P.Nodup->P[i]? = some x->vs[i]? = some v->kindOf x≠some .local ->
  bindC kindOf (P.zip vs) m x=some v
 | [],_,_,_,_,h,_,_=>by simp at h
 | _ :: _,[],_,_,_,_,h,_=>by simp at h
 | p :: P,w :: vs,0,m,nd,h1,h2,hk=>by
  simp at h1 h2;subst h1;subst h2;show bindC kindOf ((p,w) :: P.zip vs) m p=_;unfold bindC;rw [qat fun v hv=>(g0t.mp nd).1 (g1z hv).1,gy hk];simp
 | p :: P,w :: vs,i+1,m,nd,h1,h2,hk=>by
  show bindC kindOf ((p,w) :: P.zip vs) m x=_;unfold bindC;exact qav (i:=i) (g0t.mp nd).2 (by simpa using h1) (by simpa using h2) hk
def start(N:List Str)(vs:List V): St:=vs.map some++List.replicate (N.length-vs.length) none
def qx(CX:CXT)(P:Program)(w:World)(K:PySem.W.Frag)(mg:Str->Option Value)(base:Heap)(N:List Str)(qual:Str)(scope:Scope)(f:Addr)(cd:Value)(A:Around)(outer:List Env)(s:Shared)(H:Hp)(E:XK): Cx where
 prog:=P
 w:=w
 K:=K
 mg:=mg
 base:=base
 A:=A.deeper (envOfC qual scope s.heap.objs.size f cd)
 N:=N
 s₀:=s
 H₀:=H
 env:=envOfC qual scope s.heap.objs.size f cd
 outer:=outer
 stack:=envOfC qual scope s.heap.objs.size f cd :: outer
 ex:=[]
 calm:=true
 fn:=fun _=>true
 pn:=[]
 xe:=fun e s'=>wpAny (model P w) (A.deeper (envOfC qual scope s.heap.objs.size f cd)) (leaving (envOfC qual scope s.heap.objs.size f cd) e) (fun _ s''=>CX outer H s E e s'') (fun e' s''=>CX outer H s E e' s'') s'
theorem qcm{sc:Scope}{n:Nat}{x:Str}(h:sc.names.lookup x=some .cell): ∃c,(cellsFrom n sc.names []).lookup x=some c:=by
 have q:=g24 sc.names n [] (.inl h);exact ue.mp q
theorem qhg{CX:CXT}{P:Program}{w:World}{K:PySem.W.Frag}{mg:Str->Option Value}{base:Heap}{N ps:List Str}{qual:Str}{scope:Scope}{f:Addr}{cd:Value}{A:Around}{outer:List Env}{s s1:Shared}{H:Hp}{E:XK}{us:List Value}{vs:List V}
  (S:FnScope N ps scope) (hd:A.handled=none) (e0:Env0 P w K mg base A outer s H) (hl:vs.length=ps.length) (r:Vals vs us)
  (x:InCallC s s.heap.objs.size (bindL (envOfC qual scope s.heap.objs.size f cd).kindOf (ps.zip us) fun _=>none) (cellsFrom (s.heap.objs.size+1) scope.names []) (bindC (envOfC qual scope s.heap.objs.size f cd).kindOf (ps.zip us) fun _=>none) s1) :
  Inv (qx CX P w K mg base N qual scope f cd A outer s H E) [] (start N vs) H s1:=by
 have hpl:ps.length<=N.length:=by have:=tf List.length S.pre;rw [uf] at this;omega
 obtain⟨h1,tk,rfl,hk⟩:=x.done;have noA:∀b:Addr,b∉(qx CX P w K mg base N qual scope f cd A outer s H E).ex:=fun b z=>absurd (show b∈([]:List Addr) from z) (by simp);refine⟨⟨e0.mod,S.kind,rfl,rfl,gv _,fun y z c h1 h2=>?_,fun y hy=>?_,fun y c _ h=>?_,fun _=>hd,Around.frames_deeper e0.frames,.inr ⟨rfl,rfl⟩,fun b z=>absurd z (noA b),e0.bs,e0.bsz,fun b _ _=>noA b,fun b z=>absurd z (noA b),e0.funs,e0.frf⟩,
  rfl,e0.bare,Un.kept hk,⟨_,x.toInCall.ns,fun i y v h1 h2 h3=>?_⟩,fun y c h=>⟨_,x.cell y c h⟩,e0.hok.fresh (gv _),fun y c h=>?_,fun p hp=>absurd (show p∈([]:List (Addr×Obj)) from hp) (by simp),e0.hok.kept hk,?_⟩
 ·exact name_of_addr x.apart (uj h1) (uj h2)
 ·have hy:scope.names.lookup y=some .cell\/scope.names.lookup y=some .free:=hy
  rcases hy with hy|hy
  ·exact qcm hy
  ·exact absurd rfl (S.nofree _ (uj hy))
 ·exact g2e (x.above y c (uj h))
 ·have hi:i<vs.length:=by
   unfold start at h2
   by_cases hi:i<vs.length
   ·exact hi
   ·rw [nh (by simpa using hi)] at h2
    rw [nt] at h2
    split at h2 <;> cases h2
  have ha:vs[i]? = some v:=by
   unfold start at h2;rw [mm (by simpa using hi),md] at h2;cases e:vs[i]? with
   | none=>rw [e] at h2;cases h2
   | some a=>rw [e] at h2;cases h2;rfl
  obtain⟨u,hu,rv⟩:=r.get ha;have hp:ps[i]? = some y:=by
   rw [<- S.pre,List.getElem?_take_of_lt (by omega)];exact h1
  have ndP:ps.Nodup:=by rw [<- S.pre];exact S.nd.sublist (List.take_sublist _ _)
  refine⟨u,rv,?_⟩;rcases S.par y (List.mem_of_getElem? hp) with k|k
  ·exact .inl ⟨k,qau ndP hp hu k⟩
  ·obtain⟨c,e⟩:=qcm (n:=s.heap.objs.size+1) k
   refine .inr ⟨.inl k,c,e,?_⟩;have q:=x.cell y c e;rw [qav ndP hp hu (by show scope.names.lookup y≠_;rw [k];decide)] at q;exact q
 ·exact e0.hok.fresh (g2e (x.above y c (uj h)))
 ·unfold start
  show _=N.length;rw [mv,m6,g0o];omega
theorem qc6{CX:CXT}{P:Program}{w:World}{K:PySem.W.Frag}{mg:Str->Option Value}{base:Heap}{k:Nat}{f:Addr}{name qual:Str}{params:Arguments}{body:List Stmt}{scope:Scope}{dV kV doc pm cdv ct oc:Value}{an od:Option Addr}
  {osl:Array (Option Value)} {N ps:List Str} {sp:Sp} (lk:K.lookup f=some ⟨oc,od,.func (PySem.W.fnOf name qual params body scope dV kV doc pm an cdv ct),osl⟩) (hcd:PySem.W.codeIn K cdv qual=true) (S:FnScope N ps scope)
  (len:∀vs H Q E,sp vs H Q E->vs.length=ps.length)
  (hbody:∀(A:Around) (outer:List Env) (s:Shared) (H:Hp) (vs:List V) (Q:VK) (E:XK),Room k (A.deeper (envOfC qual scope s.heap.objs.size f cdv))->sp vs H Q E ->
   ∃t,PSs (qx CX P w K mg base N qual scope f cdv A outer s H E) body t/\t {nx:=fun _ H'=>Q .non H',rt:=Q} (start N vs) H) :
  FnOk P w K mg base CX (k+1) f (PySem.W.fnOf name qual params body scope dV kV doc pm an cdv ct) ps sp:=by
 refine⟨len,fun A outer s H args us vs Q E hr e0 hb r hsp=>?_⟩;have hl:=len _ _ _ _ hsp;have KX:K.In s.heap:=e0.mod.kin.keeps fun b o e=>(e0.bs b o e).1;have lim:s.heap.NoLimit:=e0.mod.nolimit.keeps fun b o e=>(e0.bs b o e).1;have hkind:∀y∈ps.zip us,scope.names.lookup y.1=some .local\/(scope.names.lookup y.1=some .cell/\((cellsFrom (s.heap.objs.size+1) scope.names []).lookup y.1).isSome=true):=fun⟨n,v⟩ hy=>by
  rcases S.par n (g1z hy).1 with q|q
  ·exact .inl q
  ·exact .inr ⟨q,g24 _ _ _ (.inl q)⟩
 refine codeAny_call_function hr.depth (KX _ _ lk) rfl S.co S.gen rfl (PySem.W.codeRec_of KX hcd) (hb _ _ _ _ ?_);refine wpAny_newFunctionEnv_cells S.kind hkind fun env he s1 x=>?_;subst he;refine⟨lim.keeps x.toInCall.keep,codeAny_func ?_⟩;obtain⟨t,ht,hq⟩:=hbody A outer s H vs Q E (hr.deeper _) hsp;have I:Inv (qx CX P w K mg base N qual scope f cdv A outer s H E) [] (start N vs) H s1:=qhg S hr.hd e0 hl r x;refine mw (ht [] s1 (start N vs) H _ I hq) (fun fl s' hs=>?_) fun e s' hs=>hs;have fin:∀ {σ':St} {H':Hp} {v:V} {u:Value},Inv (qx CX P w K mg base N qual scope f cdv A outer s H E) [] σ' H' s'->RelV v u->Q v H'->CE outer P w H s Q u s':=
  fun {σ' H' v u} J rv q=>⟨v,H',J.os,J.bare,J.base,J.hok,rv,q⟩
 cases fl with
 | ret u=>
  obtain⟨v, σ',H',J,rv,q⟩:=hs;exact fin J rv q
 | next=>
  obtain⟨σ',H',J,q⟩:=hs;exact fin (v:=V.non) (u:=Value.none) J rfl q
 | brk=>
  obtain⟨_,_,_,q⟩:=hs;exact False.elim q
 | cont=>
  obtain⟨_,_,_,q⟩:=hs;exact False.elim q
section
variable{X:Cx}{x:Str}{p pos:Pos}{e:Expr}{es:List Expr}{t:TA}{id T:String}{r:List V->Hp->VK->Prop}
def tCB(r:List V->Hp->VK->Prop)(t:TA): TE:=fun σ H Q=>t σ H fun vs H1=>r vs H1 Q
theorem q1w(hc:vh X (.builtin id) r)(hg:Gl X x)(hm:X.mg x=none)(hv:bootBuiltins x=some (.builtin id))(ha:PA X (e :: es) t)(hn:x≠"__name__" :=by decide)(hdb:(x==("__debug__" : Str))=false:=by decide)
  (he:starEach (e :: es) X.env=(false,eval e X.env) :: starEach es X.env:=by rfl) (hpl:(backTo pos (starEach es X.env)).any (·.1)=false:=by rfl):PE X (.Call (.Name x p) (e :: es) [] pos) (tCB r t):=by
 intro pins s σ H Q I h;refine t4 (q1h I hg hm hv ?_ hn hdb);exact g0u (thn (ha pos pins s σ H _ I h) fun us s1 ⟨vs,H1,I1,r1,q1⟩=>hc pins s1 σ H1 vs us Q I1 r1 q1) he hpl
theorem qhh(hc:vh X (.type T) r)(hg:Gl X x)(hm:X.mg x=none)(hv:bootBuiltins x=some (.type T))(ha:PA X (e :: es) t)(hn:x≠"__name__" :=by decide)(hdb:(x==("__debug__" : Str))=false:=by decide)
  (he:starEach (e :: es) X.env=(false,eval e X.env) :: starEach es X.env:=by rfl) (hpl:(backTo pos (starEach es X.env)).any (·.1)=false:=by rfl):PE X (.Call (.Name x p) (e :: es) [] pos) (tCB r t):=by
 intro pins s σ H Q I h;refine t4 (q1h I hg hm hv ?_ hn hdb);exact n9 (thn (ha pos pins s σ H _ I h) fun us s1 ⟨vs,H1,I1,r1,q1⟩=>hc pins s1 σ H1 vs us Q I1 r1 q1) he hpl
end
end L2
namespace HT
open PySem PyProof.Rows
section
open PySem.SeqAt
open PySem.AutoSeq1 (wpAny_loadPart')
open PySem.MeetsSeq PySem.MeetsSeq2 PySem.MeetsSeq3
end
section
variable{prog:Program}{w:World}{A:Around}{E:Value->Shared->Prop}{s:Shared}
theorem cat_tup{t b:Addr}{vs ws:List Value}{Q:Value->Shared->Prop}(ht:IsTup s.heap t vs.toArray)(hb:IsTup s.heap b ws.toArray)(hv:vs≠[])
  (h1:ws=[]->Q (.ref t) s) (h2:ws≠[]->Q (.ref s.heap.objs.size) {s with heap:=s.heap.push {cls:=.type "tuple",data:=.seq (vs++ws).toArray} })
  (hsz:vs.length+ws.length<=sizeLine):wpAny (model prog w) A (binaryOp .Add (.ref t) (.ref b)) Q E s:=by
 obtain⟨⟨cls,dd,data,sl⟩,ho,hc,n,hd⟩:=id ht;obtain⟨⟨cls2,dd2,data2,sl2⟩,ho2,hc2,n2,hd2⟩:=id hb;simp only at hc hd hc2 hd2;subst hc hd hc2 hd2;have e:vs.toArray++ws.toArray=(vs++ws).toArray:=by simp
 by_cases hw:ws=[]
 ·exact g1q ⟨_,ho,rfl⟩ ⟨_,ho2,rfl⟩ g1r seq_tuple_add g0k g0f (g0b _ _)
   (tuple_addW1 t b vs.toArray ws.toArray n n2 dd dd2 sl sl2 (by simpa using hv) (by simp [hw])) ⟨ho,ho2,h1 hw⟩
 ·refine g1q ⟨_,ho,rfl⟩ ⟨_,ho2,rfl⟩ g1r seq_tuple_add g0k g0f (g0b _ _)
   (tuple_addW2 t b vs.toArray ws.toArray n n2 dd dd2 sl sl2 (by simpa using hv) (by simpa using hw) (by rw [gj,gj];exact hsz)) ⟨ho,ho2,?_⟩
  rw [e];exact h2 hw
def sIx(n d:Nat): Option Int->Nat
 | none=>d
 | some v=>if v<0 then(v+(n:Int)).toNat else min v.toNat n
theorem sIx_none(n d:Nat): sIx n d none=d:=rfl
theorem sIx_nat(n d k:Nat): sIx n d (some (k:Int))=min k n:=by
 show(if(k:Int)<0 then((k:Int)+(n:Int)).toNat else min (k:Int).toNat n)=min k n;rw [gy (by omega),g0h]
theorem qno(n d:Nat)(hd:d<=n)(o:Option Int): sIx n d o<=n:=by
 cases o with
 | none=>exact hd
 | some v=>
  show(if v<0 then(v+(n:Int)).toNat else min v.toNat n)<=n
  by_cases hv:v<0
  ·rw [gr hv];omega
  ·rw [gy hv];exact Nat.min_le_right _ _
theorem qf4(v:Int)(n d:Nat): (if v<0 then max (v+(n:Int)) 0 else min v (n:Int))=((sIx n d (some v):Nat):Int):=by
 show(if v<0 then max (v+(n:Int)) 0 else min v (n:Int))=(((if v<0 then(v+(n:Int)).toNat else min v.toNat n):Nat):Int)
 by_cases hv:v<0
 ·simp only [gr hv];omega
 ·simp only [gy hv];omega
theorem qga(lo hi:Option Int)(n:Nat): Builtin.Slice.sliceAdjust lo hi 1 (n:Int)=(((sIx n 0 lo:Nat):Int),((sIx n n hi:Nat):Int)):=by
 have h1:¬((1:Int)<0):=by omega
 unfold Builtin.Slice.sliceAdjust;simp only [h1,g01];refine Prod.ext ?_ ?_
 ·cases lo with
  | none=>rfl
  | some v=>exact qf4 v n 0
 ·cases hi with
  | none=>rfl
  | some v=>exact qf4 v n n
theorem qgb(i j:Nat): Builtin.Slice.slicePlaces (i:Int) (j:Int) 1=j-i:=by
 unfold Builtin.Slice.slicePlaces;have h1:(1:Int)>0:=by omega
 simp only [h1,p5,Int.ediv_one]
 split <;> omega
theorem q8z{v:Value}{o:Option Int}{Q:Option Int->Shared->Prop}(p:IsPart v o)(h:Q o s): wpAny (model prog w) A (Builtin.Slice.slicePartIndex v) Q E s:=by
 cases p with
 | none=>exact slicePart_none h
 | int i t=>exact slicePart_int h
theorem sliceApplied_gen{sl:Addr}{vl vu:Value}{lo hi:Option Int}{n:Nat}{Q:Int×Int×Nat->Shared->Prop}(hs:s.heap.IsSliceOf sl vl vu .none)(pl:IsPart vl lo)(pu:IsPart vu hi)
  (h:Q (((sIx n 0 lo:Nat):Int),1,sIx n n hi-sIx n 0 lo) s):wpAny (model prog w) A (Builtin.Slice.sliceApplied (.ref sl) (pure (n:Int))) Q E s:=by
 obtain⟨os,hos,hcs,hds⟩:=id hs;unfold Builtin.Slice.sliceApplied Builtin.Slice.sliceFields;refine g9 (g9 (my hos hds (x:=vl) rfl (g9 (my hos hds (x:=vu) rfl (g9 (my hos hds (x:=.none) rfl (gh ?_)))))));refine g9 (slicePart_none ?_);show wpAny _ _ (if((1:Int)==0)=true then _ else _) _ _ s;rw [gy (by decide)];refine g9 (q8z pl (g9 (q8z pu (g9 (gh ?_)))));show wpAny _ _ (match Builtin.Slice.sliceAdjust lo hi 1 (n:Int) with|(lo,hi)=>pure (lo,(1:Int),Builtin.Slice.slicePlaces lo hi 1)) _ _ s;rw [qga lo hi n];show wpAny _ _ (pure (((sIx n 0 lo:Nat):Int),(1:Int),Builtin.Slice.slicePlaces ((sIx n 0 lo:Nat):Int) ((sIx n n hi:Nat):Int) 1)) _ _ s;rw [qgb];exact gh h
theorem qjf(xs:Array Value)(i k:Nat): ((List.range k).filterMap fun(m:Nat)=>xs[((i:Int)+(m:Int)*1).toNat]?).toArray=((xs.toList.drop i).take k).toArray:=by
 have e:(fun(m:Nat)=>xs[((i:Int)+(m:Int)*1).toNat]?)=fun m=>xs[i+m]? :=by
  funext m
  have:((i:Int)+(m:Int)*1).toNat=i+m:=by omega
  rw [this]
 rw [e];have:=pick_run xs i k;rw [List.filterMap_map] at this;have e2:((fun x=>xs[x]?) ∘ fun x=>i+x)=fun m=>xs[i+m]? :=rfl;rw [e2] at this;rw [this]
theorem getItem_tuple_cut{t sl:Addr}{items:Array Value}{vl vu:Value}{lo hi:Option Int}{Q:Value->Shared->Prop}(ht:IsTup s.heap t items)(hs:s.heap.IsSliceOf sl vl vu .none)(pl:IsPart vl lo)(pu:IsPart vu hi)
  (hw:¬(sIx items.size 0 lo=0/\sIx items.size items.size hi=items.size))
  (h:Q (.ref s.heap.objs.size) {s with heap:=s.heap.push {cls:=.type "tuple",data:=.seq ((items.toList.drop (sIx items.size 0 lo)).take (sIx items.size items.size hi-sIx items.size 0 lo)).toArray} })
  (hsz:items.size<=sizeLine):wpAny (model prog w) A (getItem (.ref t) (.ref sl)) Q E s:=by
 have htake:sizeOk (.seq ((items.toList.drop (sIx items.size 0 lo)).take (sIx items.size items.size hi-sIx items.size 0 lo)).toArray):=by
  show((items.toList.drop (sIx items.size 0 lo)).take (sIx items.size items.size hi-sIx items.size 0 lo)).toArray.size<=sizeLine;rw [gj,uf,g1s,ui];omega
 have hj:sIx items.size items.size hi<=items.size:=qno _ _ (gv _) hi;obtain⟨os,hos,hcs,hds⟩:=id hs;have hTs:s.TypeIs (.ref sl) "slice" :=⟨os,hos,hcs⟩
 unfold getItem
 try with_reducible refine tj ?_
 first|refine g9 (gh ?_)|skip
 refine g9 (wpAny_sequenceKey ht.typeIs (by decide) ?_);refine g9 (p6 (name:=Str.ofString "__getitem__") ht.typeIs ng
  (ug ng ht.typeIs entry_tuple_getitem ?_ (args_tuple_getitem _ _)))
 show wpAny _ _ (Builtin.Tuple.tupleItemsOf (.ref t) >>= _) _ _ s;refine g9 (tupleItemsOf_ ht ?_);refine g9 (g0v hTs ?_);rw [gr (by decide)];refine g9 (sliceApplied_gen hs pl pu ?_);have hno:¬((((sIx items.size 0 lo:Nat):Int)==0&&(1:Int)==1&&(sIx items.size items.size hi-sIx items.size 0 lo)==items.size)=true):=by
  intro q;rw [mh,mh] at q;have q1:((sIx items.size 0 lo:Nat):Int)=0:=eq_of_beq q.1.1;have q2:sIx items.size items.size hi-sIx items.size 0 lo=items.size:=eq_of_beq q.2;exact hw ⟨by omega,by omega⟩
 show wpAny _ _ (if(((sIx items.size 0 lo:Nat):Int)==0&&(1:Int)==1&&(sIx items.size items.size hi-sIx items.size 0 lo)==items.size)=true then _ else _) _ _ s;rw [gy hno,qjf]
 first
  | exact g9 (m:=Builtin.Tuple.tupleExact _) (nq (gh ⟨_,rfl,gh h⟩) htake)
  | exact g9 (m:=Builtin.Tuple.tupleExact _) (nq (g9 (gh (gh ⟨_,rfl,gh h⟩))) htake)
  | exact g9 (g9 (m:=Builtin.Tuple.tupleExact _) (nq (gh (gh ⟨_,rfl,gh h⟩)) htake))
  | exact g9 (g9 (m:=Builtin.Tuple.tupleExact _) (nq (gh ⟨_,rfl,gh h⟩) htake))
end
end HT
namespace L2
open PySem PySem.Spec PyProof.Rows
abbrev TO:=St->Hp->(Option Int->Hp->Prop)->Prop
def PO(X:Cx)(e:Option Expr)(t:TO): Prop:=
 ∀(pins:List (Addr×Obj)) (s:Shared) (σ : St) (H:Hp) (Q:Option Int->Hp->Prop),Inv X pins σ H s->t σ H Q ->
  wpAny (model X.prog X.w) X.A (evalPart e X.env) (fun u s'=>∃o H',Inv X pins σ H' s'/\IsPart u o/\Q o H') X.xe s
def tNoPart:TO:=fun _ H Q=>Q none H
def qpu(t:TE): TO:=fun σ H Q=>t σ H fun x H1=>∃i,x=.int i/\Q (some i) H1
theorem intsAre_of{ns:List Int}: ∀ {us:List Value},Vals (ns.map V.int) us->IntsAre us ns:=by
 induction ns with
 | nil=>intro us r;rw [g1t] at r;cases r;exact .nil
 | cons n ns ih=>
  intro us r;rw [m9] at r;cases r with
  | cons r1 r2=>
   obtain⟨t,e⟩:=r1;subst e;exact .cons n t (ih r2)
section
variable{X:Cx}{e:Expr}{te:TE}{lo hi:Option Expr}{tl th:TO}{pos p2:Pos}
theorem qlt:PO X none tNoPart:=by
 intro pins s σ H Q I h;rw [evalPart_none];exact gh ⟨none,H,I,.none,h⟩
theorem qlu(h:PE X e te): PO X (some e) (qpu te):=by
 intro pins s σ H Q I hw;rw [evalPart_some];refine thn (h pins s σ H _ I hw) fun u s1 ⟨x,H1,I1,r1,q1⟩=>?_;obtain⟨i,rfl,q⟩:=q1;obtain⟨t,rfl⟩:=r1;exact⟨some i,H1,I1,.int i t,q⟩
def SlR(X:Cx)(r:V->Option Int->Option Int->Hp->VK->Prop): Prop:=
 ∀(pins:List (Addr×Obj)) (s:Shared) (σ : St) (H:Hp) (x:V) (v vl vu:Value) (lo hi:Option Int) (sl:Addr) (Q:VK),Inv X pins σ H s->RelV x v->s.heap.IsSliceOf sl vl vu .none->IsPart vl lo->IsPart vu hi->r x lo hi H Q ->
  ∃T id,typeLookup (.type T) "__getitem__" = pure (some (.builtin id))/\s.TypeIs v T/\wpAny (model X.prog X.w) X.A (getItem v (.ref sl)) (EP X pins σ Q) X.xe s
theorem SlR.or{r r':V->Option Int->Option Int->Hp->VK->Prop}(h:SlR X r)(h':SlR X r'): SlR X (fun x lo hi H Q=>r x lo hi H Q\/r' x lo hi H Q):=by
 intro pins s σ H x v vl vu lo hi sl Q I rx hs pl pu q;rcases q with q|q
 ·exact h pins s σ H x v vl vu lo hi sl Q I rx hs pl pu q
 ·exact h' pins s σ H x v vl vu lo hi sl Q I rx hs pl pu q
def tSl(r:V->Option Int->Option Int->Hp->VK->Prop)(te:TE)(tl th:TO): TE:=fun σ H Q=>te σ H fun x H1=>tl σ H1 fun l H2=>th σ H2 fun u H3=>r x l u H3 Q
theorem qjg{r:V->Option Int->Option Int->Hp->VK->Prop}(hr:SlR X r)(he:PE X e te)(hl:PO X lo tl)(hu:PO X hi th): PE X (.Subscript e (.Slice lo hi none p2) pos) (tSl r te tl th):=by
 intro pins s σ H Q I h;refine Subscript_ (thn (he pins s σ H _ I h) fun v s1 ⟨x,H1,I1,r1,q1⟩=>?_);refine wpAny_Slice (thn (hl pins s1 σ H1 _ I1 q1) fun vl s2 ⟨l,H2,I2,pl,q2⟩=>thn (hu pins s2 σ H2 _ I2 q2) fun vu s3 ⟨u,H3,I3,pu,q3⟩=>?_);rw [evalPart_none];refine gh ?_;have I4:Inv X pins σ H3 {s3 with heap:=s3.heap.push {cls:=.type "slice",data:=.fields #[vl,vu,.none]} }:=I3.kept (t':=s3.toks) fun b ob q=>gc _ q;obtain⟨T,id,hT,ht,hg⟩:=hr pins {s3 with heap:=s3.heap.push {cls:=.type "slice",data:=.fields #[vl,vu,.none]} } σ H3 x v vl vu l u s3.heap.objs.size Q I4 r1 (Heap.IsSliceOf.new ..) pl pu q3;show wpAny (model X.prog X.w) X.A (subscriptTail e (.Slice lo hi none p2) v (.ref s3.heap.objs.size)) (EP X pins σ Q) X.xe {s3 with heap:=s3.heap.push {cls:=.type "slice",data:=.fields #[vl,vu,.none]} };exact tail_any (ops:=[.ref s3.heap.objs.size,v]) ht hT hg (by with_unfolding_all rfl)
def q2p(xs:List V)(lo hi:Option Int): List V:=(xs.drop (HT.sIx xs.length 0 lo)).take (HT.sIx xs.length xs.length hi-HT.sIx xs.length 0 lo)
theorem q80(xs:List V)(lo hi:Option Int): (q2p xs lo hi).length<=xs.length:=by
 unfold q2p;rw [uf,g1s];omega
def qr3(K:PySem.W.Frag): V->Option Int->Option Int->Hp->VK->Prop:=fun x lo hi H Q=>∃a xs,x=.ref a/\SqT K H a xs /\
 ¬(HT.sIx xs.length 0 lo=0/\HT.sIx xs.length xs.length hi=xs.length)/\∀p,H p=none->Q (.ref p) (upd H p (.tup (q2p xs lo hi)))
theorem sl_tup:SlR X (qr3 X.K):=by
 intro pins s σ H x v vl vu lo hi sl Q I rx hs pl pu h;obtain⟨a,xs,rfl,hx,hw,q⟩:=h;cases rx;obtain⟨its,r,ht,hz⟩:=I.tuple hx;have hlen:its.toArray.size=xs.length:=by rw [gj];exact r.length.symm
 refine⟨"tuple",_,ng.lookup,ht.typeIs,?_⟩;refine HT.getItem_tuple_cut ht hs pl pu (by rw [hlen];exact hw) ?_ (by rw [hlen];exact hz);rw [hlen];refine⟨.ref s.heap.objs.size,_,I.laid (t':=s.toks) (o:=.tup (q2p xs lo hi)) (fun b ob q=>gc _ q) (gv _) ?_,rfl,q _ (I.hok.fresh (gv _))⟩;exact⟨mj (q80 xs lo hi) hz,_,(r.drop (HT.sIx xs.length 0 lo)).take (HT.sIx xs.length xs.length hi-HT.sIx xs.length 0 lo),TupX.new _ _⟩
def qpv(K:PySem.W.Frag): R2:=fun x y H Q=>∃a b xs ys,x=.ref a/\y=.ref b/\SqT K H a xs/\SqT K H b ys/\xs≠[]/\xs.length+ys.length<=sizeLine /\
 (ys=[]->Q (.ref a) H)/\(ys≠[]->∀p,H p=none->Q (.ref p) (upd H p (.tup (xs++ys))))
theorem Vals.nil_iff{xs:List V}{us:List Value}(r:Vals xs us): us=[]↔xs=[]:=by
 cases r with
 | nil=>simp
 | cons _ _=>simp
theorem qlv:OpR X (binaryOp .Add) (qpv X.K):=by
 intro pins s σ H x y v u Q I rx ry h;obtain⟨a,b,xs,ys,rfl,rfl,ha,hb,hx,hz,q1,q2⟩:=h;cases rx;cases ry;obtain⟨its,r1,p1,_⟩:=I.tuple ha;obtain⟨its2,r2,p2,_⟩:=I.tuple hb;refine HT.cat_tup p1 p2 (fun z=>hx (r1.nil_iff.mp z)) (fun z=>⟨.ref a,H,I,rfl,q1 (r2.nil_iff.mp z)⟩) (fun z=>?_) (by rw [<- r1.length, <- r2.length];exact hz);refine⟨.ref s.heap.objs.size,_,I.laid (t':=s.toks) (o:=.tup (xs++ys)) (fun b ob q=>gc _ q) (gv _) ?_,rfl,q2 (fun w=>z (r2.nil_iff.mpr w)) _ (I.hok.fresh (gv _))⟩;exact⟨by rw [mv];exact hz,_,r1.append r2,TupX.new _ _⟩
end
def ixN(n:Nat)(i:Int): Option Nat:=if 0<=i then(if i<n then some i.toNat else none) else if -(n:Int)<=i then some (i+n).toNat else none
def atI{α : Type}(xs:List α)(i:Int): Option α :=(ixN xs.length i).bind fun j=>xs[j]?
theorem qlw{n:Nat}{i:Int}{j:Nat}(h:ixN n i=some j): seqIndex? i n=some j/\j<n /\ -(n:Int)<=i/\i<n:=by
 unfold ixN at h
 by_cases h0:0<=i
 ·rw [gr h0] at h
  by_cases h1:i<n
  ·rw [gr h1] at h
   have e:i.toNat=j:=mi h;exact⟨by rw [seqIndex_of h0 h1,e],by omega,by omega,h1⟩
  ·rw [gy h1] at h;cases h
 ·rw [gy h0] at h
  by_cases h1 : -(n:Int)<=i
  ·rw [gr h1] at h
   have e:(i+n).toNat=j:=mi h;exact⟨by rw [seqIndex_neg (by omega) h1,e],by omega,h1,by omega⟩
  ·rw [gy h1] at h;cases h
theorem q9x{α : Type}{xs:List α}{i:Int}{v : α}(h:atI xs i=some v): ∃j,seqIndex? i xs.length=some j/\xs[j]? = some v/\j<xs.length /\ -(xs.length:Int)<=i/\i<xs.length:=by
 unfold atI at h;cases e:ixN xs.length i with
 | none=>rw [e] at h;cases h
 | some j=>
  rw [e] at h;obtain⟨h1,h2,h3,h4⟩:=qlw e;exact⟨j,h1,h,h2,h3,h4⟩
def q9y(b:Expr): Prop:=∀o i,subscripted b false o i=operate [o,i] (getItem o i)
def IxR(X:Cx)(r:R2): Prop:=
 ∀(value slice:Expr) (pins:List (Addr×Obj)) (s:Shared) (σ : St) (H:Hp) (x y:V) (v u:Value) (Q:VK),Inv X pins σ H s->RelV x v->RelV y u->r x y H Q ->
  subscripted slice false v u=operate [v,u] (getItem v u)->wpAny (model X.prog X.w) X.A (subscriptTail value slice v u) (EP X pins σ Q) X.xe s
def MtR(X:Cx)(id:String)(r:V->List V->Hp->VK->Prop): Prop:=
 ∀(pins:List (Addr×Obj)) (s:Shared) (σ : St) (H:Hp) (x:V) (xs:List V) (v:Value) (us:List Value) (Q:VK),Inv X pins σ H s->RelV x v->Vals xs us->r x xs H Q ->
  wpAny (model X.prog X.w) X.A (call (.builtin id) (v :: us)) (EP X pins σ Q) X.xe s
section
variable{X:Cx}{a b:Expr}{ta tb:TE}{pos:Pos}
theorem IxR.or{r r':R2}(h:IxR X r)(h':IxR X r'): IxR X (fun x y H Q=>r x y H Q\/r' x y H Q):=by
 intro value slice pins s σ H x y v u Q I rx ry q hs;rcases q with q|q
 ·exact h value slice pins s σ H x y v u Q I rx ry q hs
 ·exact h' value slice pins s σ H x y v u Q I rx ry q hs
theorem ql2{r:R2}(hr:IxR X r)(ha:PE X a ta)(hb:PE X b tb)(hs:q9y b): PE X (.Subscript a b pos) (tOp r ta tb):=by
 intro pins s σ H Q I h;exact Subscript_ (qj8 ha hb I h fun v u s2 x y H2 I2 rx ry q=>hr a b pins s2 σ H2 x y v u Q I2 rx ry q (hs _ _))
def qnp(K:PySem.W.Frag): R2:=fun x y H Q=>∃p xs i v,x=.ref p/\y=.int i/\SqL K H p xs/\atI xs i=some v/\Q v H
def qnq(K:PySem.W.Frag): R2:=fun x y H Q=>∃p xs i v,x=.ref p/\y=.int i/\SqT K H p xs/\atI xs i=some v/\Q v H
def rIxS:R2:=fun x y H Q=>∃z i c,x=.str z/\y=.int i/\z.length<=sizeLine/\atI z.cps.toList i=some c/\Q (.str ⟨#[c]⟩) H
theorem ix_list:IxR X (qnp X.K):=by
 intro value slice pins s σ H x y v u Q I rx ry h hs;obtain⟨p,xs,i,z,rfl,rfl,hq,he,q⟩:=h;cases rx;obtain⟨t,rfl⟩:=ry;obtain⟨its,r,pl,hz⟩:=I.list hq;obtain⟨j,h1,h2,h3,h4,h5⟩:=q9x he;obtain⟨w,ew,rw'⟩:=r.get h2;have hl:=r.length;have hn:=q67;have fin:EP X pins σ Q w s:=⟨z,H,I,rw',q⟩
 by_cases h0:0<=i
 ·have hj:i.toNat=j:=by
   rw [seqIndex_of h0 h5] at h1;exact mi h1
  exact item_listR pl.isList h0 (by omega) (by rw [hj];simpa using ew) fin hs
 ·have hj:(i+(its.toArray.size:Int)).toNat=j:=by
   rw [seqIndex_neg (by omega) h4] at h1;rw [gj, <- hl];exact mi h1
  exact subscriptTail_builtinR (x:=w) pl.isList.typeIs slot_list_getitem.lookup
   (wpAny_getItem_list_neg (Q:=fun r s'=>r=w/\EP X pins σ Q r s') pl.isList (by omega) (by rw [gj] <;> omega) (by omega) (by rw [hj];simpa using ew) ⟨rfl,fin⟩) hs
theorem ix_tup:IxR X (qnq X.K):=by
 intro value slice pins s σ H x y v u Q I rx ry h hs;obtain⟨p,xs,i,z,rfl,rfl,hq,he,q⟩:=h;cases rx;obtain⟨t,rfl⟩:=ry;obtain⟨its,r,pl,hz⟩:=I.tuple hq;obtain⟨j,h1,h2,h3,h4,h5⟩:=q9x he;obtain⟨w,ew,rw'⟩:=r.get h2;have hl:=r.length;have hn:=q67;have fin:EP X pins σ Q w s:=⟨z,H,I,rw',q⟩
 exact subscriptTail_builtinR (x:=w) pl.typeIs slot_tuple_getitem.lookup
  (getItem_tuple (j:=j) (Q:=fun r s'=>r=w/\EP X pins σ Q r s') pl (by omega) (by omega) (by rw [gj, <- hl];exact h1) (by simpa using ew) ⟨rfl,fin⟩) hs
theorem qnr:IxR X rIxS:=by
 intro value slice pins s σ H x y v u Q I rx ry h hs;obtain⟨z,i,c,rfl,rfl,hz,he,q⟩:=h;obtain⟨t,rfl⟩:=rx;obtain⟨t',rfl⟩:=ry;obtain⟨j,h1,h2,h3,h4,h5⟩:=q9x he;have hl:z.cps.toList.length=z.length:=by simp [Str.length]
 rw [hl] at h1 h4 h5;have hn:=q67;exact tail_any (typeIs_str s z t) slot_str_getitem.lookup (getItem_str (c:=c) (by
  have e1:decide (i < -(2 ^ 63:Int))=false:=gz (by omega);have e2:decide (i>=2 ^ 63)=false:=gz (by omega);rw [e1,e2,Bool.or_false]) (by rw [h1];simpa using h2) ⟨.str ⟨#[c]⟩,H,I.tok _,⟨_,rfl⟩,q⟩) hs
def rIx(K:PySem.W.Frag): R2:=fun x y H Q=>qnp K x y H Q\/qnq K x y H Q\/rIxS x y H Q
theorem qhi:IxR X (rIx X.K):=ix_list.or (ix_tup.or qnr)
theorem qcn(lo hi:Option Int)(n:Nat): (sliceBounds lo hi none n).1=((HT.sIx n 0 lo:Nat):Int)/\(sliceBounds lo hi none n).2.1=((HT.sIx n n hi:Nat):Int)/\(sliceBounds lo hi none n).2.2=1:=by
 refine⟨?_,?_,rfl⟩
 ·cases lo with
  | none=>simp [sliceBounds,HT.sIx]
  | some i=>
   simp only [sliceBounds,HT.sIx,Option.getD_none,show(1:Int)>0 by decide,p5]
   by_cases h:i<0
   ·simp only [h,p5] <;> omega
   ·simp only [h,g01] <;> omega
 ·cases hi with
  | none=>simp [sliceBounds,HT.sIx]
  | some i=>
   simp only [sliceBounds,HT.sIx,Option.getD_none,show(1:Int)>0 by decide,p5]
   by_cases h:i<0
   ·simp only [h,p5] <;> omega
   ·simp only [h,g01] <;> omega
theorem qbl(its:List Value)(lo hi:Option Int): slicePick its.toArray lo hi none=((its.drop (HT.sIx its.length 0 lo)).take (HT.sIx its.length its.length hi-HT.sIx its.length 0 lo)).toArray:=by
 obtain⟨h1,h2,h3⟩:=qcn lo hi its.toArray.size;unfold slicePick;rw [h1,h2,h3];simp only [sliceRange_one,pick_run,gj] <;> rfl
def qr4(K:PySem.W.Frag): V->Option Int->Option Int->Hp->VK->Prop:=fun x lo hi H Q=>∃a xs,x=.ref a/\SqL K H a xs/\∀p,H p=none->Q (.ref p) (upd H p (.lst (q2p xs lo hi)))
theorem sl_list:SlR X (qr4 X.K):=by
 intro pins s σ H x v vl vu lo hi sl Q I rx hs pl pu h;obtain⟨a,xs,rfl,hx,q⟩:=h;cases rx;obtain⟨its,r,ht,hz⟩:=I.list hx;have hlen:=r.length;refine⟨"list",_,slot_list_getitem.lookup,ht.isList.typeIs,?_⟩;refine wpAny_getItem_list_slice ht.isList hs pl pu .none (by simp) ?_ (by rw [gj] <;> omega);rw [qbl, <- hlen];refine⟨.ref s.heap.objs.size,_,I.laid (t':=s.toks) (o:=.lst (q2p xs lo hi)) (fun b ob q=>gc _ q) (gv _) ?_,rfl,q _ (I.hok.fresh (gv _))⟩;exact⟨mj (q80 xs lo hi) hz,_,0,(r.drop (HT.sIx xs.length 0 lo)).take (HT.sIx xs.length xs.length hi-HT.sIx xs.length 0 lo),m4 _ rfl⟩
def qc7:V->Bool
 | .non=>true
 | .bl _=>true
 | .int _=>true
 | .str _=>true
 | _=>false
def eqV:V->V->Bool
 | .non,.non=>true
 | .bl a,.bl b=>a==b
 | .bl a,.int b=>(if a then 1 else 0)==b
 | .int a,.bl b=>a==(if b then 1 else 0)
 | .int a,.int b=>a==b
 | .str a,.str b=>a==b
 | _,_=>false
theorem qns{A:Around}{s:Shared}{y x:V}{u v:Value}(ry:RelV y u)(rx:RelV x v)(fy:qc7 y=true)(fx:qc7 x=true): SeqAt.EqAt A s u v (eqV y x):=by
 cases y with
 | non=>
  cases ry;cases x with
  | non=>cases rx;exact g20 _
  | bl b=>cases rx;exact SeqAt.EqAt.none_bool b
  | int b=>obtain⟨t,rfl⟩:=rx;exact SeqAt.EqAt.none_int b t
  | str b=>obtain⟨t,rfl⟩:=rx;exact SeqAt.EqAt.none_str b t
  | _=>exact absurd (show false=true from fx) gp
 | bl a=>
  cases ry;cases x with
  | non=>cases rx;exact SeqAt.EqAt.bool_none a
  | bl b=>cases rx;exact SeqAt.EqAt.bool_bool a b
  | int b=>obtain⟨t,rfl⟩:=rx;exact SeqAt.EqAt.bool_int a b t
  | str b=>obtain⟨t,rfl⟩:=rx;exact SeqAt.EqAt.bool_str a b t
  | _=>exact absurd (show false=true from fx) gp
 | int a=>
  obtain⟨t',rfl⟩:=ry;cases x with
  | non=>cases rx;exact SeqAt.EqAt.int_none a t'
  | bl b=>cases rx;exact SeqAt.EqAt.int_bool a t' b
  | int b=>obtain⟨t,rfl⟩:=rx;exact SeqAt.EqAt.int_int a t' b t
  | str b=>obtain⟨t,rfl⟩:=rx;exact SeqAt.EqAt.int_str a t' b t
  | _=>exact absurd (show false=true from fx) gp
 | str a=>
  obtain⟨t',rfl⟩:=ry;cases x with
  | non=>cases rx;exact SeqAt.EqAt.str_none a t'
  | bl b=>cases rx;exact SeqAt.EqAt.str_bool a t' b
  | int b=>obtain⟨t,rfl⟩:=rx;exact SeqAt.EqAt.str_int a t' b t
  | str b=>obtain⟨t,rfl⟩:=rx;exact SeqAt.EqAt.str_str a t' b t
  | _=>exact absurd (show false=true from fx) gp
 | _=>exact absurd (show false=true from fy) gp
theorem qbm:vh X (.type "tuple") (fun xs H Q=>∃p ys,xs=[.ref p]/\((SqL X.K H p ys/\∀l,H l=none->Q (.ref l) (upd H l (.tup ys)))\/(SqT X.K H p ys/\Q (.ref p) H))):=by
 intro pins s σ H xs us Q I r h;obtain⟨p,ys,rfl,h⟩:=h;obtain⟨u,rfl,rx⟩:=vals1 r;cases rx;rcases h with⟨hq,q⟩|⟨hq,q⟩
 ·obtain⟨its,r',pl,hz⟩:=I.list hq
  have hlen:=r'.length;refine call_tuple_list pl.isList (fun h' kp=>?_) (by simp only [gj] <;> omega);have I1:Inv X pins σ H {s with heap:=h'}:=I.kept (t':=s.toks) kp;have I2:Inv X pins σ (upd H h'.objs.size (.tup ys)) {s with heap:=h'.push {cls:=.type "tuple",data:=.seq its.toArray} }:=
   I1.laid (t':=s.toks) (fun b o e=>gc _ e) (gv _) (show ObjOk X.prog X.w _ _ _ (.tup ys) from⟨hz,its,r',TupX.new _ _⟩)
  exact⟨.ref h'.objs.size,_,I2,rfl,q _ (I1.hok.fresh (gv _))⟩
 ·obtain⟨its,r',pl,hz⟩:=I.tuple hq
  exact call_tuple_same pl ⟨.ref p,H,I,rfl,q⟩
def tyV(K:PySem.W.Frag)(T:String)(x:V)(H:Hp): Prop:=match x with
 | .str _=>T="str"
 | .int _=>T="int"
 | .ref p=>(T="list" /\ ∃xs,SqL K H p xs)\/(T="tuple" /\ ∃o,K.lookup p=some o/\o.cls=.type "tuple" /\ o.dict=none) \/
   (T="dict" /\ ((∃kvs,H p=some (.dK kvs))\/∃kvs,H p=some (.dT kvs)))\/(T="set" /\ ∃S n,H p=some (.set S n))
 | _=>False
theorem qnt{pins:List (Addr×Obj)}{σ : St}{H:Hp}{s:Shared}{T:String}{x:V}{v:Value}(I:Inv X pins σ H s)(r:RelV x v)(ty:tyV X.K T x H):
  s.TypeIs v T/\∀a,v=.ref a->∃ob,s.heap.get? a=some ob/\ob.dict=none:=by
 cases x with
 | str z=>
  obtain⟨t,rfl⟩:=r;cases(show T="str" from ty);exact⟨typeIs_str s z t,fun _ e=>nomatch e⟩
 | int i=>
  obtain⟨t,rfl⟩:=r;cases(show T="int" from ty);exact⟨typeIs_int s i t,fun _ e=>nomatch e⟩
 | ref p=>
  cases r;rcases ty with⟨rfl,xs,hq⟩|⟨rfl,o,hk,hc,hd⟩|⟨rfl,hk⟩|⟨rfl,S,n,hk⟩
  ·obtain⟨its,_,pl,_⟩:=I.list hq
   refine⟨pl.isList.typeIs,fun a e=>?_⟩;cases e;obtain⟨o,n,e,c,hd,_⟩:=pl;exact⟨o,e,hd⟩
  ·refine⟨⟨o,I.kIn p o hk,hc⟩,fun a e=>?_⟩
   cases e;exact⟨o,I.kIn _ o hk,hd⟩
  ·have z:∃o,s.heap.get? p=some o/\o.ExactDict:=by
    rcases hk with⟨kvs,hk⟩|⟨kvs,hk⟩
    ·obtain⟨_,_,_,_,o,_,_,e,ex,_⟩:=I.hok p _ hk
     exact⟨o,e,ex⟩
    ·obtain⟨_,_,_,_,o,_,_,e,ex,_⟩:=I.hok p _ hk
     exact⟨o,e,ex⟩
   obtain⟨o,e,ex⟩:=z;refine⟨⟨o,e,ex.1⟩,fun a e2=>?_⟩;cases e2;exact⟨o,e,ex.2.1⟩
  ·obtain⟨o,_,_,_,e,ex,_⟩:=I.hok p _ hk
   refine⟨⟨o,e,ex.1⟩,fun a e2=>?_⟩;cases e2;exact⟨o,e,ex.2.1⟩
 | _=>exact False.elim ty
def tBM(K:PySem.W.Frag)(T:String)(r:V->List V->Hp->VK->Prop)(to:TE)(t:TA): TE:=fun σ H Q=>to σ H fun x H1=>tyV K T x H1/\t σ H1 fun xs H2=>r x xs H2 Q
variable{o e:Expr}{es:List Expr}{to:TE}{t:TA}{name:Str}{apos cpos:Pos}{T id:String}{r:V->List V->Hp->VK->Prop}
theorem qpw(pa:PlainAttrs T)(slot:Slot T name id)(hty:typeOf (.builtin id)=pure (.type "method_descriptor"))(hm:MtR X id r)(ho:PE X o to)(ha:PA X (e :: es) t)
  (hbase:attributeBase o name X.env (eval o X.env)=eval o X.env:=by rfl)
  (hfew:((backTo cpos (starEach (e :: es) X.env)).all (fun x=> !x.1)&&(backToKw cpos (keywordEach [] X.env)).all (fun x=>x.1.isSome)
   && decide ((e :: es).length+([]:List Keyword).length+(if([]:List Keyword).isEmpty then 0 else 1)<30))=true:=by rfl)
  (hline:(apos.endLine==cpos.line)=true:=by rfl) (hs:starEach (e :: es) X.env=(false,eval e X.env) :: starEach es X.env:=by rfl) (hplain:(backTo cpos (starEach es X.env)).any (·.1)=false:=by rfl) :
  PE X (.Call (.Attribute o name apos) (e :: es) [] cpos) (tBM X.K T r to t):=by
 intro pins s σ H Q I h;refine wpAny_Call_method_late hbase hfew hline rfl (thn (ho pins s σ H _ I h) fun v s1 ⟨x,H1,I1,r1,ty,q1⟩=>?_);obtain⟨h1,h2⟩:=qnt I1 r1 ty;refine⟨T,id,pa,slot,hty,h1,h2,?_⟩;have hA:=ha cpos pins s1 σ H1 _ I1 q1;rw [hs] at hA ⊢;refine Calls.callWith_builtin (by show(false || (backTo cpos (starEach es X.env)).any (·.1))=false;rw [hplain] <;> rfl) (Calls.evalArgs_plain ?_);exact thn hA fun us s2 ⟨vs,H2,I2,r2,q2⟩=>hm pins s2 σ H2 x vs v us Q I2 r1 r2 q2
end
def MtM(X:Cx)(id:String)(r:V->List V->Hp->VK->Prop): Prop:=
 ∀(pins:List (Addr×Obj)) (s:Shared) (σ : St) (H:Hp) (x:V) (xs:List V) (v:Value) (us:List Value) (Q:VK),Inv X pins σ H s->RelV x v->Vals xs us->r x xs H Q ->
  wpAny (model X.prog X.w) X.A (call (.builtin id) (v :: us)) (EP X pins σ Q) X.xe s
theorem Vals.one:∀ {x:V} {us:List Value},Vals [x] us->∃u,us=[u]/\RelV x u
 | _,_,.cons r .nil=>⟨_,rfl,r⟩
theorem Vals.two:∀ {x y:V} {us:List Value},Vals [x,y] us->∃u v,us=[u,v]/\RelV x u/\RelV y v
 | _,_,_,.cons r (.cons q .nil)=>⟨_,_,rfl,r,q⟩
section
variable{X:Cx}{pins:List (Addr×Obj)}{σ : St}{H:Hp}{s:Shared}{l b:Addr}{xs ys zs:List V}
theorem Inv.lset{its its':List Value}{n:Nat}{f:Array Value->Array Value}{t':Nat}(I:Inv X pins σ H s)(hH:H l=some (.lst xs))
  (e:s.heap.get? l=some {cls:=.type "list",data:=.seq its.toArray n}) (hf:f its.toArray=its'.toArray) (hv:Vals ys its') (hz:ys.length<=sizeLine) :
  Inv X pins σ (upd H l (.lst ys)) {s with heap:=s.heap.update l (Obj.mapSeq f),toks:=t'}:=by
 have q:=PySem.IsL.update e f;rw [hf] at q;refine I.write (x:=l) (e:=l) (by rw [hH];exact trivial) (.inl rfl) (fun b' u hb hu=>(mr s.heap (Obj.mapSeq f) (gu hb)).trans hu) ⟨_,q⟩ ?_;exact⟨hz,its',_,hv,q⟩
theorem Inv.lnew{its:List Value}{t':Nat}(I:Inv X pins σ H s)(hv:Vals ys its)(hz:ys.length<=sizeLine):
  Inv X pins σ (upd H s.heap.objs.size (.lst ys)) {s with heap:=s.heap.push {cls:=.type "list",data:=.seq its.toArray},toks:=t'}:=
 I.laid (fun _ _ q=>gc _ q) (gv _) ⟨hz,its,0,hv,m4 _ rfl⟩
theorem Inv.fresh(I:Inv X pins σ H s): H s.heap.objs.size=none:=I.hok.fresh (gv _)
theorem Inv.lstM(I:Inv X pins σ H s)(hH:H l=some (.lst xs)): xs.length<=sizeLine/\∃(its:List Value) (n:Nat),Vals xs its/\xs.length=its.length/\s.heap.get? l=some {cls:=.type "list",data:=.seq its.toArray n}:=by
 obtain⟨z,its,n,r,e⟩:=I.hok l _ hH;exact⟨z,its,n,r,r.length,e⟩
end
section
variable{X:Cx}
def rAppend:V->List V->Hp->VK->Prop:=fun x vs H Q=>∃l xs y,x=.ref l/\vs=[y]/\H l=some (.lst xs)/\xs.length<sizeLine/\Q .non (upd H l (.lst (xs++[y])))
theorem qaw:MtM X "list.append" rAppend:=by
 intro pins s σ H x vs v us Q I rx rv h;obtain⟨l,xs,y,rfl,rfl,hH,hz,q⟩:=h;cases rx;obtain⟨u,rfl,ru⟩:=rv.one;obtain⟨z,its,n,r,hl,e⟩:=I.lstM hH;refine g1o F.slot_list_append ⟨_,e,rfl⟩ F.entry_list_append (F.args_list_append_2 _ _) (PySem.list_append l its.toArray n u (by rw [gj];omega)) ⟨e,?_⟩;refine⟨.non,_,I.lset (its':=its++[u]) hH e (by simp) (r.append (.cons ru .nil)) ?_,rfl,q⟩;rw [mv,g28];omega
end
section
variable{prog:Program}{w:World}{A:Around}{E:Value->Shared->Prop}{s:Shared}
end
section
variable{X:Cx}
end
end L2
namespace Att
open PySem PySem.W PySem.Calls PyProof.Rows
theorem q90{P:Params}{h:Heap}: ∀(ns:List Int) (vs:List Value),WellAll P h vs (ns.map WData.int)->IntsAre vs ns:=by
 intro ns
 induction ns with
 | nil=>
  intro vs w;rw [g1t] at w;cases w;exact .nil
 | cons n ns ih=>
  intro vs w;rw [m9] at w;cases w with
  | cons a b=>
   cases a;exact .cons _ _ (ih _ b)
theorem qhj{l:OpenLaw}{n:Nat}(hn:l.most=some n){P:Params}{h:Heap}{args:List WData}{vals:List Value}
  (hpre:l.row.toRowW.claim.pre args=true) (hwl:WellAll P h vals args) :
  ∃a vs ns,vals=[Value.ref a]/\args=[WData.list (ns.map WData.int)]/\h.get? a=some {cls:=.type "list",data:=.seq vs.toArray}/\IntsAre vs ns/\ns.length<=n:=by
 have hsh:WShape.hasAll [] args [.list .int]=true:=(pre_splitW hpre).1;have hc:l.pre.holds [] {args:=args}=true:=(pre_splitW hpre).2;obtain⟨d,r,rfl,h1,h2⟩:=hasAllW_cons hsh;obtain rfl:=hasAllW_nil h2;obtain⟨xs,rfl,h3⟩:=hasW_list h1;obtain⟨ns,rfl⟩:=items_int h3;have hlen:ns.length<=n:=by
  unfold OpenLaw.pre at hc;have h4:(WTm.not (.lt (.lit (.int (n:Int))) (.len (.arg 0)))).holds [] {args:=[.list (ns.map .int)]}=true:=by
   have h4:=(holds_andW hc).1;rw [hn] at h4;exact h4
  have h5:=condW_of h4 (w_not (w_lt w_lit (w_len_list (w_arg rfl))));rw [m6] at h5;refine Nat.le_of_not_lt fun q=>?_;have q':(n:Int)<((ns.length:Nat):Int):=by omega
  first
   | (rw [m7 q'] at h5;exact absurd h5 (by decide))
   | (simp at h5;omega)
 cases hwl with
 | cons w1 w2=>
  cases w2;cases w1 with
  | list ho hall=>exact⟨_,_,ns,rfl,rfl,ho,q90 ns _ hall,hlen⟩
theorem qhk(l:OpenLaw)(args:List WData): l.row.toRowW.claim.post args (.bool true) args=true:=
 postW_of (r:=l.row.toRowW) (X:=(true==true))
  (show WShape.has [] (.bool true) .bool=true by first|rfl|decide|simp [WShape.has,WShape.arms,WShape.armsAll])
  (show(WTm.eq .res (.lit (.bool true))).value [] {args:=args,res:=some (.bool true),after:=args}=some (.bool (true==true)) from w_eq_bool (w_res rfl) w_lit) rfl
theorem attach_call{l:OpenLaw}{n:Nat}{q:Program}{loose:List Str}{XP:(Str->Option Value)->Heap->Prop}{YP:World->Heap->Prop}{d:DefRec}
  (hn:l.most=some n) (hdf:d.params.defaults=[])
  (call:∀(w:World) (s₀ s₁:Shared) (mg mb:Str->Option Value) (fa:Addr) (o:Obj) (pm cd doc:Value) (a:Addr) (vs:List Value) (ns:List Int),
   Ground q loose [] XP w s₀ mg mb s₁.heap->YP w s₁.heap ->
   s₁.heap.get? fa=some o->o.data=.func (docDef d.name d.params d.body d.scope pm cd doc)->s₁.heap.CodeRec cd d.name->mg d.name=some (.ref fa) ->
   s₁.heap.get? a=some {cls:=.type "list",data:=.seq vs.toArray}->IntsAre vs ns->ns.length<=n->s₁.gens = #[] ->
   codeAny (model l.prog w) callerA (.call (.ref fa) ⟨[.ref a],[]⟩) (fun r s'=>r=.ok (.ret (.bool true))/\OldK s₁.heap s'.heap/\s'.os=s₁.os/\AllBare s'.gens) s₁) :
  WalkO q loose XP YP l.row.toRowW d [] (fun f vs=>PySem.call f vs):=by
 intro w s₀ s₁ mg mb G Y fa o pm cd doc dV kV ho hd hcd hD hmg hg args vals as hpre hlay hrd hwl hlo;obtain rfl:dV=.none:=Dflts.none hD hdf;obtain rfl:kV=.none:=Dflts.noKw hD;obtain⟨a,vs,ns,rfl,rfl,hobj,hints,hlen⟩:=qhj hn hpre hwl;refine enter_call (uu (call w s₀ s₁ mg mb fa o pm cd doc a vs ns G Y ho (fd_plain hd) hcd hmg hobj hints hlen hg) fun r s' hq=>?_);obtain⟨rfl,h2,h3,h4⟩:=hq;exact⟨.inl ⟨.bool true,.bool true,[],rfl,fun _=>rfl,.bool true,qhk l _,fun _=>⟨List.Pairwise.nil,fun _ hm=>(nomatch hm)⟩⟩,h2,h3,h4⟩
section
variable{prog:Program}{w:World}{A:Around}{E:Value->Shared->Prop}{s:Shared}{K:Frag}
end
end Att
namespace L2
open PySem PySem.Spec PyProof.Rows
theorem q41:∀ {vs:List Value} {ns:List Int},IntsAre vs ns->Vals (ns.map V.int) vs
 | _,_,.nil=>.nil
 | _,_,.cons n t h=>.cons ⟨t,rfl⟩ (q41 h)
def qjh(H:Hp): Prop:=∀b,H b=none\/∃o xs,H b=some (.frz o (.lst xs))
theorem qji{P:Program}{w:World}{K:PySem.W.Frag}{mg mb:Str->Option Value}{CX:CXT}{k:Nat}{fa a:Addr}{fd:FuncData}{x:Str}{sp:Sp}{s₁:Shared}{vs:List Value}{ns:List Int}
  (KX:K.In s₁.heap) (hns:s₁.heap.Ns mainGlobals mg) (hb:s₁.heap.Ns builtinsNs mb) (hbb:∀x:Str,x≠"__name__" -> mb x=bootBuiltins x) (hlim:s₁.heap.NoLimit) (hg:s₁.gens = #[])
  (ha:s₁.heap.get? a=some {cls:=.type "list",data:=.seq vs.toArray}) (hi:IntsAre vs ns) (hl:ns.length<=sizeLine) (hr:Room k callerA)
  (F:∀base:Heap,K.In base->base.Ns mainGlobals mg->FnOk P w K mg base CX k fa fd [x] sp) (hbind:∀(s:Shared) (u:Value),BindsTo s fd ⟨[u],[]⟩ [(x,u)])
  (hsp:∀H:Hp,qjh H->SqL K H a (ns.map V.int)->sp [.ref a] H (fun v _=>v=.bl true) fun _ _ _=>False)
  (hCX:∀H e s',CX [] H s₁ (fun _ _ _=>False) e s'->False) :
  codeAny (model P w) callerA (.call (.ref fa) ⟨[.ref a],[]⟩) (fun r s'=>r=.ok (.ret (.bool true))/\OldK s₁.heap s'.heap/\s'.os=s₁.os/\AllBare s'.gens) s₁:=by
 have rv:=q41 hi;have lenV:=hi.length
 -- from an abstract heap in which nothing but the script may be tracked
 have core:∀H:Hp,qjh H->SqL K H a (ns.map V.int)->HOk P w H s₁.heap->(∀b,H b≠none->b=a)->(H a≠none->K.lookup a=none) ->
   codeAny (model P w) callerA (.call (.ref fa) ⟨[.ref a],[]⟩) (fun r s'=>r=.ok (.ret (.bool true))/\OldK s₁.heap s'.heap/\s'.os=s₁.os/\AllBare s'.gens) s₁:=by
  intro H hO hS hok hA hK;have base_of:∀ {b:Addr} {o:Obj},s₁.heap.get? b=some o->H b=none->(q55 s₁.heap H).get? b=some o:=fun e n=>qj4 e n;have noA:∀ {b:Addr} {o:Obj} {es:Array DictEntry} {ep:Nat},s₁.heap.get? b=some o->o.data=.dict es ep->H b=none:=fun {b o es ep} e d=>by
   cases q:H b with
   | none=>rfl
   | some u=>
    have e':b=a:=hA b (by rw [q];simp);subst e';rw [ha] at e;cases e;have d':Data.seq vs.toArray _=Data.dict es ep:=d;cases d'
  have nsK:∀ {b:Addr} {m:Str->Option Value},s₁.heap.Ns b m->(q55 s₁.heap H).Ns b m:=fun {b m} ⟨o,es,ep,e,d,r⟩=>⟨o,es,ep,base_of e (noA e d),d,r⟩
  have hKb:K.In (q55 s₁.heap H):=fun b o e=>base_of (KX b o e) (by
   cases q:H b with
   | none=>rfl
   | some u=>
    have e':b=a:=hA b (by rw [q];simp);subst e';rw [hK (by rw [q];simp)] at e;cases e)
  have hM:Mod K mg (q55 s₁.heap H):=⟨hKb,nsK hns,⟨mb,nsK hb,hbb⟩,let⟨mc,h1,h2⟩:=hlim; ⟨mc,nsK h1,h2⟩⟩
  have e0:Env0 P w K mg (q55 s₁.heap H) callerA [] s₁ H:=⟨rfl,hM,fun b o e=>qll e,Nat.le_of_eq (qh1 _ _),trivial,fun b hb=>absurd (show b∈([]:List Addr) from hb) (by simp),hok,.of_eq hg⟩
  refine uu ((F _ hKb (nsK hns)).run callerA [] s₁ H ⟨[.ref a],[]⟩ [.ref a] [.ref a] _ _ hr e0 (hbind s₁ (.ref a)) (.cons rfl .nil) (hsp H hO hS)) fun r s' h=>?_;cases r with
  | error e=>exact(hCX H e s' h).elim
  | ok fl=>
   cases fl with
   | next=>exact False.elim h
   | brk=>exact False.elim h
   | cont=>exact False.elim h
   | ret u=>
    obtain⟨v,H',os,bare,un,hok',r',q⟩:=h;have q':v=.bl true:=q;subst q';obtain rfl:u=Value.bool true:=r';refine⟨rfl,OldK.of_keep fun b o e=>?_,os,bare⟩;cases q:H b with
    | none=>exact un.keep b o e q (by intro z;exact absurd (show b∈([]:List Addr) from z) (by simp)) (by simp)
    | some u=>
     rcases hO b with z|⟨ob,xs,z⟩
     ·rw [q] at z;cases z
     ·have z2:=un.frzs b ob _ z
      obtain⟨e1,_⟩:=hok b _ z;obtain⟨e2,_⟩:=hok' b _ z2;rw [e] at e1;cases e1;exact e2
 cases hk:K.lookup a with
 | some o=>
  -- the script is one of the module's own objects
  have e:=KX a o hk;rw [ha] at e;cases e;refine core (fun _=>none) (fun _=>.inl rfl) (.inr ⟨_,vs.toArray,_,hk,rfl,rfl,rfl,by rw [gj,lenV];exact hl,by simpa using rv⟩) (fun b u z=>by have z':(none:Option HO)=some u:=z;cases z') (fun b z=>absurd rfl z) fun z=>absurd rfl z
 | none=>
  refine core (fun b=>if b=a then some (.frz {cls:=.type "list",data:=.seq vs.toArray} (.lst (ns.map V.int))) else none) (fun b=>?_) (.inl (.inr ⟨{cls:=.type "list",data:=.seq vs.toArray},gr rfl⟩)) (fun b u z=>?_) (fun b z=>?_) fun _=>hk
  ·by_cases hb:b=a
   ·exact .inr ⟨_,_,gr hb⟩
   ·exact .inl (gy hb)
  ·by_cases hb:b=a
   ·have z':=(gr hb).symm.trans z
    cases z';subst hb;exact⟨ha,by rw [m6];exact hl,vs,_,rv,ha⟩
   ·have z':=(gy hb).symm.trans z
    cases z'
  ·by_cases hb:b=a
   ·exact hb
   ·exact absurd (gy hb) z
theorem qlx{l:PySem.W.OpenLaw}{n k:Nat}{q:Program}{loose:List Str}{XP:(Str->Option Value)->Heap->Prop}{YP:World->Heap->Prop}{d:DefRec}{K:Params->PySem.W.Frag}{CX:World->CXT}{sp:World->Sp}{x:Str}
  (hn:l.most=some n) (hn2:n<=sizeLine) (hdf:d.params.defaults=[]) (hr:Room k callerA)
  (hY:∀(w:World) (h:Heap),YP w h->(K w.params).In h)
  (F:∀(w:World) (mg:Str->Option Value) (fa:Addr) (h:Heap),(K w.params).In h->h.Ns mainGlobals mg->mg d.name=some (.ref fa) ->
   ∃fd:FuncData,(∀(s:Shared) (u:Value),BindsTo s fd ⟨[u],[]⟩ [(x,u)]) /\
    ∀base:Heap,(K w.params).In base->base.Ns mainGlobals mg->FnOk l.prog w (K w.params) mg base (CX w) k fa fd [x] (sp w))
  (hsp:∀(w:World) (H:Hp) (a:Addr) (ns:List Int),ns.length<=n->qjh H->SqL (K w.params) H a (ns.map V.int)->sp w [.ref a] H (fun v _=>v=.bl true) fun _ _ _=>False)
  (hCX:∀(w:World) (H:Hp) (s:Shared) (e:Value) (s':Shared),CX w [] H s (fun _ _ _=>False) e s'->False) :
  PySem.W.WalkO q loose XP YP l.row.toRowW d [] (fun f vs=>PySem.call f vs):=by
 refine Att.attach_call hn hdf fun w s₀ s₁ mg mb fa o pm cd doc a vs ns G Y ho hd hcd hmg hobj hints hlen hg=>?_;have KX:=hY w _ Y;obtain⟨fd,hb,hF⟩:=F w mg fa _ KX G.T.g hmg;exact qji KX G.T.g G.T.b G.T.builtins G.T.nolimit hg hobj hints (mj hlen hn2) hr hF hb (fun H hO hS=>hsp w H a ns hlen hO hS) fun H e s'=>hCX w H s₁ e s'
def v9(s:Stmt): Arguments:=match s with
 | .FunctionDef _ a _ _ _ _ _ _ _ _=>a
 | _=>{posonlyargs:=[],args:=[],vararg:=none,kwonlyargs:=[],kw_defaults:=[],kwarg:=none,defaults:=[]}
def qr(s:Stmt): List Stmt:=match s with
 | .FunctionDef _ _ b _ _ _ _ _ _ _=>b
 | _=>[]
def qg(s:Stmt): Scope:=match s with
 | .FunctionDef _ _ _ _ _ _ sc _ _ _=>sc
 | _=>{kind:=.function,names:=[],isGenerator:=false,isCoroutine:=false}
abbrev CX0:CXT:=fun _ _ _ _ _ _=>False
abbrev E0:XK:=fun _ _ _=>False
theorem q59{X:Cx}: q2l CX0 X E0:=fun _ _ _ _ _ _ _ h=>h.elim
structure Fun(K:PySem.W.Frag)(x qual:Str)(st:Stmt)(f:Addr)(fd:FuncData): Prop where
 ex:∃(oc:Value) (od:Option Addr) (kV doc pm:Value) (an:Option Addr) (cdv ct:Value) (osl:Array (Option Value)),
  fd=PySem.W.fnOf x qual (v9 st) (qr st) (qg st) .none kV doc pm an cdv ct/\K.lookup f=some ⟨oc,od,.func fd,osl⟩/\PySem.W.codeIn K cdv qual=true
 kp:PySem.W.keepIn K (.ref f)=true
section
variable{P:Program}{w:World}{K:PySem.W.Frag}{mg:Str->Option Value}{base:Heap}
end
section
variable{X:Cx}
theorem pv(i:Nat){x:Str}{pos:Pos}(hN:X.N[i]? = some x:=by rfl)(hv:Vis X.env.scope x:=by first|exact Or.inl rfl|exact Or.inr (Or.inl rfl)|exact Or.inr (Or.inr rfl))(hd:(x==("__debug__" : Str))=false:=by decide)
  (hcd:(x==("__classdict__" : Str))=false:=by decide):PE X (.Name x pos) (wo i):=qn2 hN hv hd hcd
end
theorem qjj{A B:Prop}(h:B): if false=true then A else B:=by
 rw [gy gp];exact h
theorem qjk{A B:Prop}(h:A): if true=true then A else B:=by
 rw [gr rfl];exact h
def Same(H H':Hp): Prop:=∀b o,H b=some o->H' b=some o
theorem Same.refl(H:Hp): Same H H:=fun _ _ h=>h
theorem Same.trans{H H1 H2:Hp}(a:Same H H1)(b:Same H1 H2): Same H H2:=fun c o h=>b c o (a c o h)
theorem Same.free{H H':Hp}(e:Same H H'){l:Addr}(h:H' l=Option.none): H l=Option.none:=by
 cases q:H l with
 | none=>rfl
 | some o=>
  rw [e l o q] at h;cases h
theorem Same.seq{K:PySem.W.Frag}{H H':Hp}{a:Addr}{xs:List V}(e:Same H H')(h:SqL K H a xs): SqL K H' a xs:=by
 rcases h with(h|⟨o,h⟩)|h
 ·exact .inl (.inl (e _ _ h))
 ·exact .inl (.inr ⟨o,e _ _ h⟩)
 ·exact .inr h
theorem q3c(env:Env): ∀(names:List (Str×NameKind)) (acc:List (Str×Addr)),
  (∀y∈names,y.2=.free->∃c,env.cells.lookup y.1=some c)->(∀x c,acc.lookup x=some c->env.cells.lookup x=some c) ->
  ∃ cl,(forIn names acc (fun(x:Str×NameKind) (r:List (Str×Addr))=>(do
    if x.2==NameKind.free then do
     let a <- cellOf env x.1
     pure (ForInStep.yield ((x.1,a) :: r))
    else pure (ForInStep.yield r):Sem (ForInStep (List (Str×Addr))))):Sem (List (Str×Addr)))=pure cl /\
   (∀x c,cl.lookup x=some c->env.cells.lookup x=some c)/\(∀x c,acc.lookup x=some c->∃d,cl.lookup x=some d)/\(∀y∈names,y.2=.free->∃c,cl.lookup y.1=some c)
 | [],acc,_,h2=>⟨acc,rfl,h2,fun x c h=>⟨c,h⟩,fun y hy=>by cases hy⟩
 | (n,k) :: r,acc,h1,h2=>by
  by_cases hk:k=NameKind.free
  ·subst hk
   obtain⟨c,hc⟩:=h1 (n,.free) gs rfl;have h2':∀x d,((n,c) :: acc).lookup x=some d->env.cells.lookup x=some d:=fun x d e=>by
    rw [mf] at e
    split at e
    ·rename_i q
     have q':x=n:=by simpa using q
     subst q';cases e;exact hc
    ·exact h2 x d e
   obtain⟨cl,e,a1,a2,a3⟩:=q3c env r ((n,c) :: acc) (fun y hy=>h1 y (gw _ hy)) h2';refine⟨cl,?_,a1,fun x d e2=>?_,fun y hy hf=>?_⟩
   ·rw [g06]
    simp only [pq,p5];have hco:cellOf env n=pure c:=by unfold cellOf;rw [hc]
    rw [hco];exact e
   ·by_cases q:x=n
    ·subst q
     exact a2 x c (by rw [mf];simp)
    ·exact a2 x d (by rw [mf,show(x==n)=false by simpa using q];exact e2)
   ·rcases m5.mp hy with rfl|hy
    ·exact a2 n c (by rw [mf];simp)
    ·exact a3 y hy hf
  ·obtain⟨cl,e,a1,a2,a3⟩:=q3c env r acc (fun y hy=>h1 y (gw _ hy)) h2
   refine⟨cl,?_,a1,a2,fun y hy hf=>?_⟩
   ·rw [g06]
    have hb:(k==NameKind.free)=false:=by simpa using hk
    simp only [hb,p7,g01];exact e
   ·rcases m5.mp hy with rfl|hy
    ·exact absurd hf hk
    ·exact a3 y hy hf
theorem qgc{scope:Scope}{env:Env}(h:∀y∈scope.names,y.2=.free->∃c,env.cells.lookup y.1=some c):
  ∃cl,closureFor scope env=pure cl/\(∀x c,cl.lookup x=some c->env.cells.lookup x=some c)/\(∀y∈scope.names,y.2=.free->∃c,cl.lookup y.1=some c):=by
 obtain⟨cl,e,a1,_,a3⟩:=q3c env scope.names [] h (fun x c q=>by cases q);refine⟨cl,?_,a1,a3⟩;unfold closureFor;exact(tf (fun m=>m >>= fun r=>(pure r:Sem (List (Str×Addr)))) e).trans rfl
abbrev qhl(ifs:List Expr)(env:Env): Sem Bool:=
 forIn ifs true fun c r=>if r=true then do let ok <- isTrue c env (eval c env);pure (ForInStep.yield ok) else pure (ForInStep.yield r)
def q4d(X:Cx)(ifs:List Expr)(t:TT): Prop:=
 ∀(pins:List (Addr×Obj)) (s:Shared) (σ : St) (H:Hp) (Q:Bool->Hp->Prop),Inv X pins σ H s->t σ H Q->wpAny (model X.prog X.w) X.A (qhl ifs X.env) (TP X pins σ Q) X.xe s
def tTrue:TT:=fun _ H Q=>Q true H
theorem qjl{X:Cx}: q4d X [] tTrue:=fun pins s σ H Q I h=>wpAny_tests_nil ⟨H,I,h⟩
theorem qjm{X:Cx}{c:Expr}{t:TT}(h:PT X c t): q4d X [c] t:=fun pins s σ H Q I hq=>wpAny_tests_one (h pins s σ H Q I hq)
section
variable{prog:Program}{w:World}{A:Around}{R:Result->Shared->Prop}{s:Shared}
theorem qei{elt target iter:Expr}{ifs:List Expr}{scope:Scope}{pos:Pos}{it acc:Value}{env:Env}(I:Nat->Shared->Prop)
  (turn:∀n s,I n s->wpAny (model prog w) A (pyNext it) (fun r s₁=>match r with
   | none=>R (.ok .next) s₁
   | some v=>wpAny (model prog w) A (letOwnedTupleGo target it v) (fun _ s'=>wpAny (model prog w) A (assign target env v) (fun _ s₂=>
     wpAny (model prog w) A (qhl ifs env) (fun ok s₃=>
      if ok=true then wpAny (model prog w) A (eval elt env) (fun x s₄=>
       wpAny (model prog w) A (call (.builtin "list.append") [acc,x]) (fun _ s₅=>∃m,m<n/\I m s₅) (fun _ _=>False) s₄) (fun _ _=>False) s₃
      else ∃m,m<n/\I m s₃) (fun _ _=>False) s₂) (fun _ _=>False) s') (fun _ _=>False) s₁) (fun _ _=>False) s)
  (n:Nat) (h:I n s) :
  codeAny (model prog w) A (.compLoop (.ListComp elt [⟨target,iter,ifs,0⟩] scope pos) 0 it acc env) R s:=by
 refine codeAny_loop rfl I (fun n s hI=>?_) n h;show wpAny _ A ((compTurn (.ListComp elt [⟨target,iter,ifs,0⟩] scope pos) 0 it acc env).onRaise (fun x=>do noteFrame x env;theTreesLotGoes x)) _ _ s;refine wpAny_noted ?_;rw [compTurn_list];refine g9 (wpAny_standAt (g9 (mw (turn n s hI) (fun r s₁ h₁=>?_) fun _ _ h'=>h'.elim)));cases r with
 | none=>exact gh h₁
 | some v=>
  refine g9 (mw h₁ (fun _ s' h'=>?_) fun _ _ h'=>h'.elim);refine g9 (mw h' (fun _ s₂ h₂=>g9 (mw h₂ (fun ok s₃ h₃=>?_) fun _ _ h'=>h'.elim)) fun _ _ h'=>h'.elim);cases ok with
  | false=>exact gh ⟨rfl,h₃⟩
  | true=>
   exact g9 (g9 (mw h₃ (fun x s₄ h₄=>g9 (mw h₄ (fun _ s₅ h₅=>gh (gh ⟨rfl,h₅⟩)) fun _ _ h'=>h'.elim)) fun _ _ h'=>h'.elim))
end
abbrev yz(X:Cx)(N':List Str)(scope:Scope)(cl:List (Str×Addr))(C:Addr)(s₀:Shared)(H₀:Hp)(fp:List Addr): Cx:=
 {X with N:=N',env:=compEnvC scope cl C X.env,s₀:=s₀,H₀:=H₀,outer:=X.stack,ex:=fp,fn:=fun _=>false,pn:=[],xe:=fun _ _=>False}
structure CapOk(X:Cx)(N':List Str)(scope:Scope)(cap:List (Option Nat)): Prop where
 kind:scope.kind=.function
 cell:∀y∈scope.names,y.2 ≠ .cell
 names:∀y∈scope.names,y.2=.local->scope.names.lookup y.1=some .local
 frees:∀y∈scope.names,y.2=.free->X.env.kindOf y.1=some .cell\/X.env.kindOf y.1=some .free
 len:cap.length=N'.length
 cap:∀(i j:Nat),cap[i]? = some (some j)->∃x,N'[i]? = some x/\X.N[j]? = some x/\scope.names.lookup x=some .free
def q9z(cap:List (Option Nat))(σ : St): St:=cap.map fun o=>o.bind fun j=>(σ[j]?).join
theorem lookup_mem{α β : Type}[BEq α][LawfulBEq α]{l:List (α × β)}{a : α}{b : β}(h:l.lookup a=some b): (a,b)∈l:=by
 induction l with
 | nil=>cases h
 | cons p r ih=>
  obtain⟨x,y⟩:=p;rw [mf] at h
  split at h
  ·rename_i q
   have q':a=x:=by simpa using q
   subst q';cases h;exact gs
  ·exact gw _ (ih h)
theorem q3d{env:Env}: ∀ {names:List (Str×NameKind)} {x:Str} {k:NameKind},(names.map fun(n,k)=>if(k==NameKind.free&&env.scope.kind == .function&&env.kindOf n==some .cell) then(n,NameKind.cell) else(n,k)).lookup x=some k ->
  (names.lookup x=some k)\/(k=.cell/\names.lookup x=some .free)
 | [],_,_,h=>by cases h
 | (n,k0) :: r,x,k,h=>by
  have ih:=@q3d env r x k;have h':List.lookup x ((if(k0==NameKind.free&&env.scope.kind == .function&&env.kindOf n==some .cell)=true then(n,NameKind.cell) else(n,k0)) :: _)=some k:=h
  by_cases hc:(k0==NameKind.free&&env.scope.kind == .function&&env.kindOf n==some .cell)=true
  ·rw [gr hc,mf] at h'
   have hf:k0=.free:=by
    simp only [mh,nk] at hc;exact hc.1.1
   cases q:x==n with
   | true=>rw [q] at h';cases h';exact .inr ⟨rfl,by rw [mf,q,hf]⟩
   | false=>rw [q] at h';rw [mf,q];exact ih h'
  ·rw [gy hc,mf] at h'
   cases q:x==n with
   | true=>rw [q] at h';rw [mf,q];exact .inl h'
   | false=>rw [q] at h';rw [mf,q];exact ih h'
theorem q69{env:Env}: ∀ {names:List (Str×NameKind)} {x:Str},names.lookup x=some .free ->
  (names.map fun(n,k)=>if(k==NameKind.free&&env.scope.kind == .function&&env.kindOf n==some .cell) then(n,NameKind.cell) else(n,k)).lookup x=some .cell \/
  (names.map fun(n,k)=>if(k==NameKind.free&&env.scope.kind == .function&&env.kindOf n==some .cell) then(n,NameKind.cell) else(n,k)).lookup x=some .free
 | [],_,h=>by cases h
 | (n,k0) :: r,x,h=>by
  have ih:=@q69 env r x;show List.lookup x ((if(k0==NameKind.free&&env.scope.kind == .function&&env.kindOf n==some .cell)=true then(n,NameKind.cell) else(n,k0)) :: _)=_\/List.lookup x ((if(k0==NameKind.free&&env.scope.kind == .function&&env.kindOf n==some .cell)=true then(n,NameKind.cell) else(n,k0)) :: _)=_;rw [mf] at h
  by_cases hc:(k0==NameKind.free&&env.scope.kind == .function&&env.kindOf n==some .cell)=true
  ·rw [gr hc,mf]
   cases q:x==n with
   | true=>exact .inl rfl
   | false=>rw [q] at h;exact ih h
  ·rw [gy hc,mf]
   cases q:x==n with
   | true=>rw [q] at h;exact .inr h
   | false=>rw [q] at h;exact ih h
section
variable{X:Cx}{pins:List (Addr×Obj)}{σ : St}{H:Hp}{s:Shared}{N':List Str}{scope:Scope}{cap:List (Option Nat)}{cl:List (Str×Addr)}{fp:List Addr}
theorem qjn(I:Inv X pins σ H s)(co:CapOk X N' scope cap)(h1:∀x c,cl.lookup x=some c->X.env.cells.lookup x=some c)(h2:∀y∈scope.names,y.2=.free->∃c,cl.lookup y.1=some c)
  (hf:∀b∈fp,q0y X pins H b) (ho:∀b∈fp,∃o,s.heap.get? b=some o) {h':Heap} {t':Nat} {m:Str->Option Value} (hn:h'.Ns s.heap.objs.size m) (hk:∀b o,s.heap.get? b=some o->h'.get? b=some o) :
  Inv (yz X N' scope cl s.heap.objs.size s H fp) [] (q9z cap σ) H {s with heap:=h',toks:=t'}:=by
 have flt:∀b∈fp,b<s.heap.objs.size:=fun b hb=>let⟨o,e⟩:=ho b hb;gq e
 refine⟨⟨I.ok.mod,co.kind,I.ok.glob,I.ok.blt,gv _,fun x y c e1 e2=>I.ok.inj x y c (h1 x c e1) (h1 y c e2),fun x hx=>?_,fun x c z _=>(nomatch z),I.ok.hd,I.ok.frames,.inl rfl,fun b hb=>?_,I.bs,mj I.ok.bsz I.sz,fun b o e hb=>?_,fun b hb z=>?_,I.stack,I.stkFree⟩,
  rfl,I.bare,Un.kept hk,⟨m,hn,fun i x v e1 e2 e3=>?_⟩,fun x c e=>?_,I.hok.fresh (gv _),fun x c e=>I.freeC x c (h1 x c e),fun p hp=>(nomatch hp),I.hok.kept hk,?_⟩
 ·have hx':(relabel scope X.env).names.lookup x=some .cell\/(relabel scope X.env).names.lookup x=some .free:=hx
  have hfree:scope.names.lookup x=some .free:=by
   rcases hx' with q|q
   ·rcases q3d q with z|⟨_,z⟩
    ·exact absurd rfl (co.cell _ (lookup_mem z))
    ·exact z
   ·rcases q3d q with z|⟨z,_⟩
    ·exact z
    ·cases z
  exact h2 (x,.free) (lookup_mem hfree) rfl
 ·obtain⟨f0,f1,f2,f3,f4,f5⟩:=hf b hb
  exact⟨ma (flt b hb),fun x c e=>f4 x c (h1 x c e)⟩
 ·obtain⟨f0,f1,f2,f3,f4,f5⟩:=hf b hb
  rcases f3 with z|z
  ·exact I.ok.noex b o e z
  ·exact absurd (m8 (gq e) (mj I.ok.bsz z)) (pd _)
 ·obtain⟨f0,f1,f2,f3,f4,f5⟩:=hf b hb
  rcases m5.mp (I.stkSub b z) with q|q
  ·exact f1 q
  ·exact f2 q
 ·-- a captured name
  have e2':(cap.map fun o=>o.bind fun j=>(σ[j]?).join)[i]? = some (some v):=e2;rw [md] at e2';cases q:cap[i]? with
  | none=>rw [q] at e2';cases e2'
  | some o=>
   rw [q] at e2';cases o with
   | none=>cases e2'
   | some j=>
    obtain⟨y,a1,a2,a3⟩:=co.cap i j q;have e1':N'[i]? = some x:=e1;rw [a1] at e1';obtain rfl:y=x:=mi e1';have ej:(σ[j]?).join=some v:=by
     have:=e2';simp only [gx,gb,g1k] at this;exact this
    have ej' : σ[j]? = some (some v):=by
     cases z : σ[j]? with
     | none=>rw [z] at ej;cases ej
     | some u=>rw [z] at ej;simp only [g0n] at ej;rw [ej]
    have kd:=co.frees (y,.free) (lookup_mem a3) rfl;obtain⟨m0,hn0,hl0⟩:=I.loc;have vis:Vis X.env.scope y:=by
     rcases kd with k|k
     ·exact .inr (.inl k)
     ·exact .inr (.inr k)
    obtain⟨u,ru,lk⟩:=hl0 j y v a2 ej' vis;refine⟨u,ru,.inr ⟨q69 a3,?_⟩⟩;obtain⟨c,hc⟩:=h2 (y,.free) (lookup_mem a3) rfl;rcases lk with⟨k,_⟩|⟨_,c',hc',z⟩
    ·rcases kd with k'|k'
     ·rw [k] at k';cases k'
     ·rw [k] at k';cases k'
    ·have:=h1 _ _ hc
     rw [hc'] at this;obtain rfl:c'=c:=mi this;obtain⟨o,eo,ed⟩:=z;exact⟨c',hc,o,hk _ _ eo,ed⟩
 ·obtain⟨v,o,eo,ed⟩:=I.cell x c (h1 x c e)
  exact⟨v,o,hk _ _ eo,ed⟩
 ·show(cap.map _).length=N'.length
  rw [m6];exact co.len
theorem qgd{N':List Str}{C:Addr}{H':Hp}{s':Shared}{σ':St}{h':Heap}(I:Inv X pins σ H s)(hf:∀b∈fp,q0y X pins H b)(J:Inv (yz X N' scope cl C s H fp) [] σ' H' s')(hs:Heap.SameBut C s'.heap h'):
  Inv X pins σ H' {s' with heap:=h'}:=by
 have hC:s.heap.objs.size<=C:=J.ok.above;have kp:∀b o,b≠C->s'.heap.get? b=some o->h'.get? b=some o:=fun b o hb e=>(hs.2 b hb).trans e;have hC0:H' C=none:=J.free;have un:Un (frs X.stack) fp H H' s.heap h':=by
  have u:Un (frs X.stack) fp H H' s.heap s'.heap:=J.base;have neC:∀b o,s.heap.get? b=some o->b≠C:=fun b o e=>ma (m8 (gq e) hC);exact⟨fun b o e n h1 h2=>kp b o (neC b o e) (u.keep b o e n h1 h2),fun b o e n h1 h2=>let⟨sl,q⟩:=u.slot b o e n h1 h2; ⟨sl,kp b _ (neC b o e) q⟩,u.free,fun b o e h=>let⟨o',q⟩:=u.there b o e h; ⟨o',kp b o' (neC b o e) q⟩,u.tups,u.frzs,u.tbls⟩
 have hok:HOk X.prog X.w H' h':=fun b u e=>by
  refine(J.hok b u e).stay (fun c v hc q=>kp c v ?_ q) (fun _ q=>q) fun _ _ q=>q;rcases hc with z|z
  ·rw [z];intro z2;rw [z2,hC0] at e;cases e
  ·intro z2;rw [z2,hC0] at z;cases z
 exact I.call' (s':={s' with heap:=h'}) (ch:=fp) J.os un hok J.bare fun b hb=>by
  obtain⟨f0,f1,f2,f3,f4,f5⟩:=hf b hb;exact⟨f3,f1,f4,f5⟩
end
def qnu(J:It)(cap:List (Option Nat))(g:TG)(tc:TT)(te:TE)(σ : St)(H1:Hp)(p:Addr)(K:Hp->Prop): Prop:=
 ∃ W:Nat->Nat->St->Hp->Prop,(∃m,W 0 m (q9z cap σ) (upd H1 p (.lst [])))/\∀i m σ' H',W i m σ' H' ->
  (J.stop i H'/\K H')\/(J.go i H'/\∀x H'',J.yld i H' x H''->g x σ' H'' fun σ2 H2=>tc σ2 H2 fun b H3=>
   if b=true then te σ2 H3 fun y H4=>∃xs,H4 p=some (.lst xs)/\xs.length<sizeLine/\∃m',m'<m/\W (i+1) m' σ2 (upd H4 p (.lst (xs++[y])))
   else ∃m',m'<m/\W (i+1) m' σ2 H3)
def ql3(wi:TI)(cap:List (Option Nat))(g:TG)(tc:TT)(te:TE): TE:=fun σ H Q=>wi σ H fun J H1=>∀p,H1 p=none->qnu J cap g tc te σ H1 p (Q (.ref p))
section
variable{X:Cx}{N':List Str}{scope:Scope}{cap:List (Option Nat)}{tg iter elt:Expr}{ifs:List Expr}{wi:TI}{g:TG}{tc:TT}{te:TE}{pos:Pos}
theorem qhm{cl:List (Str×Addr)}{pins:List (Addr×Obj)}{s:Shared}{σ : St}{H:Hp}{it:Addr}{fp:List Addr}{tn:Nat->Heap->Prop}{J:It}{E:Value->Shared->Prop}{K:Addr->Hp->Prop}
  {RR:Value->Addr->Result->Shared->Prop} (hc:X.calm=true) (co:CapOk X N' scope cap)
  (h1:∀x c,cl.lookup x=some c->X.env.cells.lookup x=some c) (h2:∀y∈scope.names,y.2=.free->∃c,cl.lookup y.1=some c)
  (hg:∀cl C s₀ H₀ fp,PG (yz X N' scope cl C s₀ H₀ fp) tg g) (hcs:∀cl C s₀ H₀ fp,q4d (yz X N' scope cl C s₀ H₀ fp) ifs tc) (he:∀cl C s₀ H₀ fp,PE (yz X N' scope cl C s₀ H₀ fp) elt te)
  (I:Inv X pins σ H s) (T:Turn X.prog X.w X.K tg J fp it tn) (st:tn 0 s.heap) (hf:∀b∈fp,q0y X pins H b) (h:∀p,H p=none->qnu J cap g tc te σ H p (K p))
  (hRR:∀(D C:Addr) (s':Shared) (H':Hp),s.heap.objs.size<=C->(∃m,s'.heap.Ns C m)->(∀h',Heap.SameBut C s'.heap h'->Inv X pins σ H' {s' with heap:=h'})->H' C=none->K D H'->RR (.ref D) C (.ok .next) s') :
  wpAny (model X.prog X.w) X.A (newList []) (fun acc s₃=>wpAny (model X.prog X.w) X.A (newFunctionEnv scope X.env.globals cl [] X.env.qual none .none (some X.env)) (fun cenv s₄=>
   codeAny (model X.prog X.w) X.A (.compStart (.ListComp elt [⟨tg,iter,ifs,0⟩] scope pos) 0 (.ref it) acc {cenv with scope:=relabel scope X.env}) (RR acc cenv.locals) s₄) E s₃) E s:=by
 refine nq (wpAny_newFunctionEnv co.cell (by intro y hy;simp at hy) (fun hh hns hsb=>?_) co.kind);have hD:H s.heap.objs.size=none:=I.fresh;have I3:Inv X pins σ (upd H s.heap.objs.size (.lst [])) {s with heap:=s.heap.push {cls:=.type "list",dict:=none,data:=.seq ([]:List Value).toArray} }:=I.lnew (ys:=[]) (its:=[]) (t':=s.toks) .nil (g1c _);obtain⟨W,⟨m0,w0⟩,turn⟩:=h s.heap.objs.size hD;have fobj:∀b∈fp,∃o,s.heap.get? b=some o:=fun b hb=>let⟨o,e,_⟩:=T.obj 0 _ st b hb; ⟨o,e⟩
 generalize e3:({s with heap:=s.heap.push {cls:=.type "list",dict:=none,data:=.seq ([]:List Value).toArray} }:Shared)=s3 at I3;have es3:s3.heap=s.heap.push {cls:=.type "list",dict:=none,data:=.seq ([]:List Value).toArray}:=by rw [<- e3]
 have eC:(s.heap.push {cls:=.type "list",dict:=none,data:=.seq ([]:List Value).toArray}).objs.size=s3.heap.objs.size:=by rw [es3]
 have hf3:∀b∈fp,q0y X pins (upd H s.heap.objs.size (.lst [])) b:=fun b hb=>by
  obtain⟨f0,f1⟩:=hf b hb;obtain⟨o,e⟩:=fobj b hb;exact⟨by rw [qo (ma (gq e))];exact f0,f1⟩
 have kp:∀b o,s3.heap.get? b=some o->hh.get? b=some o:=fun b o e=>by
  refine hsb.extBut b o ?_ (gc _ (by rw [<- es3];exact e));show b≠(s.heap.push {cls:=.type "list",dict:=none,data:=.seq ([]:List Value).toArray}).objs.size;rw [eC];exact ma (gq e)
 have hle:s.heap.objs.size<=s3.heap.objs.size:=by rw [es3,pk];exact g23 _
 have s3e:∀t:Nat,({s with heap:=hh,toks:=t}:Shared) = {s3 with heap:=hh,toks:=t}:=fun t=>by rw [<- e3]
 have I4:Inv (yz X N' scope cl s3.heap.objs.size s3 (upd H s.heap.objs.size (.lst [])) fp) [] (q9z cap σ) (upd H s.heap.objs.size (.lst [])) {s3 with heap:=hh,toks:=s.toks+([]:List (Str×Value)).length}:=
  qjn I3 co h1 h2 hf3 (fun b hb=>let⟨o,e⟩:=fobj b hb; ⟨o,by rw [es3];exact gc _ e⟩) (by rw [<- eC];exact hns) kp
 have st4:tn 0 hh:=T.keep 0 _ _ st fun b hb o e=>kp b o (by rw [es3];exact gc _ e);have etk:s3.toks+([]:List (Str×Value)).length=s.toks+([]:List (Str×Value)).length:=by rw [<- e3]
 show codeAny (model X.prog X.w) X.A (.compStart (.ListComp elt [⟨tg,iter,ifs,0⟩] scope pos) 0 (.ref it) (.ref s.heap.objs.size) (compEnvC scope cl s3.heap.objs.size X.env)) (RR (.ref s.heap.objs.size) s3.heap.objs.size)
  {s3 with heap:=hh,toks:=s3.toks+([]:List (Str×Value)).length}
 rw [etk];generalize eX:yz X N' scope cl s3.heap.objs.size s3 (upd H s.heap.objs.size (.lst [])) fp=X' at I4;have hg':PG X' tg g:=by rw [<- eX];exact hg _ _ _ _ _
 have hcs':q4d X' ifs tc:=by rw [<- eX];exact hcs _ _ _ _ _
 have he':PE X' elt te:=by rw [<- eX];exact he _ _ _ _ _
 have eenv:X'.env=compEnvC scope cl s3.heap.objs.size X.env:=by rw [<- eX]
 have exe:X'.xe=fun _ _=>False:=by rw [<- eX]
 have eex:X'.ex=fp:=by rw [<- eX]
 have eprog:X'.prog=X.prog:=by rw [<- eX]
 have ew:X'.w=X.w:=by rw [<- eX]
 have eK:X'.K=X.K:=by rw [<- eX]
 have eA:X'.A=X.A:=by rw [<- eX]
 have ecalm:X'.calm=true:=by rw [<- eX];exact hc
 have epn:X'.pn=[]:=by rw [<- eX]
 have eloc:X'.env.locals=s3.heap.objs.size:=by rw [eenv];rfl
 have ok':=I4.ok;have stat:∀ {H':Hp},(∀b∈fp,H' b=none)->∀b∈fp,q0y X' [] H' b:=fun hn b hb=>by
  have hbx:b∈X'.ex:=by rw [eex];exact hb
  exact⟨hn b hb,(ok'.exf b hbx).1,ok'.exfs b hbx,.inl hbx,(ok'.exf b hbx).2,fun p hp=>by rw [epn] at hp;cases hp⟩
 have back:∀ {σ':St} {H':Hp} {s':Shared},Inv X' [] σ' H' s'->K s.heap.objs.size H'->RR (.ref s.heap.objs.size) s3.heap.objs.size (.ok .next) s':=fun {σ' H' s'} J' k=>by
  refine hRR _ _ _ H' hle ?_ (fun h' hs'=>?_) ?_ k
  ·obtain⟨m,hm,_⟩:=J'.loc
   exact⟨m,by rw [<- eloc];exact hm⟩
  ·rw [<- eX] at J'
   exact qgd I3 hf3 J' hs'
  ·rw [<- eloc];exact J'.free
 have loop:codeAny (model X.prog X.w) X.A (.compLoop (.ListComp elt [⟨tg,iter,ifs,0⟩] scope pos) 0 (.ref it) (.ref s.heap.objs.size) (compEnvC scope cl s3.heap.objs.size X.env)) (RR (.ref s.heap.objs.size) s3.heap.objs.size)
   {s3 with heap:=hh,toks:=s.toks+([]:List (Str×Value)).length}:=by
  refine qei (fun n s'=>∃i σ' H',Inv X' [] σ' H' s'/\tn i s'.heap/\(∀b∈fp,H' b=none)/\W i n σ' H') ?_ m0 ⟨0,_,_,I4,st4,fun b hb=>(hf3 b hb).1,w0⟩
  rintro n s5 ⟨i, σ5,H5,I5,st5,fr5,w5⟩
  rw [<- eenv];rcases turn i n σ5 H5 w5 with⟨stop,qn⟩|⟨go,step⟩
  ·have:=T.done X' eprog ew eK ecalm i [] s5 σ5 H5 (fun _ _=>False) I5 (stat fr5) st5 stop
   rw [eA] at this;refine thn this fun r s6 ⟨hr,I6⟩=>?_;subst hr;exact back I6 qn
  ·have:=T.item X' eprog ew eK ecalm i [] s5 σ5 H5 (fun _ _=>False) I5 (stat fr5) st5 go
   rw [eA] at this;refine thn this fun r s6 ⟨u,hr,h6⟩=>?_;subst hr;refine thn h6 fun _ s7 ⟨x,H7,I7,r7,y7,st7,fr7⟩=>?_;have I7':=I7.pinned (stat fr7) (T.obj _ _ st7);have hg2:=hg' _ s7 σ5 H7 x u _ I7' r7 (step x H7 y7);rw [exe,eprog,ew,eA] at hg2;refine thn hg2 fun _ s8 ⟨σ8,H8,I8,q8⟩=>?_;have hc2:=hcs' _ s8 σ8 H8 _ I8 q8;rw [exe,eprog,ew,eA] at hc2;refine thn hc2 fun ok s9 ⟨H9,I9,q9⟩=>?_;have again:∀ {H':Hp} {s':Shared} {m':Nat},Inv X' ([]++q4n fp s7.heap) σ8 H' s'->m'<n->W (i+1) m' σ8 H'->∃m,m<n/\∃i σ' H',Inv X' [] σ' H' s'/\tn i s'.heap/\(∀b∈fp,H' b=none)/\W i m σ' H':=fun {H' s' m'} J' hm w'=>by
    refine⟨m',hm,i+1, σ8,H',J'.unpinned,T.keep _ _ _ st7 fun b hb o e=>(J'.pin (b,o) (mx _ (mx _ (q2y hb e)))).1,fun b hb=>?_,w'⟩;obtain⟨o,e,d⟩:=T.obj _ _ st7 b hb;exact(J'.pin (b,o) (mx _ (mx _ (q2y hb e)))).2.1
   cases ok with
   | false=>
    rw [gy gp] at q9 ⊢;obtain⟨m',hm,w'⟩:=q9;exact again I9 hm w'
   | true=>
    rw [gr rfl] at q9 ⊢;have he2:=he' _ s9 σ8 H9 _ I9 q9;rw [exe,eprog,ew,eA] at he2;refine thn he2 fun y s10 ⟨yv,H10,I10,r10,xs,hp,hz,m',hm,w'⟩=>?_;have ha2:=qaw (X:=X') ([]++q4n fp s7.heap) s10 σ8 H10 (.ref s.heap.objs.size) [yv] (.ref s.heap.objs.size) [y] (fun _ H'=>H'=upd H10 s.heap.objs.size (.lst (xs++[yv]))) I10 rfl (.cons r10 .nil) ⟨_,xs,yv,rfl,rfl,hp,hz,rfl⟩;rw [exe,eprog,ew,eA] at ha2;refine thn ha2 fun _ s11 ⟨_,H11,I11,_,e11⟩=>?_;subst e11;exact again I11 hm w'
 exact codeAny_compStart_list loop (T.self _ 0 _ _ _ st4 loop)
theorem qly(hc:X.calm=true)(co:CapOk X N' scope cap)(hi:PI X tg iter wi)
  (hg:∀cl C s₀ H₀ fp,PG (yz X N' scope cl C s₀ H₀ fp) tg g) (hcs:∀cl C s₀ H₀ fp,q4d (yz X N' scope cl C s₀ H₀ fp) ifs tc) (he:∀cl C s₀ H₀ fp,PE (yz X N' scope cl C s₀ H₀ fp) elt te)
  (hs:∀x,foldedSetIterable iter X.env x=pure x:=by intro _;rfl):PE X (.ListComp elt [⟨tg,iter,ifs,0⟩] scope pos) (ql3 wi cap g tc te):=by
 intro pins s σ H Q I h;obtain⟨cl,ecl,c1,c2⟩:=qgc (scope:=scope) (env:=X.env) fun y hy hf=>I.ok.has y.1 (co.frees y hy hf);rw [eval_ListComp];refine wpAny_comprehension_free (use:=none) rfl hs ecl co.kind co.names (mw (hi pins s σ H _ I h) (fun v s1 h1=>mw h1 (fun itv s2 h2=>?_) fun _ _ e=>e) fun _ _ e=>e);obtain⟨it,fp,tn,J,H2,rfl,I2,T,st2,f2,h2⟩:=h2;refine qhm (K:=fun p=>Q (.ref p)) (RR:=fun acc C=>compPost (model X.prog X.w) X.A X.xe none (EP X pins σ Q) acc C) hc co c1 c2 hg hcs he I2 T st2 f2 h2 ?_;intro D C s' H' hle ⟨m,hm⟩ hI hC q;exact⟨m,hm,fun h' hs'=>⟨.ref D,H',hI h' hs',rfl,q⟩⟩
end
section
variable{X:Cx}{N':List Str}{scope:Scope}{cap:List (Option Nat)}{tg iter elt:Expr}{ifs:List Expr}{wi:TI}{g:TG}{tc:TT}{te:TE}{pos:Pos}
end
end L2
namespace DL
open PySem PySem.Spec PyProof.Rows L2
structure ExcC(K:PySem.W.Frag)(D:Addr): Prop where
 ga:PySem.W.findIn K (.ref D) "__getattribute__" = some (some (.builtin "BaseException.__getattribute__"))
 gk:PySem.W.findIn K (.ref D) "__getattr__" = some none
 cc:PySem.W.findIn K (.ref D) "__class__" = some (some (.builtin "object.__class__"))
 cs:PySem.W.specialIn K (.builtin "object.__class__") "__get__" = some (some (.builtin "getset_descriptor.__get__"))
 ct:PySem.W.takesIn K (.builtin "object.__class__")=some true
 cm:PySem.W.mroIn K D (.type "object")=some true
 cb:PySem.W.mroIn K D (.type "BaseException")=some true
section
variable{prog:Program}{w:World}{A:Around}{E:Value->Shared->Prop}{K:PySem.W.Frag}{s:Shared}{x D:Addr}{od:Option Addr}{ox:Obj}
open PySem.W in
theorem qa0(c:ExcC K D): (clsIn K D).isSome=true:=by
 have:=c.cm;unfold mroIn at this;cases q:clsIn K D with
 | none=>rw [q] at this;cases this
 | some cd=>rfl
def XE(a C:Addr)(od:Option Addr)(h:Heap): Prop:=∃o vs,h.get? a=some o/\o.cls=.ref C/\o.dict=od/\o.data=.fields vs
open PySem.W in
theorem q35{M:Model}{a C:Addr}{od:Option Addr}{h:Heap}(e:XE a C od h): Looks M h (typeOf (.ref a)) (.ref C):=by
 obtain⟨o,vs,e1,e2,_,e3⟩:=e;exact e2 ▸ (Looks.ld e1).andThen .now
open PySem.W Builtin.ObjectAttr in
theorem qlz{M:Model}{h:Heap}(c:ExcC K D)(X:K.In h): Looks M h (find (.ref x) (.ref D) "__class__") (.bind (.builtin "getset_descriptor.__get__") (.builtin "object.__class__")):=by
 refine(looks_findIn (M:=M) X c.cc).andThen ((looks_specialIn (M:=M) X c.cs).andThen ?_);exact(show Looks M h (dataDescriptor? (some (.builtin "object.__class__")) (some (.builtin "getset_descriptor.__get__"))) (some (.builtin "getset_descriptor.__get__",.builtin "object.__class__")) from(looks_takesIn (M:=M) X c.ct).andThen .now).andThen (Looks.tag .now)
open PySem.W Builtin Builtin.ObjectAttr Builtin.Getset_descriptor in
theorem qnv{tp:Value}{R:Result->Shared->Prop}(c:ExcC K D)(X:K.In s.heap)(I:XE x D od s.heap)(h:R (.ok (.ret (.ref D))) s):
  codeAny (model prog w) A (.call (.builtin "getset_descriptor.__get__") ⟨[.builtin "object.__class__",.ref x,tp],[]⟩) R s:=by
 obtain⟨hh,g,dr,t,os⟩:=s;have L0:=q35 (M:=model prog w) I;have L1:=looks_mroIn (M:=model prog w) X c.cm;refine uc KF.slot_gs.plain KF.entry_gs (KF.slot_gs.check _ _ _ _ _ _ _ _ KF.type_class (KF.args_gs _ _ _) ?_);unfold Builtin.«getset_descriptor.__get__» descrGet;rw [dga_obj];refine g9 (gh ?_);unfold descrGetter descrCheckInstance descrNameAndClass isInstance;simp only [KF.owner_class]
 repeat lk
 refine⟨g1g _ (by decide +kernel),g0w KF.entry_class ?_⟩;unfold Builtin.«object.__class__» shownTypeOf
 repeat lk
 exact h
open PySem.W in
theorem qjo{tk:Tok}{Q:Fin->Shared->Prop}(c:ExcC K D)(X:K.In s.heap)(I:XE x D od s.heap)(hq:Q (.done (.ret (.ref D))) s):
  wpAny (model prog w) A (Builtin.«object.__getattribute__» ⟨[.ref x,.str "__class__" tk],[]⟩) Q E s:=by
 obtain⟨hh,g,dr,t,os⟩:=s;have L0:=q35 (M:=model prog w) I;have L1:=qlz (x:=x) (M:=model prog w) c X;unfold Builtin.«object.__getattribute__»;refine g9 (gh (g9 (gh (g9 (L0.at (g9 (L1.at ?_)))))));show wpAny _ _ (Builtin.ObjectAttr.bindTo _ _ _ _) _ _ _;unfold Builtin.ObjectAttr.bindTo;refine g9 (tj (ua (qnv c X I ?_)));exact gh hq
open PySem.W in
theorem qco{M:Model}{nameV:Value}{Q:Unit->Shared->Prop}(c:ExcC K D)(X:K.In s.heap)(I:XE x D od s.heap)(hq:Q () s): wpAny M A (checkBuiltinCall "BaseException.__getattribute__" ⟨[.ref x,nameV],[]⟩) Q E s:=by
 obtain⟨hh,g,dr,t,os⟩:=s;have L0:=q35 (M:=M) I;have L1:=looks_mroIn (M:=M) X c.cb;have hk:builtinKind "BaseException.__getattribute__" = some .slot:=by decide +kernel
 have hsplit:splitId "BaseException.__getattribute__" = some ("BaseException","__getattribute__"):=by decide +kernel
 have ha:=F.args_bexc_ga (.ref x) nameV;simp only [checkBuiltinCall,hk,hsplit];refine g9 ?_;unfold isInstance;refine g9 (L0.at (L1.at ?_))
 repeat (first|wp_step)
 exact hq
open PySem.W in
theorem qjp{Q:Option Value->Shared->Prop}(c:ExcC K D)(X:K.In s.heap)(I:XE x D od s.heap)(h:Q (some (.ref D)) {s with toks:=s.toks+1}): wpAny (model prog w) A (getAttr? (.ref x) "__class__") Q E s:=by
 obtain⟨hh,g,dr,t,os⟩:=s;have L0:=q35 (M:=model prog w) I;have L1:=looks_findIn (M:=model prog w) X c.ga;have L2:=looks_findIn (M:=model prog w) X c.gk;have f3:=t6.ga.bind (.ref x);unfold getAttr? getAttrBy? getAttrBy;refine g9 (wpAny_mkText (g9 (g0m (tj (g9 (L0.at (g9 (L1.at ?_))))))));show wpAny _ _ (getAttrByItsOwn _ _ _ _ _ _) _ _ _;unfold getAttrByItsOwn hookBefore;rw [gr (show onTheHeap (Value.ref D)=true from rfl)];refine g9 (L2.at ?_);refine g9 (g0m (tj ?_));unfold callGetattribute boundAndCalled;rw [gy (by decide)];rw [f3];refine g9 (gh ?_);refine ua (uc t6.ga.plain F.entry_bexc_ga (qco c X I (qjo c X I ?_)));dsimp only;exact handed_on rfl (gh h)
theorem q8a(c:ExcC K D): PySem.W.KitX K (.ref x) (.ref D) (XE x D od) where
 ty:=fun M h _ e=>q35 e
 it:=fun _ _ X _=>by
  obtain⟨cdD,hcD⟩:=ue.mp (qa0 c);unfold PySem.W.clsIn at hcD
  split at hcD
  ·rename_i c' d' cd' sl' ho
   intro A' Q' E' s' k q;unfold isType loadHead;exact g9 (g19 (k _ _ (X _ _ ho)) (gh q))
  ·cases hcD
 ne:=fun h tp dd its n sl X htp=>by
  obtain⟨cdD,hcD⟩:=ue.mp (qa0 c);refine Bool.eq_false_iff.mpr fun q=>?_;have e:D=tp:=Value.ref.inj (nk.mp q);subst e;unfold PySem.W.clsIn at hcD
  split at hcD
  ·rename_i c' d' cd' sl' ho
   have z:=(X _ _ ho).symm.trans htp;cases z
  ·cases hcD
 ca:=fun X e k=>qjp c X e k
end
def v7(K:PySem.W.Frag)(C:Addr): Prop:=ExcC K C/\∀T:String,T∈["int","bool","tuple","list","str","dict"]->PySem.W.kitOne K (.ref C) (.type T)=some false
inductive D where
 | non
 | bl (b:Bool)
 | int (i:Int)
 | str (x:Str)
 | tup (ds:List D)
 | lst (ds:List D)
 | dct (ks:List Key) (vs:List D)
 | dtt (ks:List (List Int)) (vs:List D)
 | obj (x:Str)
 | exc (x:Str) (f:Option (Str×Int))
abbrev Frag:=PySem.W.Frag
abbrev St:=L2.St
def qnw(K:Frag)(C:Addr): Prop:=PySem.W.plainGet K C "__class__" = true/\PySem.W.hasDictIn K C=true/\PySem.W.findIn K (.ref C) "__class__" = some (some (.builtin "object.__class__")) /\
 PySem.W.specialIn K (.builtin "object.__class__") "__get__" = some (some (.builtin "getset_descriptor.__get__"))/\PySem.W.takesIn K (.builtin "object.__class__")=some true/\PySem.W.mroIn K C (.type "object")=some true /\
 ∀T:String,T∈["int","bool","tuple","list","str","dict"]->PySem.W.kitOne K (.ref C) (.type T)=some false
def qr5(x:List Int×Addr×Value): DictEntry:=⟨reduceHash (Builtin.Tuple.tupleHashOf (x.1.map hashInt)),.ref x.2.1,x.2.2⟩
def DE(a:Addr)(xs:List (List Int×Addr×Value))(ep:Nat)(h:Heap): Prop:=∃o es,h.get? a=some o/\o.ExactDict/\o.data=.dict es ep/\es.toList=xs.map qr5
def XF(H:Hp): Option Addr->Option (Str×Int)->Prop
 | none,none=>True
 | some dx,some p=>H dx=some (.xd [(p.1,.int p.2)])
 | _,_=>False
theorem XF.mono{H H':Hp}(e:Same H H'): ∀ {od:Option Addr} {f:Option (Str×Int)},XF H od f->XF H' od f
 | none,none,_=>trivial
 | some _,some _,h=>e _ _ h
 | none,some _,h=>h
 | some _,none,h=>h
mutual
/-- v stands for the datum in the heap H -/
def Rep(K:Frag)(H:Hp): D->V->Prop
 | .non,v=>v=.non
 | .bl b,v=>v=.bl b
 | .int i,v=>v=.int i
 | .str x,v=>v=.str x
 | .tup ds,v=>∃a xs,v=.ref a/\SqT K H a xs/\RepL K H ds xs
 | .lst ds,v=>∃a xs,v=.ref a/\SqL K H a xs/\RepL K H ds xs
 | .dct ks vs,v=>∃a xs,v=.ref a/\H a=some (.dK (ks.zip xs))/\ks.length=xs.length/\RepL K H vs xs
 | .dtt ks vs,v=>∃a xs ys ep,v=.ref a/\H a=some (.ext (DE a xs ep))/\xs.map (·.1)=ks/\ks.Nodup/\xs.length<=sizeLine/\(a==sysModules)=false/\(∀x∈xs,SqT K H x.2.1 (x.1.map V.int))/\Vals ys (xs.map fun x=>x.2.2)/\RepL K H vs ys
 | .obj x,v=>∃a dx C,v=.ref a/\H a=some (.ins C dx [])/\PySem.W.nsIn K mainGlobals x=some (some (.ref C))/\qnw K C
 | .exc x f,v=>∃a C,v=.ref a/\(∃od,H a=some (.ext (XE a C od))/\XF H od f)/\PySem.W.nsIn K mainGlobals x=some (some (.ref C))/\v7 K C
def RepL(K:Frag)(H:Hp): List D->List V->Prop
 | [],xs=>xs=[]
 | d :: ds,xs=>∃x r,xs=x :: r/\Rep K H d x/\RepL K H ds r
end
theorem qz{K:Frag}{H H':Hp}{a:Addr}{xs:List V}(e:Same H H')(h:SqT K H a xs): SqT K H' a xs:=by
 rcases h with(h|⟨o,h⟩)|h
 ·exact .inl (.inl (e _ _ h))
 ·exact .inl (.inr ⟨o,e _ _ h⟩)
 ·exact .inr h
mutual
theorem Rep.mono{K:Frag}{H H':Hp}(e:Same H H'): ∀ {d:D} {v:V},Rep K H d v->Rep K H' d v
 | .non,v,h=>by simpa only [Rep] using h
 | .bl b,v,h=>by simpa only [Rep] using h
 | .int i,v,h=>by simpa only [Rep] using h
 | .str x,v,h=>by simpa only [Rep] using h
 | .tup ds,v,h=>by
  simp only [Rep] at h ⊢;obtain⟨a,xs,e1,e2,e3⟩:=h;exact⟨a,xs,e1,qz e e2,RepL.mono e e3⟩
 | .lst ds,v,h=>by
  simp only [Rep] at h ⊢;obtain⟨a,xs,e1,e2,e3⟩:=h;exact⟨a,xs,e1,e.seq e2,RepL.mono e e3⟩
 | .dct ks vs,v,h=>by
  simp only [Rep] at h ⊢;obtain⟨a,xs,e1,e2,e3,e4⟩:=h;exact⟨a,xs,e1,e _ _ e2,e3,RepL.mono e e4⟩
 | .dtt ks vs,v,h=>by
  simp only [Rep] at h ⊢;obtain⟨a,xs,ys,ep,e1,e2,e3,e4,e5,e6,e7,e8,e9⟩:=h;exact⟨a,xs,ys,ep,e1,e _ _ e2,e3,e4,e5,e6,fun x hx=>qz e (e7 x hx),e8,RepL.mono e e9⟩
 | .obj x,v,h=>by
  simp only [Rep] at h ⊢;obtain⟨a,dx,C,e1,e2,e3⟩:=h;exact⟨a,dx,C,e1,e _ _ e2,e3⟩
 | .exc x f,v,h=>by
  simp only [Rep] at h ⊢;obtain⟨a,C,e1,⟨od,e2,e4⟩,e3⟩:=h;exact⟨a,C,e1,⟨od,e _ _ e2,e4.mono e⟩,e3⟩
theorem RepL.mono{K:Frag}{H H':Hp}(e:Same H H'): ∀ {ds:List D} {xs:List V},RepL K H ds xs->RepL K H' ds xs
 | [],xs,h=>by simpa only [RepL] using h
 | d :: ds,xs,h=>by
  simp only [RepL] at h ⊢;obtain⟨x,r,e1,e2,e3⟩:=h;exact⟨x,r,e1,Rep.mono e e2,RepL.mono e e3⟩
end
section
variable{K:Frag}{H:Hp}
theorem RepL.nil:RepL K H [] []:=by simp only [RepL]
theorem RepL.cons{d:D}{ds:List D}{x:V}{xs:List V}(h:Rep K H d x)(t:RepL K H ds xs): RepL K H (d :: ds) (x :: xs):=by
 simp only [RepL];exact⟨x,xs,rfl,h,t⟩
theorem RepL.nil_inv{xs:List V}(h:RepL K H [] xs): xs=[]:=by simpa only [RepL] using h
theorem RepL.cons_inv{d:D}{ds:List D}{xs:List V}(h:RepL K H (d :: ds) xs): ∃x r,xs=x :: r/\Rep K H d x/\RepL K H ds r:=by simpa only [RepL] using h
theorem RepL.length:∀ {ds:List D} {xs:List V},RepL K H ds xs->ds.length=xs.length
 | [],xs,h=>by rw [h.nil_inv];rfl
 | d :: ds,xs,h=>by
  obtain⟨x,r,rfl,_,t⟩:=h.cons_inv;simp [RepL.length t]
theorem RepL.append:∀ {ds es:List D} {xs ys:List V},RepL K H ds xs->RepL K H es ys->RepL K H (ds++es) (xs++ys)
 | [],es,xs,ys,h,t=>by rw [h.nil_inv];exact t
 | d :: ds,es,xs,ys,h,t=>by
  obtain⟨x,r,rfl,h1,h2⟩:=h.cons_inv;exact .cons h1 (RepL.append h2 t)
theorem RepL.get:∀ {ds:List D} {xs:List V} {i:Nat} {d:D},RepL K H ds xs->ds[i]? = some d->∃x,xs[i]? = some x/\Rep K H d x
 | [],xs,i,d,h,e=>by simp at e
 | d :: ds,xs,0,d',h,e=>by
  obtain⟨x,r,rfl,h1,h2⟩:=h.cons_inv;simp at e;subst e;exact⟨x,rfl,h1⟩
 | d :: ds,xs,i+1,d',h,e=>by
  obtain⟨x,r,rfl,h1,h2⟩:=h.cons_inv;obtain⟨y,e1,e2⟩:=RepL.get (i:=i) h2 (by simpa using e);exact⟨y,by simpa using e1,e2⟩
theorem RepL.take:∀ {ds:List D} {xs:List V} (n:Nat),RepL K H ds xs->RepL K H (ds.take n) (xs.take n)
 | _,_,0,_=>by simp only [List.take_zero];exact .nil
 | [],xs,n+1,h=>by rw [h.nil_inv];exact .nil
 | d :: ds,xs,n+1,h=>by
  obtain⟨x,r,rfl,h1,h2⟩:=h.cons_inv;exact .cons h1 (RepL.take n h2)
theorem RepL.drop:∀ {ds:List D} {xs:List V} (n:Nat),RepL K H ds xs->RepL K H (ds.drop n) (xs.drop n)
 | ds,xs,0,h=>by simpa only [List.drop_zero] using h
 | [],xs,n+1,h=>by rw [h.nil_inv];exact .nil
 | d :: ds,xs,n+1,h=>by
  obtain⟨x,r,rfl,h1,h2⟩:=h.cons_inv;exact RepL.drop n h2
theorem RepL.ints:∀ {ns:List Int} {xs:List V},RepL K H (ns.map D.int) xs↔xs=ns.map V.int
 | [],xs=>by simp only [g1t,RepL]
 | n :: ns,xs=>by
  simp only [m9,RepL]
  constructor
  ·rintro⟨x,r,rfl,h1,h2⟩
   simp only [Rep] at h1;rw [h1,RepL.ints.mp h2]
  ·rintro rfl
   exact⟨_,_,rfl,by simp only [Rep],RepL.ints.mpr rfl⟩
theorem rep_int{i:Int}{v:V}: Rep K H (.int i) v↔v=.int i:=by simp only [Rep]
theorem rep_bl{i:Bool}{v:V}: Rep K H (.bl i) v↔v=.bl i:=by simp only [Rep]
theorem rep_str{i:Str}{v:V}: Rep K H (.str i) v↔v=.str i:=by simp only [Rep]
theorem rep_non{v:V}: Rep K H .non v↔v=.non:=by simp only [Rep]
theorem rep_tup{ds:List D}{v:V}: Rep K H (.tup ds) v↔∃a xs,v=.ref a/\SqT K H a xs/\RepL K H ds xs:=by simp only [Rep]
theorem rep_lst{ds:List D}{v:V}: Rep K H (.lst ds) v↔∃a xs,v=.ref a/\SqL K H a xs/\RepL K H ds xs:=by simp only [Rep]
theorem rep_dct{ks:List Key}{vs:List D}{v:V}: Rep K H (.dct ks vs) v↔∃a xs,v=.ref a/\H a=some (.dK (ks.zip xs))/\ks.length=xs.length/\RepL K H vs xs:=by simp only [Rep]
theorem rep_dtt{ks:List (List Int)}{vs:List D}{v:V}: Rep K H (.dtt ks vs) v↔∃a xs ys ep,v=.ref a/\H a=some (.ext (DE a xs ep))/\xs.map (·.1)=ks/\ks.Nodup/\xs.length<=sizeLine/\(a==sysModules)=false/\(∀x∈xs,SqT K H x.2.1 (x.1.map V.int))/\Vals ys (xs.map fun x=>x.2.2)/\RepL K H vs ys:=by simp only [Rep]
theorem rep_exc{x:Str}{f:Option (Str×Int)}{v:V}: Rep K H (.exc x f) v↔∃a C,v=.ref a/\(∃od,H a=some (.ext (XE a C od))/\XF H od f)/\PySem.W.nsIn K mainGlobals x=some (some (.ref C))/\v7 K C:=by simp only [Rep]
theorem rep_obj{x:Str}{v:V}: Rep K H (.obj x) v↔∃a dx C,v=.ref a/\H a=some (.ins C dx [])/\PySem.W.nsIn K mainGlobals x=some (some (.ref C))/\qnw K C:=by simp only [Rep]
end
class Lam where
 tab:List (Addr×Str)
class Pin where
 pin:Option Addr
instance (priority:=low) pin0:Pin:=⟨none⟩
variable[Lam][Pin]
def Tab(H:Hp): Prop:=∀p∈Lam.tab,∃ps,H p.1=some (.tbl ps)/\TriplesOk ps.toList/\∀pos cv,codeAmong pos ps.toList=some cv->∃c φ,cv=.ref c/\H c=some (.ext φ)/\∀h, φ h->h.CodeRec (.ref c) p.2
def qjq(F:Hp): Prop:=∀p∈Lam.tab,F p.1=none
theorem Tab.updG{H:Hp}(t:Tab H){p:Addr}{o:HO}(h:∀u,H p=some u->(∀ps,u ≠ .tbl ps)/\∀ φ,u ≠ .ext φ): Tab (upd H p o):=fun q hq=>by
 obtain⟨ps,e,ht,k⟩:=t q hq;refine⟨ps,by rw [qo (fun z=>by subst z;exact(h _ e).1 ps rfl)];exact e,ht,fun pos cv z=>?_⟩;obtain⟨c, φ,e1,e2,e3⟩:=k pos cv z;exact⟨c, φ,e1,by rw [qo (fun z=>by subst z;exact(h _ e2).2 φ rfl)];exact e2,e3⟩
theorem Tab.upd{H:Hp}(t:Tab H){p:Addr}{o:HO}(h:H p=none\/∃xs,H p=some (.lst xs)): Tab (upd H p o):=t.updG fun u e=>by
 rcases h with h|⟨xs,h⟩
 ·rw [h] at e;cases e
 ·rw [h] at e;cases e;exact⟨nofun,nofun⟩
structure Kept(H H':Hp): Prop where
 lst:∀b xs,H b=some (.lst xs)->H' b=some (.lst xs)
 ext:∀b φ,H b=some (.ext φ)->H' b=some (.ext φ)
 free:∀ {b},H' b=none->H b=none
 tb:Tab H->Tab H'
 dk:∀b (u:Addr×Addr×List (Str×V)),H b=some (.ins u.1 u.2.1 u.2.2)->H' b=some (.ins u.1 u.2.1 u.2.2)
theorem Kept.refl(H:Hp): Kept H H:=⟨fun _ _ e=>e,fun _ _ e=>e,fun e=>e,fun t=>t,fun _ _ e=>e⟩
theorem Kept.trans{H H1 H2:Hp}(a:Kept H H1)(b:Kept H1 H2): Kept H H2:=⟨fun c xs e=>b.lst c xs (a.lst c xs e),fun c φ e=>b.ext c φ (a.ext c φ e),fun e=>a.free (b.free e),fun t=>b.tb (a.tb t),fun c kvs e=>b.dk c kvs (a.dk c kvs e)⟩
theorem Kept.new{H:Hp}{p:Addr}{o:HO}(hp:H p=none): Kept H (upd H p o):=⟨fun b xs e=>by rw [qo (xp e hp)];exact e,fun b φ e=>by rw [qo (xp e hp)];exact e,fun {b} e=>by
 by_cases z:b=p
 ·subst z;exact hp
 ·rw [qo z] at e;exact e,fun t=>t.upd (.inl hp),fun b kvs e=>by rw [qo (xp e hp)];exact e⟩
structure SameT(F H:Hp): Prop where
 s:Same F H
 t:Tab H
 f:qjq F
structure Grow(F H F' H':Hp): Prop where
 ff:Same F F'
 hh:Kept H H'
 fh:Same F' H'
 nw:∀b,F' b≠none->F b≠none\/H b=none
theorem Grow.refl{F H:Hp}(h:Same F H): Grow F H F H:=⟨.refl _,.refl _,h,fun _ h=>.inl h⟩
theorem Grow.trans{F H F1 H1 F2 H2:Hp}(a:Grow F H F1 H1)(b:Grow F1 H1 F2 H2): Grow F H F2 H2:=
 ⟨a.ff.trans b.ff,a.hh.trans b.hh,b.fh,fun c h=>(b.nw c h).elim (fun z=>a.nw c z) fun z=>.inr (a.hh.free z)⟩
theorem q5a{H:Hp}{p:Addr}{o:HO}(h:H p=none): Same H (upd H p o):=fun b u q=>by rw [qo (xp q h)];exact q
theorem qhn{F H:Hp}{p:Addr}{o:HO}(h:Same F H): Same (upd F p o) (upd H p o):=fun b u q=>by
 unfold upd at q ⊢
 split
 ·rename_i z;rw [gr z] at q;exact q
 ·rename_i z;rw [gy z] at q;exact h _ _ q
theorem Grow.new{F H:Hp}{p:Addr}{o:HO}(h:Same F H)(hp:H p=none): Grow F H (upd F p o) (upd H p o):=
 ⟨q5a (h.free hp),.new hp,qhn h,fun b hb=>by
  by_cases e:b=p
  ·subst e;exact .inr hp
  ·rw [qo e] at hb;exact .inl hb⟩
theorem Grow.own{F H:Hp}{p:Addr}{o:HO}(h:Same F H)(hp:H p=none): Grow F H F (upd H p o):=
 ⟨.refl _,.new hp,h.trans (q5a hp),fun _ h=>.inl h⟩
inductive B where
 | fz (d:D)
 | ow (ds:List D)
 | od (kvs:Str×List (Str×D))
abbrev Rho:=List (Option B)
def FsR(K:Frag)(F:Hp): List (Str×D)->List (Str×V)->Prop
 | [],vs=>vs=[]
 | p :: fs,vs=>∃v r,vs=(p.1,v) :: r/\Rep K F p.2 v/\FsR K F fs r
omit [Lam] [Pin] in
theorem FsR.mono{K:Frag}{F F':Hp}(s:Same F F'): ∀ {fs:List (Str×D)} {vs:List (Str×V)},FsR K F fs vs->FsR K F' fs vs
 | [],_,h=>h
 | p :: fs,_,⟨v,r,e,h1,h2⟩=>⟨v,r,e,h1.mono s,FsR.mono s h2⟩
structure ODt(K:Frag)(F H H0:Hp)(a:Addr)(bs:List Addr)(kvs:Str×List (Str×D)): Prop where
 nb:bs=[]
 ex:∃C dx vs,H a=some (.ins C dx vs)/\PySem.W.nsIn K mainGlobals kvs.1=some (some (.ref C))/\FsR K F kvs.2 vs
 f:F a=none
 z:H0 a=none
 pn:∀p,Pin.pin=some p->a=p
structure RS(K:Frag)(F0 H0 F H:Hp)(σ : St)(ρ : Rho): Prop where
 t0:Tab H0/\qjq F0
 g:Grow F0 H0 F H
 len : σ.length = ρ.length
 fz:∀(i:Nat) (d:D), ρ[i]? = some (some (.fz d))->∃v, σ[i]? = some (some v)/\Rep K F d v
 ow:∀(i:Nat) (ds:List D), ρ[i]? = some (some (.ow ds))->∃a xs, σ[i]? = some (some (.ref a))/\H a=some (.lst xs)/\F a=none/\H0 a=none/\RepL K F ds xs
 dj:∀(i j:Nat) (ds es:List D) (a:Addr),i≠j -> ρ[i]? = some (some (.ow ds)) -> ρ[j]? = some (some (.ow es)) -> σ[i]? = some (some (.ref a)) -> σ[j]? ≠ some (some (.ref a))
 od:∀(i:Nat) (kvs:Str×List (Str×D)), ρ[i]? = some (some (.od kvs))->∃a bs, σ[i]? = some (some (.ref a))/\ODt K F H H0 a bs kvs/\∀(j:Nat) (es:List D) (b:Addr), ρ[j]? = some (some (.ow es))->b∈bs -> σ[j]? ≠ some (some (.ref b))
 o1:∀(i j:Nat) (k1 k2:Str×List (Str×D)), ρ[i]? = some (some (.od k1)) -> ρ[j]? = some (some (.od k2))->i=j
theorem qf5{F H F' H':Hp}{a:Addr}{o:HO}(g:Grow F H F' H')(h1:F a=none)(h2:H a=some o): F' a=none:=by
 cases q:F' a with
 | none=>rfl
 | some o=>
  rcases g.nw a (by rw [q];simp) with z|z
  ·exact absurd h1 z
  ·rw [h2] at z;cases z
theorem ODt.mem{K:Frag}{F H H0:Hp}{a:Addr}{bs:List Addr}{kvs:Str×List (Str×D)}(o:ODt K F H H0 a bs kvs){b:Addr}(h:b∈bs): ∃xs,H b=some (.lst xs)/\F b=none/\H0 b=none:=by
 rw [o.nb] at h;cases h
theorem ODt.nl{K:Frag}{F H H0:Hp}{a:Addr}{bs:List Addr}{kvs:Str×List (Str×D)}(o:ODt K F H H0 a bs kvs){xs:List V}(h:H a=some (.lst xs)): False:=by
 obtain⟨C,dx,vs,e,_⟩:=o.ex;rw [h] at e;cases e
theorem ODt.grow{K:Frag}{F H F' H' H0:Hp}{a:Addr}{bs:List Addr}{kvs:Str×List (Str×D)}(o:ODt K F H H0 a bs kvs)(g:Grow F H F' H'): ODt K F' H' H0 a bs kvs:=by
 obtain⟨C,dx,vs,e1,e2,e3⟩:=o.ex;exact⟨o.nb,⟨C,dx,vs,g.hh.dk a (C,dx,_) e1,e2,e3.mono g.ff⟩,qf5 g o.f e1,o.z,o.pn⟩
theorem ODt.other{K:Frag}{F H H0:Hp}{a p:Addr}{bs:List Addr}{kvs:Str×List (Str×D)}{u:HO}(o:ODt K F H H0 a bs kvs)(h1:p≠a)(h2:p∉bs): ODt K F (upd H p u) H0 a bs kvs:=by
 obtain⟨C,dx,vs,e1,e2,e3⟩:=o.ex;exact⟨o.nb,⟨C,dx,vs,by rw [qo (gu h1)];exact e1,e2,e3⟩,o.f,o.z,o.pn⟩
theorem ODt.otherF{K:Frag}{F H H0:Hp}{a p:Addr}{bs:List Addr}{kvs:Str×List (Str×D)}{u:HO}(o:ODt K F H H0 a bs kvs)(hs:Same F (upd F p u))(h1:p≠a)(h2:p∉bs): ODt K (upd F p u) H H0 a bs kvs:=by
 obtain⟨C,dx,vs,e1,e2,e3⟩:=o.ex;exact⟨o.nb,⟨C,dx,vs,e1,e2,e3.mono hs⟩,by rw [qo (gu h1)];exact o.f,o.z,o.pn⟩
section
variable{K:Frag}{F0 H0 F H F' H':Hp}{σ : St}{ρ : Rho}
theorem RS.fh(r:RS K F0 H0 F H σ ρ): Same F H:=r.g.fh
theorem RS.tab(r:RS K F0 H0 F H σ ρ): Tab H:=r.g.hh.tb r.t0.1
theorem RS.tabF(r:RS K F0 H0 F H σ ρ): qjq F:=fun p hp=>by
 cases q:F p.1 with
 | none=>rfl
 | some o=>
  rcases r.g.nw p.1 (by rw [q];simp) with z|z
  ·exact absurd (r.t0.2 p hp) z
  ·obtain⟨ps,e,_⟩:=r.t0.1 p hp
   rw [e] at z;cases z
theorem RS.grow(r:RS K F0 H0 F H σ ρ)(g:Grow F H F' H'): RS K F0 H0 F' H' σ ρ where
 t0:=r.t0
 g:=r.g.trans g
 len:=r.len
 fz:=fun i d e=>let⟨v,e1,e2⟩:=r.fz i d e; ⟨v,e1,e2.mono g.ff⟩
 ow:=fun i ds e=>by
  obtain⟨a,xs,e1,e2,e3,e4,e5⟩:=r.ow i ds e;refine⟨a,xs,e1,g.hh.lst _ _ e2,?_,e4,e5.mono g.ff⟩;cases q:F' a with
  | none=>rfl
  | some o=>
   rcases g.nw a (by rw [q];simp) with z|z
   ·exact absurd e3 z
   ·rw [e2] at z;cases z
 dj:=r.dj
 od:=fun i kvs e=>let⟨a,bs,e1,e2,e3⟩:=r.od i kvs e; ⟨a,bs,e1,e2.grow g,e3⟩
 o1:=r.o1
theorem RS.sameT(r:RS K F0 H0 F H σ ρ)(g:Grow F H F' H'): SameT F' H':=⟨g.fh,(r.grow g).tab,(r.grow g).tabF⟩
theorem qs{α : Type}{l:List α}{i:Nat}{x y : α}(h:(l.set i x)[i]? = some y): y=x/\i<l.length:=by
 rw [um] at h;simp only [p5] at h
 split at h
 ·exact⟨(mi h).symm,by assumption⟩
 ·cases h
theorem RS.set(r:RS K F0 H0 F H σ ρ){d:D}{v:V}(i:Nat)(h:Rep K F d v): RS K F0 H0 F H (σ.set i (some v)) (ρ.set i (some (.fz d))) where
 t0:=r.t0
 g:=r.g
 len:=by rw [ni,ni];exact r.len
 fz:=fun j e h1=>by
  by_cases q:j=i
  ·subst q
   obtain⟨z,l⟩:=qs h1;cases z;exact⟨v,by rw [um];simp [r.len,l],h⟩
  ·rw [gf (gu q)] at h1 ⊢
   exact r.fz j e h1
 ow:=fun j ds h1=>by
  by_cases q:j=i
  ·subst q
   obtain⟨z,l⟩:=qs h1;cases z
  ·rw [gf (gu q)] at h1 ⊢
   exact r.ow j ds h1
 dj :=fun j k ds es a hjk h1 h2 h3=>by
  by_cases q:j=i
  ·subst q
   obtain⟨z,l⟩:=qs h1;cases z
  ·by_cases q2:k=i
   ·subst q2
    obtain⟨z,l⟩:=qs h2;cases z
   ·rw [gf (gu q)] at h1 h3
    rw [gf (gu q2)] at h2 ⊢;exact r.dj j k ds es a hjk h1 h2 h3
 od :=fun j kvs h1=>by
  by_cases q:j=i
  ·subst q
   obtain⟨z,l⟩:=qs h1;cases z
  ·rw [gf (gu q)] at h1 ⊢
   obtain⟨a,bs,e1,e2,e3⟩:=r.od j kvs h1;refine⟨a,bs,e1,e2,fun k es b h2 h3=>?_⟩
   by_cases q2:k=i
   ·subst q2
    obtain⟨z,l⟩:=qs h2;cases z
   ·rw [gf (gu q2)] at h2 ⊢
    exact e3 k es b h2 h3
 o1 :=fun j k k1 k2 h1 h2=>by
  by_cases q:j=i
  ·subst q
   obtain⟨z,l⟩:=qs h1;cases z
  ·by_cases q2:k=i
   ·subst q2
    obtain⟨z,l⟩:=qs h2;cases z
   ·rw [gf (gu q)] at h1
    rw [gf (gu q2)] at h2;exact r.o1 j k k1 k2 h1 h2
theorem RS.setO(r:RS K F0 H0 F H σ ρ){ds:List D}{xs:List V}{a:Addr}(i:Nat)(h1:H a=some (.lst xs))(h2:F a=none)(h3:H0 a=none)(h4:RepL K F ds xs)
  (h5:∀(j:Nat) (es:List D), ρ[j]? = some (some (.ow es)) -> σ[j]? ≠ some (some (.ref a)))
  (h6:∀(j:Nat) (kvs:Str×List (Str×D)), ρ[j]? = some (some (.od kvs))->∃a' bs, σ[j]? = some (some (.ref a'))/\ODt K F H H0 a' bs kvs/\a∉bs/\∀(j':Nat) (es:List D) (b:Addr), ρ[j']? = some (some (.ow es))->b∈bs -> σ[j']? ≠ some (some (.ref b))):RS K F0 H0 F H (σ.set i (some (.ref a))) (ρ.set i (some (.ow ds))) where
 t0:=r.t0
 g:=r.g
 len:=by rw [ni,ni];exact r.len
 fz:=fun j e q1=>by
  by_cases q:j=i
  ·subst q
   obtain⟨z,l⟩:=qs q1;cases z
  ·rw [gf (gu q)] at q1 ⊢
   exact r.fz j e q1
 ow:=fun j es q1=>by
  by_cases q:j=i
  ·subst q
   obtain⟨z,l⟩:=qs q1;cases z;exact⟨a,xs,by rw [um];simp [r.len,l],h1,h2,h3,h4⟩
  ·rw [gf (gu q)] at q1 ⊢
   exact r.ow j es q1
 dj :=fun j k ds' es b hjk q1 q2 q3=>by
  by_cases q:j=i
  ·subst q
   have e3:=qs q3;have eb:b=a:=by have:=e3.1;simpa using this
   subst eb;rw [gf hjk] at q2 ⊢;exact h5 k es q2
  ·rw [gf (gu q)] at q1 q3
   by_cases q4:k=i
   ·subst q4
    intro z;have eb:b=a:=by have:=(qs z).1;simpa using this
    subst eb;exact h5 j ds' q1 q3
   ·rw [gf (gu q4)] at q2 ⊢
    exact r.dj j k ds' es b hjk q1 q2 q3
 od :=fun j kvs q1=>by
  by_cases q:j=i
  ·subst q
   obtain⟨z,l⟩:=qs q1;cases z
  ·rw [gf (gu q)] at q1 ⊢
   obtain⟨a',bs,e1,e2,e3,e4⟩:=h6 j kvs q1;refine⟨a',bs,e1,e2,fun k es b p1 p2 p3=>?_⟩
   by_cases q2:k=i
   ·subst q2
    have eb:b=a:=by have:=(qs p3).1;simpa using this
    exact e3 (eb ▸ p2)
   ·rw [gf (gu q2)] at p1 p3
    exact e4 k es b p1 p2 p3
 o1 :=fun j k k1 k2 p1 p2=>by
  by_cases q:j=i
  ·subst q
   obtain⟨z,l⟩:=qs p1;cases z
  ·by_cases q2:k=i
   ·subst q2
    obtain⟨z,l⟩:=qs p2;cases z
   ·rw [gf (gu q)] at p1
    rw [gf (gu q2)] at p2;exact r.o1 j k k1 k2 p1 p2
theorem RS.wrt(r:RS K F0 H0 F H σ ρ){ds es:List D}{ys:List V}{a:Addr}{i:Nat}(h1 : ρ[i]? = some (some (.ow ds)))(h2 : σ[i]? = some (some (.ref a)))(h4:RepL K F es ys):
  RS K F0 H0 F (upd H a (.lst ys)) σ (ρ.set i (some (.ow es))):=by
 obtain⟨a',xs,e1,e2,e3,e4,e5⟩:=r.ow i ds h1;rw [h2] at e1;obtain rfl:a=a':=by simpa using e1
 have nF:∀b o,F b=some o->b≠a:=fun b o e z=>by subst z;rw [e3] at e;cases e
 exact {
  t0:=r.t0
  g :=⟨r.g.ff,⟨fun b o e=>by rw [qo (fun z=>by subst z;rw [e4] at e;cases e)];exact r.g.hh.lst b o e,fun b o e=>by rw [qo (fun z=>by subst z;rw [e4] at e;cases e)];exact r.g.hh.ext b o e,fun {b} e=>by
    by_cases z:b=a
    ·subst z;exact e4
    ·rw [qo z] at e;exact r.g.hh.free e,fun t=>(r.g.hh.tb t).upd (.inr ⟨_,e2⟩),fun b o e=>by rw [qo (fun z=>by subst z;rw [e4] at e;cases e)];exact r.g.hh.dk b o e⟩,fun b o e=>by rw [qo (nF b o e)];exact r.g.fh b o e,r.g.nw⟩
  len:=by rw [ni];exact r.len
  fz:=fun j e q1=>by
   by_cases q:j=i
   ·subst q
    obtain⟨z,l⟩:=qs q1;cases z
   ·rw [gf (gu q)] at q1
    exact r.fz j e q1
  ow :=fun j es' q1=>by
   by_cases q:j=i
   ·subst q
    obtain⟨z,l⟩:=qs q1;cases z;exact⟨a,ys,h2,qy,e3,e4,h4⟩
   ·rw [gf (gu q)] at q1
    obtain⟨b,zs,f1,f2,f3,f4,f5⟩:=r.ow j es' q1;have hb:b≠a:=fun z=>by
     subst z;exact r.dj i j ds es' b (gu q) h1 q1 h2 f1
    exact⟨b,zs,f1,by rw [qo hb];exact f2,f3,f4,f5⟩
  dj:=fun j k ds' es' b hjk q1 q2 q3=>by
   have back:∀(l:Nat) (us:List D),(ρ.set i (some (.ow es)))[l]? = some (some (.ow us))->∃ws, ρ[l]? = some (some (.ow ws)):=fun l us z=>by
    by_cases q:l=i
    ·subst q;exact⟨ds,h1⟩
    ·rw [gf (gu q)] at z;exact⟨us,z⟩
   obtain⟨w1,z1⟩:=back j ds' q1;obtain⟨w2,z2⟩:=back k es' q2;exact r.dj j k w1 w2 b hjk z1 z2 q3
  od:=fun j kvs q1=>by
   by_cases q:j=i
   ·subst q
    obtain⟨z,l⟩:=qs q1;cases z
   ·rw [gf (gu q)] at q1
    obtain⟨a',bs,f1,f2,f3⟩:=r.od j kvs q1;refine⟨a',bs,f1,f2.other (fun z=>by subst z;exact f2.nl e2) fun z=>f3 i ds a h1 z h2,fun k es' b p1 p2=>?_⟩
    by_cases q2:k=i
    ·subst q2;exact f3 k ds b h1 p2
    ·rw [gf (gu q2)] at p1;exact f3 k es' b p1 p2
  o1 :=fun j k k1 k2 p1 p2=>by
   have back:∀(l:Nat) (us),(ρ.set i (some (.ow es)))[l]? = some (some (.od us)) -> ρ[l]? = some (some (.od us)):=fun l us z=>by
    by_cases q:l=i
    ·subst q
     obtain⟨z',_⟩:=qs z;cases z'
    ·rw [gf (gu q)] at z;exact z
   exact r.o1 j k k1 k2 (back _ _ p1) (back _ _ p2)}
theorem RS.freeze(r:RS K F0 H0 F H σ ρ){ds:List D}{i:Nat}(h1 : ρ[i]? = some (some (.ow ds))): ∃F',Same F F'/\RS K F0 H0 F' H σ (ρ.set i (some (.fz (.lst ds)))):=by
 obtain⟨a,xs,e1,e2,e3,e4,e5⟩:=r.ow i ds h1;have sF:Same F (upd F a (.lst xs)):=q5a e3;refine⟨upd F a (.lst xs),sF,?_⟩;exact {
  t0:=r.t0
  g :=⟨r.g.ff.trans sF,r.g.hh,fun b o e=>by
    by_cases q:b=a
    ·subst q;rw [qy] at e;cases e;exact e2
    ·rw [qo q] at e;exact r.g.fh b o e,fun b hb=>by
    by_cases q:b=a
    ·subst q;exact .inr e4
    ·rw [qo q] at hb;exact r.g.nw b hb⟩
  len:=by rw [ni];exact r.len
  fz:=fun j e q1=>by
   by_cases q:j=i
   ·subst q
    obtain⟨z,l⟩:=qs q1;cases z;exact⟨_,e1,rep_lst.mpr ⟨a,xs,rfl,SqL.of qy,e5.mono sF⟩⟩
   ·rw [gf (gu q)] at q1
    obtain⟨v,z1,z2⟩:=r.fz j e q1;exact⟨v,z1,z2.mono sF⟩
  ow :=fun j es' q1=>by
   by_cases q:j=i
   ·subst q
    obtain⟨z,l⟩:=qs q1;cases z
   ·rw [gf (gu q)] at q1
    obtain⟨b,zs,f1,f2,f3,f4,f5⟩:=r.ow j es' q1;have hb:b≠a:=fun z=>by
     subst z;exact r.dj i j ds es' b (gu q) h1 q1 e1 f1
    exact⟨b,zs,f1,f2,by rw [qo hb];exact f3,f4,f5.mono sF⟩
  dj :=fun j k ds' es' b hjk q1 q2 q3=>by
   have back:∀(l:Nat) (us:List D),(ρ.set i (some (.fz (.lst ds))))[l]? = some (some (.ow us)) -> ρ[l]? = some (some (.ow us)):=fun l us z=>by
    by_cases q:l=i
    ·subst q
     obtain⟨z',_⟩:=qs z;cases z'
    ·rw [gf (gu q)] at z;exact z
   exact r.dj j k ds' es' b hjk (back _ _ q1) (back _ _ q2) q3
  od:=fun j kvs q1=>by
   by_cases q:j=i
   ·subst q
    obtain⟨z,l⟩:=qs q1;cases z
   ·rw [gf (gu q)] at q1
    obtain⟨a',bs,f1,f2,f3⟩:=r.od j kvs q1;refine⟨a',bs,f1,f2.otherF sF (fun z=>by subst z;exact f2.nl e2) fun z=>f3 i ds a h1 z e1,fun k es' b p1 p2=>?_⟩
    by_cases q2:k=i
    ·subst q2;exact f3 k ds b h1 p2
    ·rw [gf (gu q2)] at p1;exact f3 k es' b p1 p2
  o1 :=fun j k k1 k2 p1 p2=>by
   have back:∀(l:Nat) (us),(ρ.set i (some (.fz (.lst ds))))[l]? = some (some (.od us)) -> ρ[l]? = some (some (.od us)):=fun l us z=>by
    by_cases q:l=i
    ·subst q
     obtain⟨z',_⟩:=qs z;cases z'
    ·rw [gf (gu q)] at z;exact z
   exact r.o1 j k k1 k2 (back _ _ p1) (back _ _ p2)}
end
end DL
namespace DL
open PySem PySem.Spec PyProof.Rows L2
variable[Lam][Pin]
abbrev lim:Nat:=1000000
theorem q01{n:Nat}(h:n<=lim): n<=sizeLine:=mj h (by decide)
theorem qax{n:Nat}(h:n<lim): n<sizeLine:=m8 h (by decide)
abbrev FE:=Rho->Option D
abbrev FT:=Rho->Option Bool
abbrev FA:=Rho->Option (List D)
inductive Fl where
 | nx|bk|ct
 | rt (d:D)
abbrev FS:=Rho->Option (Fl×Rho)
def tD(K:Frag)(f:FE): TE:=fun σ H Q=>∃F0 H0 F ρ d,RS K F0 H0 F H σ ρ /\ f ρ = some d/\∀v F' H',Grow F H F' H'->Rep K F' d v->Q v H'
def tL(K:Frag)(f:FA): TE:=fun σ H Q=>∃F0 H0 F ρ ds,RS K F0 H0 F H σ ρ /\ f ρ = some ds/\∀a xs F' H',Grow F H F' H'->F' a=none->H a=none->H' a=some (.lst xs)->RepL K F' ds xs->Q (.ref a) H'
def tDT(K:Frag)(f:FT): TT:=fun σ H Q=>∃F0 H0 F ρ b,RS K F0 H0 F H σ ρ /\ f ρ = some b/\∀F' H',Grow F H F' H'->Q b H'
def tDA(K:Frag)(f:FA): TA:=fun σ H Q=>∃F0 H0 F ρ ds,RS K F0 H0 F H σ ρ /\ f ρ = some ds/\∀vs F' H',Grow F H F' H'->RepL K F' ds vs->Q vs H'
def qc8(K:Frag)(F0 H0 F:Hp)(D:Ends)(fl:Fl)(ρ':Rho): Prop:=match fl with
 | .nx=>∀ σ' F' H',Same F F'->RS K F0 H0 F' H' σ' ρ'->D.nx σ' H'
 | .bk=>∀ σ' F' H',Same F F'->RS K F0 H0 F' H' σ' ρ'->D.bk σ' H'
 | .ct=>∀ σ' F' H',Same F F'->RS K F0 H0 F' H' σ' ρ'->D.ct σ' H'
 | .rt d=>∀v σ' F' H',RS K F0 H0 F' H' σ' ρ'->Rep K F' d v->D.rt v H'
def tDS(K:Frag)(f:FS): TS:=fun D σ H=>∃F0 H0 F ρ fl ρ',RS K F0 H0 F H σ ρ /\ f ρ = some (fl, ρ')/\qc8 K F0 H0 F D fl ρ'
section
variable{X:Cx}{e:Expr}{pos:Pos}
theorem zl{t t':TE}(h:PE X e t)(i:∀ σ H Q,t' σ H Q->t σ H Q): PE X e t':=fun pins s σ H Q I q=>h pins s σ H Q I (i σ H Q q)
theorem q3e{t t':TT}(h:PT X e t)(i:∀ σ H Q,t' σ H Q->t σ H Q): PT X e t':=fun pins s σ H Q I q=>h pins s σ H Q I (i σ H Q q)
theorem q91{es:List Expr}{t t':TA}(h:PA X es t)(i:∀ σ H Q,t' σ H Q->t σ H Q): PA X es t':=fun pos pins s σ H Q I q=>h pos pins s σ H Q I (i σ H Q q)
theorem xq{st:Stmt}{t t':TS}(h:PS X st t)(i:∀D σ H,t' D σ H->t D σ H): PS X st t':=fun pins s σ H D I q=>h pins s σ H D I (i D σ H q)
theorem q78{st:List Stmt}{t t':TS}(h:PSs X st t)(i:∀D σ H,t' D σ H->t D σ H): PSs X st t':=fun pins s σ H D I q=>h pins s σ H D I (i D σ H q)
def eV(i:Nat): FE:=fun ρ =>match ρ[i]? with
 | some (some (.fz d))=>some d
 | _=>none
def eC(d:D): FE:=fun _=>some d
theorem qf6{i:Nat}{ρ : Rho}{d:D}(h:eV i ρ = some d): ρ[i]? = some (some (.fz d)):=by
 unfold eV at h
 split at h
 ·rename_i e;rw [e,mi h]
 ·cases h
theorem qc{K:Frag}{i:Nat}(h:PE X e (wo i)): PE X e (tD K (eV i)):=zl h fun σ H Q ⟨F0,H0,F, ρ,d,r,hf,q⟩=>by
 obtain⟨v,e1,e2⟩:=r.fz i d (qf6 hf);exact⟨v,e1,q v F H (.refl r.fh) e2⟩
theorem q3f{K:Frag}{v:V}{d:D}(h:PE X e (tC v))(hd:∀H,Rep K H d v): PE X e (tD K (eC d)):=zl h fun σ H Q ⟨F0,H0,F, ρ,d',r,hf,q⟩=>by
 cases hf;exact q v F H (.refl r.fh) (hd F)
theorem qi{K:Frag}{i j}: PE X (.Constant (.int i) j pos) (tD K (eC (.int i))):=q3f qn3 fun _=>rep_int.mpr rfl
theorem zr{K:Frag}{b j}: PE X (.Constant (.bool b) j pos) (tD K (eC (.bl b))):=q3f qpd fun _=>rep_bl.mpr rfl
theorem jz{K:Frag}{j}: PE X (.Constant .none j pos) (tD K (eC .non)):=q3f qn4 fun _=>rep_non.mpr rfl
theorem xa{K:Frag}{x j}: PE X (.Constant (.str x) j pos) (tD K (eC (.str x))):=q3f qn5 fun _=>rep_str.mpr rfl
def rD(K:Frag)(op:D->D->Option D): R2:=fun x y H Q=>∃F d1 d2 d,Same F H/\Rep K F d1 x/\Rep K F d2 y/\op d1 d2=some d/\∀v F' H',Grow F H F' H'->Rep K F' d v->Q v H'
def eOp(op:D->D->Option D)(f g:FE): FE:=fun ρ =>(f ρ).bind fun x=>(g ρ).bind fun y=>op x y
theorem two{K:Frag}{f g:FE}{op:D->D->Option D}{σ : St}{H:Hp}{Q:VK}(h:tD K (eOp op f g) σ H Q): tD K f σ H fun x H1=>tD K g σ H1 fun y H2=>rD K op x y H2 Q:=by
 obtain⟨F0,H0,F, ρ,d,r,hf,q⟩:=h;obtain⟨d1,h1,hf⟩:=g6.mp hf;obtain⟨d2,h2,h3⟩:=g6.mp hf;refine⟨F0,H0,F, ρ,d1,r,h1,fun v F1 H1 g1 r1=>⟨F0,H0,F1, ρ,d2,r.grow g1,h2,fun u F2 H2 g2 r2=>?_⟩⟩;exact⟨F2,d1,d2,d,g2.fh,r1.mono g2.ff,r2,h3,fun w F3 H3 g3 r3=>q w F3 H3 (g1.trans (g2.trans g3)) r3⟩
variable{a b:Expr}{f g:FE}
theorem qt{op:Operator}{o:D->D->Option D}(ho:OpR X (binaryOp op) (rD X.K o))(ha:PE X a (tD X.K f))(hb:PE X b (tD X.K g)): PE X (.BinOp a op b pos) (tD X.K (eOp o f g)):=
 zl (qpj ho ha hb) fun σ H Q h=>two h
theorem q4o{f:Value->Value->Sem Value}{r r':R2}(h:OpR X f r)(i:∀x y H Q,r' x y H Q->r x y H Q): OpR X f r':=fun pins s σ H x y v u Q I rx ry q=>h pins s σ H x y v u Q I rx ry (i x y H Q q)
theorem q6a{f:Value->Value->Sem Value}{K:Frag}{o o':D->D->Option D}(h:OpR X f (rD K o))(h':OpR X f (rD K o')): OpR X f (rD K fun x y=>(o x y).or (o' x y)):=fun pins s σ H x y v u Q I rx ry q=>by
 obtain⟨F,d1,d2,d,q1,q2,q3,q4,q5⟩:=q;have q4:(o d1 d2).or (o' d1 d2)=some d:=q4;cases e:o d1 d2 with
 | some d'=>rw [e] at q4;cases q4;exact h pins s σ H x y v u Q I rx ry ⟨F,d1,d2,_,q1,q2,q3,e,q5⟩
 | none=>rw [e] at q4;exact h' pins s σ H x y v u Q I rx ry ⟨F,d1,d2,d,q1,q2,q3,q4,q5⟩
def oI(C:Int->Int->Bool)(z:Int->Int->Int): D->D->Option D
 | .int i,.int j=>if C i j then some (.int (z i j)) else none
 | _,_=>none
def oB(z:Int->Int->Bool): D->D->Option D
 | .int i,.int j=>some (.bl (z i j))
 | _,_=>none
theorem qa1{C:Int->Int->Bool}{z:Int->Int->Int}{d1 d2 d:D}(h:oI C z d1 d2=some d): ∃i j,d1=.int i/\d2=.int j/\C i j=true/\d=.int (z i j):=by
 cases d1 <;> cases d2 <;> simp only [oI] at h <;> first|(cases h;done)|skip
 split at h
 ·exact⟨_,_,rfl,rfl,by assumption,(mi h).symm⟩
 ·cases h
theorem qm0{z:Int->Int->Bool}{d1 d2 d:D}(h:oB z d1 d2=some d): ∃i j,d1=.int i/\d2=.int j/\d=.bl (z i j):=by
 cases d1 <;> cases d2 <;> simp only [oB] at h <;> first|(cases h;done)|skip
 exact⟨_,_,rfl,rfl,(mi h).symm⟩
theorem qc9{fv:Value->Value->Sem Value}{P:Int->Int->Prop}{C:Int->Int->Bool}{z:Int->Int->Int}(h:OpR X fv (rI P fun i j=>.int (z i j)))(hC:∀i j,C i j=true->P i j): OpR X fv (rD X.K (oI C z)):=
 q4o h fun x y H Q ⟨F,d1,d2,d,q1,q2,q3,q4,q5⟩=>by
  obtain⟨i,j,rfl,rfl,c,rfl⟩:=qa1 q4;exact⟨i,j,rep_int.mp q2,rep_int.mp q3,hC i j c,q5 _ F H (.refl q1) (rep_int.mpr rfl)⟩
theorem qho{fv:Value->Value->Sem Value}{z:Int->Int->Int}(h:OpR X fv (rI0 fun i j=>.int (z i j))): OpR X fv (rD X.K (oI (fun _ _=>true) z)):=
 q4o h fun x y H Q ⟨F,d1,d2,d,q1,q2,q3,q4,q5⟩=>by
  obtain⟨i,j,rfl,rfl,c,rfl⟩:=qa1 q4;exact⟨i,j,rep_int.mp q2,rep_int.mp q3,q5 _ F H (.refl q1) (rep_int.mpr rfl)⟩
theorem q92{fv:Value->Value->Sem Value}{z:Int->Int->Bool}(h:OpR X fv (rI0 fun i j=>.bl (z i j))): OpR X fv (rD X.K (oB z)):=
 q4o h fun x y H Q ⟨F,d1,d2,d,q1,q2,q3,q4,q5⟩=>by
  obtain⟨i,j,rfl,rfl,rfl⟩:=qm0 q4;exact⟨i,j,rep_int.mp q2,rep_int.mp q3,q5 _ F H (.refl q1) (rep_bl.mpr rfl)⟩
abbrev oAdd:=oI (fun _ _=>true) fun i j=>i+j
abbrev oSub:=oI (fun _ _=>true) fun i j=>i-j
abbrev oMul:=oI (fun i j=>(decide (-(2 ^ 64)<i)&&decide (i<2 ^ 64)) || (decide (-(2 ^ 64)<j)&&decide (j<2 ^ 64))) fun i j=>i*j
abbrev oDiv:=oI (fun _ j=>decide (0<j)&&decide (j<1073741824)) fun i j=>i / j
abbrev oMod:=oI (fun _ j=>decide (0<j)) fun i j=>i%j
theorem q1x{p q:Prop}[Decidable p][Decidable q](h:(decide p&&decide q)=true): p/\q:=by simpa using h
theorem qnx:OpR X (binaryOp .Add) (rD X.K oAdd):=qho qnf
theorem q3g:OpR X (binaryOp .Sub) (rD X.K oSub):=qho qng
theorem qny:OpR X (binaryOp .Mult) (rD X.K oMul):=qc9 qnh fun i j h=>by
 rcases g0x _ _ ▸ h with z|z
 ·exact .inl (q1x z)
 ·exact .inr (q1x z)
theorem qcp:OpR X (binaryOp .FloorDiv) (rD X.K oDiv):=qc9 qlq fun i j h=>q1x h
theorem xc:OpR X (binaryOp .Mod) (rD X.K oMod):=qc9 qni fun i j h=>u6 h
abbrev oPow:=oI (fun i j=>decide (0<=j)&&(decide (j<=1000000)&&decide (i.natAbs<2 ^ 64))) fun i j=>i ^ j.toNat
theorem qjr{p q r:Prop}[Decidable p][Decidable q][Decidable r](h:(decide p&&(decide q&&decide r))=true): p/\q/\r:=by simpa using h
theorem q0q:OpR X (binaryOp .Pow) (rD X.K oPow):=qc9 qnj fun i j h=>qjr h
abbrev oLt:=oB fun i j=>decide (i<j)
abbrev oLe:=oB fun i j=>decide (i<=j)
abbrev oGt:=oB fun i j=>decide (j<i)
abbrev oGe:=oB fun i j=>decide (j<=i)
theorem qpx:OpR X (compareOp .Lt) (rD X.K oLt):=q92 qpm
theorem ql4:OpR X (compareOp .LtE) (rD X.K oLe):=q92 qpn
theorem ql5:OpR X (compareOp .Gt) (rD X.K oGt):=q92 qpo
theorem qca:OpR X (compareOp .GtE) (rD X.K oGe):=q92 qpp
def flD:D->Option V
 | .non=>some .non
 | .bl b=>some (.bl b)
 | .int i=>some (.int i)
 | .str x=>some (.str x)
 | _=>none
theorem q79{K:Frag}{H:Hp}{d:D}{v u:V}(h:flD d=some u)(r:Rep K H d v): v=u:=by
 cases d <;> simp only [flD] at h <;> first|(cases h;done)|skip
 ·cases h;exact rep_non.mp r
 ·cases h;exact rep_bl.mp r
 ·cases h;exact rep_int.mp r
 ·cases h;exact rep_str.mp r
def qjs:D->D->Option D:=fun d e=>(flD d).bind fun x=>(flD e).bind fun y=>if q9w x y then some (.bl (decide (x=y))) else none
def qa2:D->D->Option D:=fun d e=>(flD d).bind fun x=>(flD e).bind fun y=>if q9w x y then some (.bl (!decide (x=y))) else none
theorem qnz:OpR X (compareOp .Eq) (rD X.K qjs):=q4o qpk fun x y H Q ⟨F,d1,d2,d,q1,q2,q3,q4,q5⟩=>by
 obtain⟨u,h1,q4⟩:=g6.mp q4;obtain⟨w,h2,q4⟩:=g6.mp q4;cases q79 h1 q2;cases q79 h2 q3
 split at q4
 ·rename_i z
  cases q4;exact⟨z,q5 _ F H (.refl q1) (rep_bl.mpr rfl)⟩
 ·cases q4
theorem qhp:OpR X (compareOp .NotEq) (rD X.K qa2):=q4o qpl fun x y H Q ⟨F,d1,d2,d,q1,q2,q3,q4,q5⟩=>by
 obtain⟨u,h1,q4⟩:=g6.mp q4;obtain⟨w,h2,q4⟩:=g6.mp q4;cases q79 h1 q2;cases q79 h2 q3
 split at q4
 ·rename_i z
  cases q4;exact⟨z,q5 _ F H (.refl q1) (rep_bl.mpr rfl)⟩
 ·cases q4
theorem q4p{op:CmpOp}{o:D->D->Option D}(ho:OpR X (compareOp op) (rD X.K o))(ha:PE X a (tD X.K f))(hb:PE X b (tD X.K g))(hm:behindInMarks op b=false:=by first|exact q57 _ (by decide) (by decide)|rfl):
  PE X (.Compare a [op] [b] pos) (tD X.K (eOp o f g)):=zl (qf0 ho ha hb hm) fun σ H Q h=>two h
def q8b:D->Option Bool
 | .non=>some false
 | .bl b=>some b
 | .int i=>some (i != 0)
 | .tup ds=>some (!ds.isEmpty)
 | .lst ds=>some (!ds.isEmpty)
 | .str x=>if x.length<=lim then some ((x.length:Int) != 0) else none
 | _=>none
def bT(f:FE): FT:=fun ρ =>(f ρ).bind q8b
theorem qhq{K:Frag}{F H:Hp}{d:D}{b:Bool}{v:V}(h:q8b d=some b)(fh:Same F H)(r:Rep K F d v): qja K v H b:=by
 cases d with
 | non=>cases h;rw [rep_non.mp r];rfl
 | bl c=>cases h;rw [rep_bl.mp r];rfl
 | int i=>cases h;rw [rep_int.mp r];rfl
 | str x=>
  simp only [q8b] at h
  split at h
  ·rename_i z
   cases h;rw [rep_str.mp r];exact⟨q01 z,rfl⟩
  ·cases h
 | tup ds=>
  cases h;obtain⟨p,xs,rfl,q1,q2⟩:=rep_tup.mp r;refine .inr (.inl ⟨xs,qz fh q1,?_⟩);cases ds with
  | nil=>rw [q2.nil_inv];rfl
  | cons d ds=>obtain⟨y,r',rfl,_⟩:=q2.cons_inv;rfl
 | lst ds=>
  cases h;obtain⟨p,xs,rfl,q1,q2⟩:=rep_lst.mp r;refine .inl ⟨xs,fh.seq q1,?_⟩;cases ds with
  | nil=>rw [q2.nil_inv];rfl
  | cons d ds=>obtain⟨y,r',rfl,_⟩:=q2.cons_inv;rfl
 | dct _ _=>cases h
 | dtt _ _=>cases h
 | obj _=>cases h
 | exc _ _=>cases h
theorem ja(ha:PE X a (tD X.K f))(he:∀whole,isTrue a X.env whole=(do let v <- whole;standAt a.pos;holding [v] (truthy v)):=by intro _;rfl): PT X a (tDT X.K (bT f)):=
 q3e (qcj ha he) fun σ H Q ⟨F0,H0,F, ρ,b,r,hf,q⟩=>by
  obtain⟨d,h1,h2⟩:=g6.mp hf;exact⟨F0,H0,F, ρ,d,r,h1,fun v F' H' g' r'=>⟨b,qhq h2 g'.fh r',q F' H' g'⟩⟩
def isB:D->Option Bool
 | .bl b=>some b
 | _=>none
def j9(o:D->D->Option D)(f g:FE): FT:=fun ρ =>(eOp o f g ρ).bind isB
theorem ji{op:CmpOp}{o:D->D->Option D}(ho:OpR X (compareOp op) (rD X.K o))(ha:PE X a (tD X.K f))(hb:PE X b (tD X.K g))(hm:behindInMarks op b=false:=by first|exact q57 _ (by decide) (by decide)|rfl):
  PT X (.Compare a [op] [b] pos) (tDT X.K (j9 o f g)):=q3e (qf1 ho ha hb hm) fun σ H Q ⟨F0,H0,F, ρ,c,r,hf,q⟩=>by
 obtain⟨d,h1,h2⟩:=g6.mp hf;refine two ⟨F0,H0,F, ρ,d,r,h1,fun v F' H' g' r'=>?_⟩;cases d <;> simp only [isB] at h2 <;> first|(cases h2;done)|skip
 cases h2;exact⟨_,rep_bl.mp r',q F' H' g'⟩
def xl(t:FT): FT:=fun ρ =>(t ρ).map not
def q1y(t u:FT): FT:=fun ρ =>(t ρ).bind fun c=>if c then u ρ else some false
def bOr(t u:FT): FT:=fun ρ =>(t ρ).bind fun c=>if c then some true else u ρ
variable{t u:FT}{rest:List Expr}
theorem v8(ha:PT X a (tDT X.K t)): PT X (.UnaryOp .Not a pos) (tDT X.K (xl t)):=q3e (qh5 ha) fun σ H Q ⟨F0,H0,F, ρ,c,r,hf,q⟩=>by
 obtain⟨d,h1,h2⟩:=gi.mp hf;subst h2;exact⟨F0,H0,F, ρ,d,r,h1,fun F' H' g'=>q F' H' g'⟩
theorem q93{t t':TT}(h:PW X a t)(i:∀ σ H Q,t' σ H Q->t σ H Q): PW X a t':=fun wh pins s σ H Q I q=>h wh pins s σ H Q I (i σ H Q q)
theorem q7a(ha:PT X a (tDT X.K t)): PW X (.BoolOp .And [a] pos) (tDT X.K t):=qew ha
theorem q6b(ha:PT X a (tDT X.K t)): PW X (.BoolOp .Or [a] pos) (tDT X.K t):=qh3 ha
theorem q94(ha:PT X a (tDT X.K t))(hb:PW X (.BoolOp .And (b :: rest) pos) (tDT X.K u)): PW X (.BoolOp .And (a :: b :: rest) pos) (tDT X.K (q1y t u)):=q93 (qh4 ha hb) fun σ H Q ⟨F0,H0,F, ρ,c,r,hf,q⟩=>by
 obtain⟨d,h1,h2⟩:=g6.mp hf;refine⟨F0,H0,F, ρ,d,r,h1,fun F' H' g'=>?_⟩;cases d with
 | true=>rw [gr rfl] at h2 ⊢;exact⟨F0,H0,F', ρ,c,r.grow g',h2,fun F2 H2 g2=>q F2 H2 (g'.trans g2)⟩
 | false=>rw [gy gp] at h2 ⊢;cases h2;exact q F' H' g'
theorem q7b(ha:PT X a (tDT X.K t))(hb:PW X (.BoolOp .Or (b :: rest) pos) (tDT X.K u)): PW X (.BoolOp .Or (a :: b :: rest) pos) (tDT X.K (bOr t u)):=q93 (ql1 ha hb) fun σ H Q ⟨F0,H0,F, ρ,c,r,hf,q⟩=>by
 obtain⟨d,h1,h2⟩:=g6.mp hf;refine⟨F0,H0,F, ρ,d,r,h1,fun F' H' g'=>?_⟩;cases d with
 | false=>rw [gy gp] at h2 ⊢;exact⟨F0,H0,F', ρ,c,r.grow g',h2,fun F2 H2 g2=>q F2 H2 (g'.trans g2)⟩
 | true=>rw [gr rfl] at h2 ⊢;cases h2;exact q F' H' g'
def q1z(f g:FE): FE:=fun ρ =>(f ρ).bind fun x=>(isB x).bind fun c=>if c then g ρ else some (.bl false)
def eOr(f g:FE): FE:=fun ρ =>(f ρ).bind fun x=>(isB x).bind fun c=>if c then some (.bl true) else g ρ
def qcq(f:FE): FE:=fun ρ =>(f ρ).bind fun x=>(isB x).map fun c=>.bl (!c)
def eIf(t:FT)(f g:FE): FE:=fun ρ =>(t ρ).bind fun c=>if c then f ρ else g ρ
theorem q8c{d:D}{c:Bool}(h:isB d=some c): d=.bl c:=by
 cases d <;> simp only [isB] at h <;> first|(cases h;done)|skip
 rw [mi h]
theorem q6c{op}(h:PE X a (tD X.K f)): PE X (.BoolOp op [a] pos) (tD X.K f):=qn6 h
theorem q4q(ha:PE X a (tD X.K f))(hb:PE X (.BoolOp .And (b :: rest) pos) (tD X.K g)): PE X (.BoolOp .And (a :: b :: rest) pos) (tD X.K (q1z f g)):=zl (qn7 ha hb) fun σ H Q ⟨F0,H0,F, ρ,d,r,hf,q⟩=>by
 obtain⟨x,h1,hf⟩:=g6.mp hf;obtain⟨c,h2,h3⟩:=g6.mp hf;refine⟨F0,H0,F, ρ,x,r,h1,fun v F' H' g' r'=>?_⟩;rw [q8c h2] at r';refine⟨c,rep_bl.mp r',?_⟩;cases c with
 | true=>rw [gr rfl] at h3 ⊢;exact⟨F0,H0,F', ρ,d,r.grow g',h3,fun w F2 H2 g2 r2=>q w F2 H2 (g'.trans g2) r2⟩
 | false=>rw [gy gp] at h3 ⊢;cases h3;exact q _ F' H' g' (rep_bl.mpr rfl)
theorem qo0(ha:PE X a (tD X.K f)): PE X (.UnaryOp .Not a pos) (tD X.K (qcq f)):=zl (qn8 ha) fun σ H Q ⟨F0,H0,F, ρ,d,r,hf,q⟩=>by
 obtain⟨x,h1,hf⟩:=g6.mp hf;obtain⟨c,h2,h3⟩:=gi.mp hf;subst h3;refine⟨F0,H0,F, ρ,x,r,h1,fun v F' H' g' r'=>?_⟩;rw [q8c h2] at r';exact⟨c,rep_bl.mp r',q _ F' H' g' (rep_bl.mpr rfl)⟩
theorem ql6{c:Expr}(hc:PT X c (tDT X.K t))(ha:PE X a (tD X.K f))(hb:PE X b (tD X.K g)): PE X (.IfExp c a b pos) (tD X.K (eIf t f g)):=zl (qj5 hc ha hb) fun σ H Q ⟨F0,H0,F, ρ,d,r,hf,q⟩=>by
 obtain⟨x,h1,h2⟩:=g6.mp hf;refine⟨F0,H0,F, ρ,x,r,h1,fun F' H' g'=>?_⟩;cases x with
 | true=>rw [gr rfl] at h2 ⊢;exact⟨F0,H0,F', ρ,d,r.grow g',h2,fun w F2 H2 g2 r2=>q w F2 H2 (g'.trans g2) r2⟩
 | false=>rw [gy gp] at h2 ⊢;exact⟨F0,H0,F', ρ,d,r.grow g',h2,fun w F2 H2 g2 r2=>q w F2 H2 (g'.trans g2) r2⟩
end
section
variable{X:Cx}{e:Expr}{es:List Expr}{pos:Pos}{f g:FE}{fa:FA}
def notStar:Expr->Bool
 | .Starred _ _=>false
 | _=>true
theorem q1b{e:Expr}{es:List Expr}{env:Env}(h:notStar e=true): starEach (e :: es) env=(false,eval e env) :: starEach es env:=by
 cases e <;> first|rfl|cases h
def qh:FA:=fun _=>some []
def qa(f:FE)(fa:FA): FA:=fun ρ =>(f ρ).bind fun d=>(fa ρ).map fun ds=>d :: ds
theorem qf:PA X [] (tDA X.K qh):=q91 w8 fun σ H Q ⟨F0,H0,F, ρ,ds,r,hf,q⟩=>by
 cases hf;exact q [] F H (.refl r.fh) .nil
theorem q7c(ha:PE X e (tD X.K f))(hr:PA X es (tDA X.K fa))(hs:starEach (e :: es) X.env=(false,eval e X.env) :: starEach es X.env:=by first|exact q1b rfl|rfl): PA X (e :: es) (tDA X.K (qa f fa)):=
 q91 (zm ha hr hs) fun σ H Q ⟨F0,H0,F, ρ,ds,r,hf,q⟩=>by
  obtain⟨d,h1,hf⟩:=g6.mp hf;obtain⟨ds',h2,h3⟩:=gi.mp hf;subst h3;refine⟨F0,H0,F, ρ,d,r,h1,fun v F1 H1 g1 r1=>⟨F0,H0,F1, ρ,ds',r.grow g1,h2,fun vs F2 H2 g2 r2=>?_⟩⟩;exact q _ F2 H2 (g1.trans g2) (.cons (r1.mono g2.ff) r2)
def za(fa:FA): FE:=fun ρ =>(fa ρ).bind fun ds=>if ds.length<=lim then some (.tup ds) else none
def jm(fa:FA): FA:=fun ρ =>(fa ρ).bind fun ds=>if ds.length<=lim then some ds else none
theorem qw{x1}(h:PA X es (tDA X.K fa)): PE X (.Tuple es x1 pos) (tD X.K (za fa)):=zl (qhf h) fun σ H Q ⟨F0,H0,F, ρ,d,r,hf,q⟩=>by
 obtain⟨ds,h1,h2⟩:=g6.mp hf
 split at h2
 ·rename_i hl
  cases h2;refine⟨F0,H0,F, ρ,ds,r,h1,fun vs F1 H1 g1 r1=>⟨q01 (by rw [<- r1.length];exact hl),fun p hp=>?_⟩⟩;have gn:Grow F1 H1 (upd F1 p (.tup vs)) (upd H1 p (.tup vs)):=Grow.new g1.fh hp;exact q _ _ _ (g1.trans gn) (rep_tup.mpr ⟨p,vs,rfl,SqT.of qy,r1.mono gn.ff⟩)
 ·cases h2
theorem zw(h:PA X es (tDA X.K fa)): PE X (.List es pos) (tL X.K (jm fa)):=zl (qnn h) fun σ H Q ⟨F0,H0,F, ρ,ds,r,hf,q⟩=>by
 obtain⟨ds',h1,h2⟩:=g6.mp hf
 split at h2
 ·rename_i hl
  cases h2;refine⟨F0,H0,F, ρ,ds,r,h1,fun vs F1 H1 g1 r1=>⟨q01 (by rw [<- r1.length];exact hl),fun p hp=>?_⟩⟩;exact q p vs F1 (upd H1 p (.lst vs)) (g1.trans (Grow.own g1.fh hp)) (g1.fh.free hp) (g1.hh.free hp) qy r1
 ·cases h2
def eL(fa:FA): FE:=fun ρ =>(fa ρ).map .lst
theorem xr(h:PE X e (tL X.K fa)): PE X e (tD X.K (eL fa)):=zl h fun σ H Q ⟨F0,H0,F, ρ,d,r,hf,q⟩=>by
 obtain⟨ds,h1,h2⟩:=gi.mp hf;subst h2;refine⟨F0,H0,F, ρ,ds,r,h1,fun a xs F1 H1 g1 fa' ha' hl r1=>?_⟩;have sF:Same F1 (upd F1 a (.lst xs)):=q5a fa';refine q _ (upd F1 a (.lst xs)) H1 ⟨g1.ff.trans sF,g1.hh,fun b o z=>?_,fun b hb=>?_⟩ (rep_lst.mpr ⟨a,xs,rfl,SqL.of qy,r1.mono sF⟩)
 ·by_cases q':b=a
  ·subst q';rw [qy] at z;cases z;exact hl
  ·rw [qo q'] at z;exact g1.fh b o z
 ·by_cases q':b=a
  ·subst q';exact .inr ha'
  ·rw [qo q'] at hb;exact g1.nw b hb
def rC(K:Frag)(op:List D->Option D): List V->Hp->VK->Prop:=fun xs H Q=>∃F ds d,Same F H/\RepL K F ds xs/\op ds=some d/\∀v F' H',Grow F H F' H'->Rep K F' d v->Q v H'
def qm(op:List D->Option D)(fa:FA): FE:=fun ρ =>(fa ρ).bind op
theorem q42{f:Value}{r r':List V->Hp->VK->Prop}(h:vh X f r)(i:∀xs H Q,r' xs H Q->r xs H Q): vh X f r':=fun pins s σ H xs us Q I rv q=>h pins s σ H xs us Q I rv (i xs H Q q)
theorem qhr{K:Frag}{op:List D->Option D}{σ : St}{H:Hp}{Q:VK}(h:tD K (qm op fa) σ H Q): tDA K fa σ H fun vs H1=>rC K op vs H1 Q:=by
 obtain⟨F0,H0,F, ρ,d,r,hf,q⟩:=h;obtain⟨ds,h1,h2⟩:=g6.mp hf;exact⟨F0,H0,F, ρ,ds,r,h1,fun vs F1 H1 g1 r1=>⟨F1,ds,d,g1.fh,r1,h2,fun v F2 H2 g2 r2=>q v F2 H2 (g1.trans g2) r2⟩⟩
theorem vz{x:Str}{p:Pos}{id:String}{op:List D->Option D}(hc:vh X (.builtin id) (rC X.K op))(hg:Gl X x)(hm:X.mg x=none)(hv:bootBuiltins x=some (.builtin id))(ha:PA X (e :: es) (tDA X.K fa))
  (hn:x≠"__name__" :=by decide) (hdb:(x==("__debug__" : Str))=false:=by decide)
  (he:starEach (e :: es) X.env=(false,eval e X.env) :: starEach es X.env:=by rfl) (hpl:(backTo pos (starEach es X.env)).any (·.1)=false:=by rfl):PE X (.Call (.Name x p) (e :: es) [] pos) (tD X.K (qm op fa)):=
 zl (q1w hc hg hm hv ha hn hdb he hpl) fun σ H Q h=>qhr h
theorem q6d{x:Str}{p:Pos}{T:String}{op:List D->Option D}(hc:vh X (.type T) (rC X.K op))(hg:Gl X x)(hm:X.mg x=none)(hv:bootBuiltins x=some (.type T))(ha:PA X (e :: es) (tDA X.K fa))
  (hn:x≠"__name__" :=by decide) (hdb:(x==("__debug__" : Str))=false:=by decide)
  (he:starEach (e :: es) X.env=(false,eval e X.env) :: starEach es X.env:=by rfl) (hpl:(backTo pos (starEach es X.env)).any (·.1)=false:=by rfl):PE X (.Call (.Name x p) (e :: es) [] pos) (tD X.K (qm op fa)):=
 zl (qhh hc hg hm hv ha hn hdb he hpl) fun σ H Q h=>qhr h
def spD(K:Frag)(ar:Nat)(op:List D->Option D): Sp:=fun vs H Q _=>∃F ds d,SameT F H/\RepL K F ds vs/\ds.length=ar/\op ds=some d/\∀v F' H',Grow F H F' H'->Rep K F' d v->Q v H'
def qq(ar:Nat)(dds:List D)(op:List D->Option D): List D->Option D:=fun ds=>if(ds++dds).length=ar then op (ds++dds) else none
theorem qm1{k ar:Nat}{fn:Addr}{fd:FuncData}{ps:List Str}{op:List D->Option D}{x:Str}{p:Pos}{dvs:List V}{dds:List D}{dv:List Value}(F:FnOk X.prog X.w X.K X.mg X.base CX0 k fn fd ps (spD X.K ar op))(hr:Room k X.A)(hg:Gl X x)(hm:X.mg x=some (.ref fn))(hk:PySem.W.keepIn X.K (.ref fn)=true)
  (hb:Binds X.K fd ps dv) (hd:Vals dvs dv) (hdd:∀H,RepL X.K H dds dvs) (ha:PA X (e :: es) (tDA X.K fa)) (hdb:(x==("__debug__" : Str))=false:=by decide)
  (he:starEach (e :: es) X.env=(false,eval e X.env) :: starEach es X.env:=by rfl) (hpl:(backTo pos (starEach es X.env)).any (·.1)=false:=by rfl) :
  PE X (.Call (.Name x p) (e :: es) [] pos) (tD X.K (qm (qq ar dds op) fa)):=
 zl (q77 F hr hg hm hk hb hd q59 ha hdb he hpl) fun σ H Q ⟨F0,H0,Fz, ρ,d,r,hf,q⟩=>by
  obtain⟨ds,h1,h2⟩:=g6.mp hf;unfold qq at h2
  split at h2
  ·rename_i hl
   exact⟨F0,H0,Fz, ρ,ds,r,h1,fun vs F1 H1 g1 r1=>⟨F1,ds++dds,d,r.sameT g1,r1.append (hdd F1),hl,h2,fun v F2 H2 g2 r2=>q v F2 H2 (g1.trans g2) r2⟩⟩
  ·cases h2
end
section
variable{X:Cx}{st:Stmt}{rest:List Stmt}{e:Expr}{pos:Pos}{f:FE}{fa:FA}{t:FT}{u w:FS}
def zo:FS:=fun ρ =>some (.nx, ρ)
def qu(u w:FS): FS:=fun ρ =>(u ρ).bind fun r=>match r with
 | (.nx, ρ')=>w ρ'
 | (fl, ρ')=>some (fl, ρ')
def sIf(t:FT)(u w:FS): FS:=fun ρ =>(t ρ).bind fun c=>if c then u ρ else w ρ
def j5(i:Nat)(f:FE): FS:=fun ρ =>(f ρ).map fun d=>(.nx, ρ.set i (some (.fz d)))
def q6e(i:Nat)(fa:FA): FS:=fun ρ =>(fa ρ).map fun ds=>(.nx, ρ.set i (some (.ow ds)))
def zj(f:FE): FS:=fun ρ =>(f ρ).map fun d=>(.rt d, ρ)
def qpy:FS:=fun ρ =>some (.rt .non, ρ)
def qr6:FS:=fun ρ =>some (.bk, ρ)
def qr7:FS:=fun ρ =>some (.ct, ρ)
def qpz(f:FE): FS:=fun ρ =>(f ρ).map fun _=>(.nx, ρ)
theorem z7:PSs X [] (tDS X.K zo):=q78 qln fun D σ H ⟨F0,H0,F, ρ,fl, ρ',r,hf,q⟩=>by
 cases hf;exact q σ F H (.refl _) r
theorem q0z{K:Frag}{F0 H0 F F':Hp}{D:Ends}{fl:Fl}{ρ':Rho}(s:Same F F')(h:qc8 K F0 H0 F D fl ρ'): qc8 K F0 H0 F' D fl ρ':=by
 cases fl with
 | nx=>exact fun σ' F2 H2 s2 r=>h σ' F2 H2 (s.trans s2) r
 | bk=>exact fun σ' F2 H2 s2 r=>h σ' F2 H2 (s.trans s2) r
 | ct=>exact fun σ' F2 H2 s2 r=>h σ' F2 H2 (s.trans s2) r
 | rt d=>exact h
theorem qk(h1:PS X st (tDS X.K u))(h2:PSs X rest (tDS X.K w)): PSs X (st :: rest) (tDS X.K (qu u w)):=q78 (qci h1 h2) fun D σ H ⟨F0,H0,F, ρ,fl, ρ',r,hf,q⟩=>by
 obtain⟨⟨fl1, ρ1⟩,h3,h4⟩:=g6.mp hf;refine⟨F0,H0,F, ρ,fl1, ρ1,r,h3,?_⟩;cases fl1 with
 | nx=>exact fun σ' F' H' s r'=>⟨F0,H0,F', ρ1,fl, ρ',r',h4,q0z s q⟩
 | bk=>cases h4;exact q
 | ct=>cases h4;exact q
 | rt d=>cases h4;exact q
theorem ql(h1:PS X st (tDS X.K u)): PSs X [st] (tDS X.K u):=q9v h1
theorem jg{c:Expr}{a b:List Stmt}(hc:PT X c (tDT X.K t))(ha:PSs X a (tDS X.K u))(hb:PSs X b (tDS X.K w)): PS X (.If c a b pos) (tDS X.K (sIf t u w)):=xq (qc4 hc ha hb) fun D σ H ⟨F0,H0,F, ρ,fl, ρ',r,hf,q⟩=>by
 obtain⟨c,h1,h2⟩:=g6.mp hf;refine⟨F0,H0,F, ρ,c,r,h1,fun F' H' g'=>?_⟩;cases c with
 | true=>rw [gr rfl] at h2 ⊢;exact⟨F0,H0,F', ρ,fl, ρ',r.grow g',h2,q0z g'.ff q⟩
 | false=>rw [gy gp] at h2 ⊢;exact⟨F0,H0,F', ρ,fl, ρ',r.grow g',h2,q0z g'.ff q⟩
theorem z0(he:PE X e (tD X.K f)): PS X (.Return (some e) pos) (tDS X.K (zj f)):=xq (qh6 he) fun D σ H ⟨F0,H0,F, ρ,fl, ρ',r,hf,q⟩=>by
 obtain⟨d,h1,h2⟩:=gi.mp hf;cases h2;exact⟨F0,H0,F, ρ,d,r,h1,fun v F' H' g' r'=>q v σ F' H' (r.grow g') r'⟩
theorem qq0{K:Frag}{i:Nat}{D:Ends}{σ : St}{H:Hp}(h:tDS K (j5 i f) D σ H): tD K f σ H fun x H1=>qc5 i x σ H1 D.nx:=by
 obtain⟨F0,H0,F, ρ,fl, ρ',r,hf,q⟩:=h;obtain⟨d,h1,h2⟩:=gi.mp hf;cases h2;exact⟨F0,H0,F, ρ,d,r,h1,fun v F' H' g' r'=>q _ F' H' g'.ff ((r.grow g').set i r')⟩
theorem qq1{K:Frag}{i:Nat}{D:Ends}{σ : St}{H:Hp}(h:tDS K (q6e i fa) D σ H): tL K fa σ H fun x H1=>qc5 i x σ H1 D.nx:=by
 obtain⟨F0,H0,F, ρ,fl, ρ',r,hf,q⟩:=h;obtain⟨ds,h1,h2⟩:=gi.mp hf;cases h2;refine⟨F0,H0,F, ρ,ds,r,h1,fun a xs F' H' g' fa' ha' hl r'=>q _ F' H' g'.ff ((r.grow g').setO i hl fa' (r.g.hh.free ha') r' (fun j es z1 z2=>?_) fun j kvs z1=>?_)⟩
 ·obtain⟨b,ys,e1,e2,_⟩:=r.ow j es z1
  rw [z2] at e1;obtain rfl:a=b:=by simpa using e1
  rw [ha'] at e2;cases e2
 ·obtain⟨b,bs,e1,e2,e3⟩:=r.od j kvs z1
  refine⟨b,bs,e1,e2.grow g',fun z=>?_,e3⟩;obtain⟨xs,f,_⟩:=e2.mem z;rw [ha'] at f;cases f
theorem j6{i:Nat}{x:Str}{px:Pos}(hN:X.N.Nodup)(hi:X.N[i]? = some x)(hx:Loc X.env.scope x)(he:PE X e (tD X.K f))(hs:swapsWith e (some (.Name x px)) pos.line X.env=pure false:=by rfl)(hf:X.fn x=true\/X.env.scope.names.lookup x=some .local:=by first|exact .inl rfl|exact .inr rfl|assumption):
  PS X (.Assign [.Name x px] e pos) (tDS X.K (j5 i f)):=xq (q8w hN hi hx he hs hf) fun D σ H h=>qq0 h
theorem qcr{i:Nat}{x:Str}{px:Pos}(hN:X.N.Nodup)(hi:X.N[i]? = some x)(hx:Loc X.env.scope x)(he:PE X e (tL X.K fa))(hs:swapsWith e (some (.Name x px)) pos.line X.env=pure false:=by rfl)(hf:X.fn x=true\/X.env.scope.names.lookup x=some .local:=by first|exact .inl rfl|exact .inr rfl|assumption):
  PS X (.Assign [.Name x px] e pos) (tDS X.K (q6e i fa)):=xq (q8w hN hi hx he hs hf) fun D σ H h=>qq1 h
def qge(i:Nat)(ρ : Rho): Option (List D):=match ρ[i]? with
 | some (some (.ow ds))=>some ds
 | _=>none
theorem qhs{i:Nat}{ρ : Rho}{ds:List D}(h:qge i ρ = some ds): ρ[i]? = some (some (.ow ds)):=by
 unfold qge at h
 split at h
 ·rename_i e;rw [e,mi h]
 ·cases h
def q4e(i:Nat)(f:FE): FS:=fun ρ =>(qge i ρ).bind fun ds=>(f ρ).bind fun d=>if ds.length<lim then some (.nx, ρ.set i (some (.ow (ds++[d])))) else none
theorem q3h{i:Nat}{x:Str}{px apos cpos:Pos}(hv:PE X (.Name x px) (wo i))(he:PE X e (tD X.K f))
  (hbase:attributeBase (.Name x px) "append" X.env (eval (.Name x px) X.env)=eval (.Name x px) X.env:=by rfl)
  (hfew:((backTo cpos (starEach [e] X.env)).all (fun x=> !x.1)&&(backToKw cpos (keywordEach [] X.env)).all (fun x=>x.1.isSome)&&decide ([e].length+([]:List Keyword).length+(if([]:List Keyword).isEmpty then 0 else 1)<30))=true:=by rfl)
  (hline:(apos.endLine==cpos.line)=true:=by rfl) (hse:starEach [e] X.env=(false,eval e X.env) :: starEach [] X.env:=by rfl)
  (hs:swapsWith (.Call (.Attribute (.Name x px) "append" apos) [e] [] cpos) none pos.line X.env=pure false:=by rfl):PS X (.Expr (.Call (.Attribute (.Name x px) "append" apos) [e] [] cpos) pos) (tDS X.K (q4e i f)):=
 xq (q75 (qpw PySem.F.plainAttrs_list PySem.F.slot_list_append PySem.F.type_list_append qaw hv (zm he w8 hse) hbase hfew hline hse rfl) hs) fun D σ H ⟨F0,H0,F, ρ,fl, ρ',r,hf,q⟩=>by
  obtain⟨ds,h1,hf⟩:=g6.mp hf;obtain⟨d,h2,h3⟩:=g6.mp hf;have h1:=qhs h1
  split at h3
  ·rename_i hl
   cases h3;obtain⟨a,xs,e1,e2,e3,e4,e5⟩:=r.ow i ds h1;refine⟨.ref a,e1,.inl ⟨rfl,xs,SqL.of e2⟩,F0,H0,F, ρ,d,r,h2,fun v F' H' g' r'=>?_⟩;have r2:=r.grow g';refine⟨a,xs,v,rfl,rfl,g'.hh.lst _ _ e2,qax (by rw [<- e5.length];exact hl),?_⟩;exact q _ F' _ g'.ff (r2.wrt h1 e1 ((e5.mono g'.ff).append (.cons r' .nil)))
  ·cases h3
def frz(i:Nat)(ρ : Rho): Rho:=match ρ[i]? with
 | some (some (.ow ds))=> ρ.set i (some (.fz (.lst ds)))
 | _=> ρ
def q8d(i:Nat)(u:FS): FS:=fun ρ =>u (frz i ρ)
theorem qo1{K:Frag}{F0 H0 F H:Hp}{σ : St}{ρ : Rho}(i:Nat)(r:RS K F0 H0 F H σ ρ): ∃F',Same F F'/\RS K F0 H0 F' H σ (frz i ρ):=by
 unfold frz
 split
 ·rename_i ds h
  exact r.freeze h
 ·exact⟨F,.refl _,r⟩
theorem qcs(i:Nat){sts:List Stmt}(h:PSs X sts (tDS X.K u)): PSs X sts (tDS X.K (q8d i u)):=q78 h fun D σ H ⟨F0,H0,F, ρ,fl, ρ',r,hf,q⟩=>by
 obtain⟨F',s',r'⟩:=qo1 i r;exact⟨F0,H0,F',frz i ρ,fl, ρ',r',hf,q0z s' q⟩
end
def jr(n:Nat)(u:FS)(ds:List D): Option D:=match u (ds.map (fun d=>some (.fz d))++List.replicate (n-ds.length) none) with
 | some (.rt d,_)=>some d
 | some (.nx,_)=>some .non
 | _=>none
theorem qht{N:List Str}{vs:List V}{i:Nat}{v:V}(h:vs[i]? = some v): (L2.start N vs)[i]? = some (some v):=by
 unfold L2.start;have hi:i<vs.length:=(n8.mp h).1;rw [mm (by simpa using hi),md,h];rfl
theorem qo2{P:Program}{w:World}{K:Frag}{H:Hp}{vs:List V}{Q:VK}{N:List Str}{u:FS}{ar:Nat}{E:XK}(hl:ar<=N.length)(h:spD K ar (jr N.length u) vs H Q E): tDS K u {nx:=fun _ H'=>Q .non H',rt:=Q} (L2.start N vs) H:=by
 obtain⟨F,ds,d,fh,rl,el,hd,q⟩:=h;have hlen:=rl.length;have r:RS K F H F H (L2.start N vs) (ds.map (fun d=>some (.fz d))++List.replicate (N.length-ds.length) none):={
  t0:=⟨fh.t,fh.f⟩
  g:=.refl fh.s
  len:=by unfold L2.start;simp only [mv,m6,g0o];omega
  fz :=fun i e h1=>by
   by_cases hi:i<ds.length
   ·rw [mm (by simpa using hi),md] at h1
    cases z:ds[i]? with
    | none=>rw [z] at h1;cases h1
    | some d'=>
     rw [z] at h1;cases h1;obtain⟨v,e1,e2⟩:=rl.get z;exact⟨v,qht e1,e2⟩
   ·rw [nh (by simpa using hi),nt] at h1
    split at h1 <;> cases h1
  ow:=fun i es h1=>by
   by_cases hi:i<ds.length
   ·rw [mm (by simpa using hi),md] at h1
    cases z:ds[i]? with
    | none=>rw [z] at h1;cases h1
    | some d'=>rw [z] at h1;cases h1
   ·rw [nh (by simpa using hi),nt] at h1
    split at h1 <;> cases h1
  dj:=fun i j us es a _ h1=>by
   by_cases hi:i<ds.length
   ·rw [mm (by simpa using hi),md] at h1
    cases z:ds[i]? with
    | none=>rw [z] at h1;cases h1
    | some d'=>rw [z] at h1;cases h1
   ·rw [nh (by simpa using hi),nt] at h1
    split at h1 <;> cases h1
  od:=fun i kvs h1=>by
   by_cases hi:i<ds.length
   ·rw [mm (by simpa using hi),md] at h1
    cases z:ds[i]? with
    | none=>rw [z] at h1;cases h1
    | some d'=>rw [z] at h1;cases h1
   ·rw [nh (by simpa using hi),nt] at h1
    split at h1 <;> cases h1
  o1:=fun i j k1 k2 h1=>by
   by_cases hi:i<ds.length
   ·rw [mm (by simpa using hi),md] at h1
    cases z:ds[i]? with
    | none=>rw [z] at h1;cases h1
    | some d'=>rw [z] at h1;cases h1
   ·rw [nh (by simpa using hi),nt] at h1
    split at h1 <;> cases h1}
 unfold jr at hd;cases z:u (ds.map (fun d=>some (.fz d))++List.replicate (N.length-ds.length) none) with
 | none=>rw [z] at hd;cases hd
 | some p=>
  obtain⟨fl, ρ'⟩:=p;rw [z] at hd;refine⟨F,H,F,_,fl, ρ',r,z,?_⟩;cases fl with
  | nx=>cases hd;exact fun σ' F' H' s' r'=>q .non F' H' r'.g (rep_non.mpr rfl)
  | bk=>cases hd
  | ct=>cases hd
  | rt d'=>cases hd;exact fun v σ' F' H' g' r'=>q v F' H' g'.g r'
theorem qq2{P:Program}{w:World}{K:Frag}{mg:Str->Option Value}{base:Heap}{k:Nat}{f:Addr}{name qual:Str}{params:Arguments}{body:List Stmt}{scope:Scope}{dV kV doc pm cdv ct oc:Value}{an od:Option Addr}
  {osl:Array (Option Value)} {N ps:List Str} {u:FS} (lk:K.lookup f=some ⟨oc,od,.func (PySem.W.fnOf name qual params body scope dV kV doc pm an cdv ct),osl⟩) (hcd:PySem.W.codeIn K cdv qual=true) (S:FnScope N ps scope)
  (hb:∀(A:Around) (outer:List Env) (s:Shared) (H:Hp) (E:XK),Room k (A.deeper (envOfC qual scope s.heap.objs.size f cdv))->PSs (qx CX0 P w K mg base N qual scope f cdv A outer s H E).nox body (tDS K u)) :
  FnOk P w K mg base CX0 (k+1) f (PySem.W.fnOf name qual params body scope dV kV doc pm an cdv ct) ps (spD K ps.length (jr N.length u)):=by
 have hpl:ps.length<=N.length:=by have:=tf List.length S.pre;rw [uf] at this;omega
 refine qc6 lk hcd S (fun vs H Q E h=>?_) fun A outer s H vs Q E hr hsp=>⟨_,(hb A outer s H E hr).nox,qo2 (P:=P) (w:=w) hpl hsp⟩
 obtain⟨F,ds,d,_,rl,el,_⟩:=h;rw [<- rl.length];exact el
structure ItD(K:Frag)(F:Hp)(ds:List D)(J:It): Prop where
 go:∀(i:Nat) (F' H:Hp),Same F F'->Same F' H->i<ds.length->J.go i H
 yld:∀(i:Nat) (d:D) (F' H:Hp) (x:V) (H':Hp),Same F F'->Same F' H->ds[i]? = some d->J.yld i H x H'->∃F'',Grow F' H F'' H'/\Rep K F'' d x
 stop:∀(i:Nat) (F' H:Hp),Same F F'->Same F' H->ds.length<=i->J.stop i H
def tDI(K:Frag)(f:FA): TI:=fun σ H R=>∃F0 H0 F ρ ds,RS K F0 H0 F H σ ρ /\ f ρ = some ds/\∀J F' H',Grow F H F' H'->ItD K F' ds J->R J H'
abbrev FB:=D->Rho->Option Rho
abbrev FBs:=List D->Rho->Option Rho
def tDG(K:Frag)(b:FB): TG:=fun v σ H Q=>∃F0 H0 F ρ d ρ',RS K F0 H0 F H σ ρ /\ Rep K F d v/\b d ρ = some ρ'/\∀ σ',RS K F0 H0 F H σ' ρ'->Q σ' H
def qgf(K:Frag)(b:FBs): TGs:=fun vs σ H Q=>∃F0 H0 F ρ ds ρ',RS K F0 H0 F H σ ρ /\ RepL K F ds vs/\b ds ρ = some ρ'/\∀ σ',RS K F0 H0 F H σ' ρ'->Q σ' H
section
variable{X:Cx}{tg e:Expr}{es:List Expr}{pos:Pos}
theorem qct{t t':TI}(h:PI X tg e t)(i:∀ σ H R,t' σ H R->t σ H R): PI X tg e t':=fun pins s σ H R I q=>h pins s σ H R I (i σ H R q)
theorem qhu{t t':TG}(h:PG X e t)(i:∀v σ H Q,t' v σ H Q->t v σ H Q): PG X e t':=fun pins s σ H v u Q I r q=>h pins s σ H v u Q I r (i v σ H Q q)
theorem qf7{t t':TGs}(h:PGs X es t)(i:∀v σ H Q,t' v σ H Q->t v σ H Q): PGs X es t':=fun pins s σ H v u Q I r q=>h pins s σ H v u Q I r (i v σ H Q q)
def bN(i:Nat): FB:=fun d ρ =>some (ρ.set i (some (.fz d)))
def q10:FBs:=fun ds ρ =>if ds.isEmpty then some ρ else none
def xt(b:FB)(bs:FBs): FBs:=fun ds ρ =>match ds with
 | d :: r=>(b d ρ).bind fun ρ'=>bs r ρ'
 | []=>none
def q11(n:Nat)(bs:FBs): FB:=fun d ρ =>match d with
 | .tup ds=>if ds.length=n then bs ds ρ else none
 | _=>none
theorem xg{i:Nat}{x:Str}(hN:X.N.Nodup)(hi:X.N[i]? = some x)(hx:Loc X.env.scope x)(hf:X.fn x=true\/X.env.scope.names.lookup x=some .local:=by first|exact .inl rfl|exact .inr rfl|assumption): PG X (.Name x pos) (tDG X.K (bN i)):=
 qhu (qlo hN hi hx hf) fun v σ H Q ⟨F0,H0,F, ρ,d, ρ',r,hr,hb,q⟩=>by
  cases hb;exact q _ (r.set i hr)
theorem qcu:PGs X [] (qgf X.K q10):=qf7 qlp fun vs σ H Q ⟨F0,H0,F, ρ,ds, ρ',r,hr,hb,q⟩=>by
 unfold q10 at hb
 split at hb
 ·rename_i z
  cases hb;have z':ds=[]:=by simpa using z
  subst z';exact⟨hr.nil_inv,q σ r⟩
 ·cases hb
theorem q36{b:FB}{bs:FBs}(h1:PG X e (tDG X.K b))(h2:PGs X es (qgf X.K bs))(hs:(assignEach (e :: es) X.env).map (·.2)=assign e X.env :: (assignEach es X.env).map (·.2):=by rfl): PGs X (e :: es) (qgf X.K (xt b bs)):=
 qf7 (qj6 h1 h2 hs) fun vs σ H Q ⟨F0,H0,F, ρ,ds, ρ',r,hr,hb,q⟩=>by
  cases ds with
  | nil=>cases hb
  | cons d ds=>
   obtain⟨v,vr,rfl,h3,h4⟩:=hr.cons_inv;obtain⟨ρ1,h5,h6⟩:=g6.mp hb;exact⟨v,vr,rfl,F0,H0,F, ρ,d, ρ1,r,h3,h5,fun σ' r'=>⟨F0,H0,F, ρ1,ds, ρ',r',h4,h6,q⟩⟩
theorem qcv{k n:Nat}{bs:FBs}(hc:X.calm=true)(h:PGs X es (qgf X.K bs))(hn:(assignEach es X.env).length=n:=by rfl)(hst:(assignEach es X.env).findIdx? (·.1)=none:=by rfl): PG X (.Tuple es k pos) (tDG X.K (q11 n bs)):=
 qhu (qn9 hc h hn hst) fun v σ H Q ⟨F0,H0,F, ρ,d, ρ',r,hr,hb,q⟩=>by
  cases d <;> simp only [q11] at hb <;> first|(cases hb;done)|skip
  rename_i ds
  split at hb
  ·rename_i hl
   obtain⟨a,xs,rfl,h1,h2⟩:=rep_tup.mp hr;exact⟨a,xs,rfl,qz r.fh h1,by rw [<- h2.length];exact hl,F0,H0,F, ρ,ds, ρ',r,h2,hb,q⟩
  ·cases hb
def qq3(f:FE)(b:FB): FS:=fun ρ =>(f ρ).bind fun d=>(b d ρ).map fun ρ'=>(.nx, ρ')
theorem qjt{K:Frag}{F:Hp}{a:Addr}{xs:List V}{ds:List D}(h:SqL K F a xs)(hd:RepL K F ds xs): ItD K F ds (Itl K a) where
 go:=fun i F' H s1 s2 hi=>⟨xs,xs[i]'(by rw [<- hd.length];exact hi),(s1.trans s2).seq h,by simp⟩
 yld:=fun i d F' H x H' s1 s2 hi ⟨e,y⟩=>by
  subst e;obtain⟨z,h1,h2⟩:=hd.get hi;have:=y xs ((s1.trans s2).seq h);rw [h1] at this;cases this;exact⟨F',.refl s2,h2.mono s1⟩
 stop:=fun i F' H s1 s2 hi=>⟨xs,(s1.trans s2).seq h,by rw [<- hd.length];exact hi⟩
theorem qm2{K:Frag}{F:Hp}{a:Addr}{xs:List V}{ds:List D}(h:SqT K F a xs)(hd:RepL K F ds xs): ItD K F ds (Itt K a) where
 go:=fun i F' H s1 s2 hi=>⟨xs,xs[i]'(by rw [<- hd.length];exact hi),qz (s1.trans s2) h,by simp⟩
 yld:=fun i d F' H x H' s1 s2 hi ⟨e,y⟩=>by
  subst e;obtain⟨z,h1,h2⟩:=hd.get hi;have:=y xs (qz (s1.trans s2) h);rw [h1] at this;cases this;exact⟨F',.refl s2,h2.mono s1⟩
 stop:=fun i F' H s1 s2 hi=>⟨xs,qz (s1.trans s2) h,by rw [<- hd.length];exact hi⟩
def jj(lo:Int)(n:Nat): List D:=(List.range n).map fun i:Nat=>.int (lo+i)
theorem qhv{K:Frag}{F:Hp}(lo:Int)(n:Nat): ItD K F (jj lo n) (Itr lo n) where
 go:=fun i F' H s1 s2 hi=>by show i<n;simpa [jj] using hi
 yld:=fun i d F' H x H' s1 s2 hi ⟨e,y⟩=>by
  subst e y;simp only [jj,md] at hi;cases q:(List.range n)[i]? with
  | none=>rw [q] at hi;cases hi
  | some j=>
   rw [q] at hi;cases hi;have:j=i:=by
    have h2:=n8.mp q;obtain⟨h3,h4⟩:=h2;rw [List.getElem_range] at h4;exact h4.symm
   subst this;exact⟨F',.refl s2,rep_int.mpr rfl⟩
 stop:=fun i F' H s1 s2 hi=>by show n<=i;simpa [jj] using hi
def q3i:D->Option (List D)
 | .tup ds=>some ds
 | .lst ds=>some ds
 | _=>none
def q12(f:FE): FA:=fun ρ =>(f ρ).bind q3i
theorem qq4{l:Expr}{tl:TE}(hl:PE X l tl): PI X tg l (fun σ H R=>tl σ H fun x H1=>(∃a,x=.ref a/\(∃xs,SqL X.K H1 a xs)/\R (Itl X.K a) H1)\/(∃a,x=.ref a/\(∃xs,SqT X.K H1 a xs)/\R (Itt X.K a) H1)):=by
 intro pins s σ H R I h;refine thn (hl pins s σ H _ I h) fun v s1 ⟨x,H1,I1,r1,q1⟩=>?_;rcases q1 with⟨a,e,⟨xs,hq⟩,q⟩|⟨a,e,⟨xs,hq⟩,q⟩
 ·subst e
  cases r1;obtain⟨its,rv,p,hz⟩:=I1.list hq;refine g1l p.isList ?_;refine⟨s1.heap.objs.size,[s1.heap.objs.size],_,_,H1,rfl,I1.kept (t':=s1.toks) fun b o e=>gc _ e,qh7 a _,⟨_,m4 _ rfl,rfl,rfl⟩,fun b hb=>?_,q⟩;have e:b=s1.heap.objs.size:=by simpa using hb
  subst e;exact I1.fpOk (gv _) (I1.hok.fresh (gv _))
 ·subst e
  cases r1;obtain⟨its,rv,p,hz⟩:=I1.tuple hq;refine wpAny_pyIter_tuple (show s1.heap.IsTuple a its.toArray from p) ?_;refine⟨s1.heap.objs.size,[s1.heap.objs.size],_,_,H1,rfl,I1.kept (t':=s1.toks) fun b o e=>gc _ e,qg2 a _,⟨_,m4 _ rfl,rfl,rfl⟩,fun b hb=>?_,q⟩;have e:b=s1.heap.objs.size:=by simpa using hb
  subst e;exact I1.fpOk (gv _) (I1.hok.fresh (gv _))
theorem q02{f:FE}(h:PE X e (tD X.K f)): PI X tg e (tDI X.K (q12 f)):=qct (qq4 h) fun σ H R ⟨F0,H0,F, ρ,ds,r,hf,q⟩=>by
 obtain⟨d,h1,h2⟩:=g6.mp hf;refine⟨F0,H0,F, ρ,d,r,h1,fun v F' H' g' r'=>?_⟩;cases d <;> simp only [q3i] at h2 <;> first|(cases h2;done)|skip
 ·cases h2
  obtain⟨a,xs,rfl,h3,h4⟩:=rep_tup.mp r';exact .inr ⟨a,rfl,⟨xs,qz g'.fh h3⟩,q _ F' H' g' (qm2 h3 h4)⟩
 ·cases h2
  obtain⟨a,xs,rfl,h3,h4⟩:=rep_lst.mp r';exact .inl ⟨a,rfl,⟨xs,g'.fh.seq h3⟩,q _ F' H' g' (qjt h3 h4)⟩
def iR1(fa:FA): FA:=fun ρ =>(fa ρ).bind fun ds=>match ds with
 | [.int j]=>if decide (-(2 ^ 62)<=j)&&decide (j<2 ^ 62) then some (jj 0 j.toNat) else none
 | _=>none
theorem qay{a:Expr}{fa:FA}{p:Pos}(hg:Gl X "range")(hm:X.mg "range" = none)(ha:PA X [a] (tDA X.K fa))(hs:starEach [a] X.env=[(false,eval a X.env)]:=by rfl): PI X tg (.Call (.Name "range" p) [a] [] pos) (tDI X.K (iR1 fa)):=
 qct (qh8 hg hm ha hs) fun σ H R ⟨F0,H0,F, ρ,ds,r,hf,q⟩=>by
  obtain⟨es,h1,h2⟩:=g6.mp hf;refine⟨F0,H0,F, ρ,es,r,h1,fun vs F' H' g' r'=>?_⟩
  split at h2
  ·rename_i j
   split at h2
   ·rename_i z
    cases h2;obtain⟨x,t,rfl,h3,h4⟩:=r'.cons_inv;cases h4.nil_inv;obtain⟨z1,z2⟩:=q1x z;exact⟨j,by rw [rep_int.mp h3],z1,z2,q _ F' H' g' (qhv 0 _)⟩
   ·cases h2
  ·cases h2
def runFor(b:FB)(body:FS): List D->Rho->Option (Fl×Rho)
 | [], ρ =>some (.nx, ρ)
 | d :: ds, ρ =>(b d ρ).bind fun ρ1=>(body ρ1).bind fun r=>match r with
  | (.nx, ρ2)=>runFor b body ds ρ2
  | (.ct, ρ2)=>runFor b body ds ρ2
  | (.bk, ρ2)=>some (.nx, ρ2)
  | (.rt v, ρ2)=>some (.rt v, ρ2)
def q1i(it:FA)(b:FB)(body:FS): FS:=fun ρ =>(it ρ).bind fun ds=>runFor b body ds ρ
theorem q0r{iter:Expr}{body:List Stmt}{it:FA}{b:FB}{u:FS}(hp:PassesOwn (model X.prog X.w) X.A X.env X.xe)(hc:X.calm=true)(hi:PI X tg iter (tDI X.K it))(hg:PG X tg (tDG X.K b))(hb:PSs X body (tDS X.K u))
  (hs:∀x,foldedSetIterable iter X.env x=pure x:=by intro _;rfl):PS X (.For tg iter body [] pos) (tDS X.K (q1i it b u)):=xq (qnd hp hc hi hg hb hs) fun D σ H ⟨F0,H0,F, ρ,fl, ρ',r,hf,q⟩=>by
 obtain⟨ds,h1,h2⟩:=g6.mp hf;refine⟨F0,H0,F, ρ,ds,r,h1,fun J F1 H1 g1 itd=>?_⟩;refine⟨fun i m σ H=>m=ds.length-i/\i<=ds.length/\∃F' ρi,Same F1 F'/\RS X.K F0 H0 F' H σ ρi/\runFor b u (ds.drop i) ρi=some (fl, ρ'),⟨ds.length,by simp,g1c _,F1, ρ,.refl _,r.grow g1,by simpa using h2⟩,?_⟩
 rintro i m σ H ⟨rfl,hi,F', ρi,s1,r1,h3⟩
 by_cases hlt:i<ds.length
 ·have hd:ds.drop i=ds[i] :: ds.drop (i+1):=g1p hlt
  rw [hd] at h3;obtain⟨ρ1,h4,h5⟩:=g6.mp h3;obtain⟨⟨fl1, ρ2⟩,h6,h7⟩:=g6.mp h5;refine .inr ⟨itd.go i F' H s1 r1.fh hlt,fun σ' H'=>∃F',Same F1 F'/\RS X.K F0 H0 F' H' σ' ρ2/\runFor b u (ds.drop (i+1)) ρ2=some (fl, ρ'),fun σ' H' ⟨F',z1,z2,z3⟩=>⟨ds.length-(i+1),by omega,rfl,hlt,F', ρ2,z1,z2,z3⟩,fun x H' y=>?_⟩;obtain⟨F2,g2,r2⟩:=itd.yld i ds[i] F' H x H' s1 r1.fh (by simp [hlt]) y;refine⟨F0,H0,F2, ρi,ds[i], ρ1,r1.grow g2,r2,h4,fun σ' r3=>⟨F0,H0,F2, ρ1,fl1, ρ2,r3,h6,?_⟩⟩;cases fl1 with
  | nx=>exact fun σ2 F3 H3 s3 r4=>⟨F3,(s1.trans g2.ff).trans s3,r4,h7⟩
  | ct=>exact fun σ2 F3 H3 s3 r4=>⟨F3,(s1.trans g2.ff).trans s3,r4,h7⟩
  | bk=>cases h7;exact fun σ2 F3 H3 s3 r4=>q σ2 F3 H3 ((g1.ff.trans (s1.trans g2.ff)).trans s3) r4
  | rt d=>cases h7;exact q
 ·have e:i=ds.length:=by omega
  subst e;rw [g1u] at h3;cases h3;exact .inl ⟨itd.stop _ F' H s1 r1.fh (gv _),q σ F' H (g1.ff.trans s1) r1⟩
end
def qo3:Option B->Option B
 | some (.fz d)=>some (.fz d)
 | _=>none
def q03(cap:List (Option Nat))(ρ : Rho): Rho:=cap.map fun o=>o.bind fun j=>qo3 (ρ[j]?).join
structure Sub(ρ ρ':Rho): Prop where
 len : ρ.length = ρ'.length
 sub:∀(i:Nat) (b:B), ρ[i]? = some (some b) -> ρ'[i]? = some (some b)
theorem RS.weak{K:Frag}{F0 H0 F H:Hp}{σ : St}{ρ ρ':Rho}(r:RS K F0 H0 F H σ ρ')(s:Sub ρ ρ'): RS K F0 H0 F H σ ρ where
 t0:=r.t0
 g:=r.g
 len:=by rw [s.len];exact r.len
 fz:=fun i d e=>r.fz i d (s.sub i _ e)
 ow:=fun i ds e=>r.ow i ds (s.sub i _ e)
 dj:=fun i j ds es a h e1 e2=>r.dj i j ds es a h (s.sub i _ e1) (s.sub j _ e2)
 od:=fun i kvs e=>let⟨a,bs,e1,e2,e3⟩:=r.od i kvs (s.sub i _ e); ⟨a,bs,e1,e2,fun j es b h=>e3 j es b (s.sub j _ h)⟩
 o1:=fun i j k1 k2 e1 e2=>r.o1 i j k1 k2 (s.sub i _ e1) (s.sub j _ e2)
def q2z(ρ : Rho): Prop:=∀(i:Nat) (b:B), ρ[i]? = some (some b)->∃d,b=.fz d
theorem q5b{ρ : Rho}(no:q2z ρ){i:Nat}{ds:List D}(h : ρ[i]? = some (some (.ow ds))): False:=let⟨_,e⟩:=no i _ h;nomatch e
theorem q5c{ρ : Rho}(no:q2z ρ){i:Nat}{ds}(h : ρ[i]? = some (some (.od ds))): False:=let⟨_,e⟩:=no i _ h;nomatch e
theorem kl(cap:List (Option Nat))(ρ : Rho): q2z (q03 cap ρ):=fun i ds h=>by
 unfold q03 at h;rw [md] at h;cases q:cap[i]? with
 | none=>rw [q] at h;cases h
 | some o=>
  rw [q] at h;cases o with
  | none=>cases h
  | some j=>
   simp only [gx,gb,g1k] at h;generalize (ρ[j]?).join=z at h;cases z with
   | none=>cases h
   | some b=>cases b with
    | fz d=>cases h;exact⟨d,rfl⟩
    | ow _=>cases h
    | od _=>cases h
theorem qo4{K:Frag}{F0 H0 F H:Hp}{σ : St}{ρ : Rho}(cap:List (Option Nat))(r:RS K F0 H0 F H σ ρ): RS K F H F H (q9z cap σ) (q03 cap ρ) where
 t0:=⟨r.tab,r.tabF⟩
 g:=.refl r.fh
 len:=by unfold q9z q03;rw [m6,m6]
 fz := fun i d h=>by
  unfold q03 at h;rw [md] at h;cases q:cap[i]? with
  | none=>rw [q] at h;cases h
  | some o=>
   rw [q] at h;cases o with
   | none=>cases h
   | some j=>
    simp only [gx,gb,g1k] at h;have e : ρ[j]? = some (some (.fz d)):=by
     cases z : ρ[j]? with
     | none=>rw [z] at h;cases h
     | some b=>
      rw [z] at h;cases b with
      | none=>cases h
      | some b=>cases b with
       | fz d'=>cases h;rfl
       | ow _=>cases h
       | od _=>cases h
    obtain⟨v,e1,e2⟩:=r.fz j d e;refine⟨v,?_,e2⟩;unfold q9z;rw [md,q];simp only [gx,gb,e1,g0n]
 ow:=fun i ds h=>(q5b (kl cap ρ) h).elim
 dj:=fun i j ds es a _ h=>(q5b (kl cap ρ) h).elim
 od:=fun i ds h=>(q5c (kl cap ρ) h).elim
 o1:=fun i j ds es h=>(q5c (kl cap ρ) h).elim
theorem RS.other{K:Frag}{F0 H0 F H:Hp}{σ : St}{ρ : Rho}(r:RS K F0 H0 F H σ ρ)(no:q2z ρ){p:Addr}{o:HO}(h1:F p=none)(h2:H0 p=none)(h3:H p=none\/∃xs,H p=some (.lst xs)): RS K F0 H0 F (upd H p o) σ ρ where
 t0:=r.t0
 g :=⟨r.g.ff,⟨fun b u e=>by rw [qo (fun z=>by subst z;rw [h2] at e;cases e)];exact r.g.hh.lst b u e,fun b u e=>by rw [qo (fun z=>by subst z;rw [h2] at e;cases e)];exact r.g.hh.ext b u e,fun {b} e=>by
   by_cases z:b=p
   ·subst z;exact h2
   ·rw [qo z] at e;exact r.g.hh.free e,fun t=>(r.g.hh.tb t).upd h3,fun b u e=>by rw [qo (fun z=>by subst z;rw [h2] at e;cases e)];exact r.g.hh.dk b u e⟩,fun b u e=>by rw [qo (fun z=>by subst z;rw [h1] at e;cases e)];exact r.g.fh b u e,r.g.nw⟩
 len:=r.len
 fz:=r.fz
 ow:=fun i ds h=>(q5b no h).elim
 dj:=fun i j ds es a _ h=>(q5b no h).elim
 od:=fun i ds h=>(q5c no h).elim
 o1:=fun i j ds es h=>(q5c no h).elim
theorem q6f{F H F' H':Hp}{p:Addr}(g:Grow F H F' H')(h1:F p=none){o:HO}(h2:H p=some o): F' p=none:=by
 cases q:F' p with
 | none=>rfl
 | some u=>
  rcases g.nw p (by rw [q];simp) with z|z
  ·exact absurd h1 z
  ·rw [h2] at z;cases z
def yh(b:FB)(c:FT)(f:FE)(ρ : Rho): List D->Option (List D)
 | []=>some []
 | d :: ds=>(b d ρ).bind fun ρ1=>(c ρ1).bind fun t=>if t then(f ρ1).bind fun y=>(yh b c f ρ ds).map fun ys=>y :: ys else yh b c f ρ ds
def q30:FT:=fun _=>some true
def q43(it:FA)(cap:List (Option Nat))(b:FB)(c:FT)(f:FE): FA:=fun ρ =>(it ρ).bind fun ds=>if ds.length<=lim then yh b c f (q03 cap ρ) ds else none
def qcb(b:FB)(cap:List (Option Nat)): Prop:=∀ ρ d ρ',b d (q03 cap ρ)=some ρ'->Sub (q03 cap ρ) ρ'/\q2z ρ'
section
variable{X:Cx}
theorem qju{ifs:List Expr}{t t':TT}(h:q4d X ifs t)(i:∀ σ H Q,t' σ H Q->t σ H Q): q4d X ifs t':=fun pins s σ H Q I q=>h pins s σ H Q I (i σ H Q q)
theorem qcw:q4d X [] (tDT X.K q30):=qju qjl fun σ H Q ⟨F0,H0,F, ρ,b,r,hf,q⟩=>by cases hf;exact q F H (.refl r.fh)
theorem qo5{c:Expr}{t:FT}(h:PT X c (tDT X.K t)): q4d X [c] (tDT X.K t):=qjm h
theorem qo6{K:Frag}{it:FA}{cap:List (Option Nat)}{b:FB}{c:FT}{f:FE}{σ : St}{H:Hp}{Q:VK}(fr:qcb b cap)(h:tL K (q43 it cap b c f) σ H Q): ql3 (tDI K it) cap (tDG K b) (tDT K c) (tD K f) σ H Q:=by
 obtain⟨F0,H0,F, ρ,zs,r,hf,q⟩:=h;obtain⟨ds,h1,h2⟩:=g6.mp hf;have hlim:ds.length<=lim:=Decidable.byContradiction fun z=>by rw [gy z] at h2;cases h2
 rw [gr hlim] at h2;refine⟨F0,H0,F, ρ,ds,r,h1,fun J F1 H1 g1 itd p hp=>?_⟩;have rc:=qo4 cap (r.grow g1);have hF1:F1 p=none:=g1.fh.free hp;refine⟨fun i m σ H=>m=ds.length-i/\i<=ds.length/\∃F' xs ys us,Same F1 F'/\RS K F1 H1 F' H σ (q03 cap ρ)/\H p=some (.lst xs)/\F' p=none/\RepL K F' ys xs/\yh b c f (q03 cap ρ) (ds.drop i)=some us/\ys++us=zs/\ys.length<=i,
  ⟨ds.length,by simp,g1c _,F1,[],[],zs,.refl _,rc.other (kl cap ρ) hF1 hp (.inl hp),qy,hF1,.nil,by simpa using h2,rfl,gv _⟩,?_⟩
 rintro i m σ' H' ⟨rfl,hi,F',xs,ys,us,s1,r1,hl,hn,ry,h3,h4,hyi⟩
 by_cases hlt:i<ds.length
 ·have hd:ds.drop i=ds[i] :: ds.drop (i+1):=g1p hlt
  rw [hd] at h3;obtain⟨ρ1,h5,h3⟩:=g6.mp h3;obtain⟨t,h6,h3⟩:=g6.mp h3;obtain⟨sb,no1⟩:=fr ρ _ _ h5;refine .inr ⟨itd.go i F' H' s1 r1.fh hlt,fun x H'' y=>?_⟩;obtain⟨F2,g2,r2⟩:=itd.yld i ds[i] F' H' x H'' s1 r1.fh (by simp [hlt]) y;refine⟨F1,H1,F2,q03 cap ρ,ds[i], ρ1,r1.grow g2,r2,h5,fun σ2 r3=>⟨F1,H1,F2, ρ1,t,r3,h6,fun F3 H3 g3=>?_⟩⟩;have r4:=r3.grow g3;have hl2:=g2.hh.lst _ _ hl;have hn2:=q6f g2 hn hl;have hl3:=g3.hh.lst _ _ hl2;have hn3:=q6f g3 hn2 hl2;cases t with
  | false=>
   rw [gy gp] at h3;exact qjj ⟨ds.length-(i+1),by omega,rfl,hlt,F3,xs,ys,us,(s1.trans g2.ff).trans g3.ff,r4.weak sb,hl3,hn3,ry.mono (g2.ff.trans g3.ff),h3,h4,Nat.le_succ_of_le hyi⟩
  | true=>
   rw [gr rfl] at h3;obtain⟨yd,h7,h3⟩:=g6.mp h3;obtain⟨us',h8,h9⟩:=gi.mp h3;refine qjk ⟨F1,H1,F3, ρ1,yd,r4,h7,fun v F4 H4 g4 r5=>?_⟩;have hl4:=g4.hh.lst _ _ hl3;have hn4:=q6f g4 hn3 hl3;have ss:Same F' F4:=(g2.ff.trans g3.ff).trans g4.ff;refine⟨xs,hl4,qax (by have:=ry.length;omega),ds.length-(i+1),by omega,rfl,hlt,F4,xs++[v],ys++[yd],us',(s1.trans ss),?_,qy,hn4,(ry.mono ss).append (.cons r5 .nil),h8,?_,?_⟩
   ·exact((r4.grow g4).weak sb).other (kl cap ρ) hn4 hp (.inr ⟨_,hl4⟩)
   ·rw [g0i,List.singleton_append,h9];exact h4
   ·rw [mv,g28];omega
 ·have e:i=ds.length:=by omega
  subst e;rw [g1u] at h3;cases h3;rw [mn] at h4;subst h4;have gg:Grow F1 H1 F' H':=r1.g;exact .inl ⟨itd.stop _ F' H' s1 r1.fh (gv _),q p xs F' H' (g1.trans gg) hn (g1.hh.free hp) hl ry⟩
variable{N':List Str}{scope:Scope}{cap:List (Option Nat)}{tg iter elt:Expr}{ifs:List Expr}{it:FA}{b:FB}{c:FT}{f:FE}{pos:Pos}
theorem q7d(hc:X.calm=true)(co:CapOk X N' scope cap)(fr:qcb b cap)(hi:PI X tg iter (tDI X.K it))
  (hg:∀cl C s₀ H₀ fp,PG (yz X N' scope cl C s₀ H₀ fp) tg (tDG X.K b)) (hcs:∀cl C s₀ H₀ fp,q4d (yz X N' scope cl C s₀ H₀ fp) ifs (tDT X.K c)) (he:∀cl C s₀ H₀ fp,PE (yz X N' scope cl C s₀ H₀ fp) elt (tD X.K f))
  (hs:∀x,foldedSetIterable iter X.env x=pure x:=by intro _;rfl):PE X (.ListComp elt [⟨tg,iter,ifs,0⟩] scope pos) (tL X.K (q43 it cap b c f)):=
 zl (qly hc co hi hg hcs he hs) fun σ H Q h=>qo6 fr h
end
theorem qcx{cap:List (Option Nat)}{ρ : Rho}{i:Nat}(h:cap[i]? = some none): (q03 cap ρ)[i]? = some none:=by
 unfold q03;rw [md,h];rfl
theorem qf8{ρ ρ':Rho}{i:Nat}{b:Option B}(s:Sub ρ ρ')(h : ρ[i]? = some none): Sub ρ (ρ'.set i b):=
 ⟨by rw [ni];exact s.len,fun j c e=>by
  by_cases q:j=i
  ·subst q;rw [h] at e;cases e
  ·rw [gf (gu q)];exact s.sub j c e⟩
theorem qaz{ρ : Rho}{i:Nat}{d:D}(h:q2z ρ): q2z (ρ.set i (some (.fz d))):=fun j ds e=>by
 by_cases q:j=i
 ·subst q
  obtain⟨z,_⟩:=qs e;cases z;exact⟨d,rfl⟩
 ·rw [gf (gu q)] at e;exact h j ds e
theorem Sub.refl(ρ : Rho): Sub ρ ρ :=⟨rfl,fun _ _ h=>h⟩
theorem q5d{cap:List (Option Nat)}{i:Nat}(h:cap[i]? = some none): qcb (bN i) cap:=fun ρ d ρ' e=>by
 cases e;exact⟨qf8 (.refl _) (qcx h),qaz (kl cap ρ)⟩
def q95(bs:FBs)(cap:List (Option Nat)): Prop:=∀ ρ ds ρ1 ρ',Sub (q03 cap ρ) ρ1->q2z ρ1->bs ds ρ1=some ρ'->Sub (q03 cap ρ) ρ'/\q2z ρ'
theorem qgg{cap:List (Option Nat)}: q95 q10 cap:=fun ρ ds ρ1 ρ' s n e=>by
 unfold q10 at e
 split at e
 ·cases e;exact⟨s,n⟩
 ·cases e
theorem q81{cap:List (Option Nat)}{i:Nat}{bs:FBs}(h:cap[i]? = some none)(t:q95 bs cap): q95 (xt (bN i) bs) cap:=fun ρ ds ρ1 ρ' s n e=>by
 cases ds with
 | nil=>cases e
 | cons d ds=>exact t ρ ds _ ρ' (qf8 s (qcx h)) (qaz n) e
theorem qhw{cap:List (Option Nat)}{n:Nat}{bs:FBs}(t:q95 bs cap): qcb (q11 n bs) cap:=fun ρ d ρ' e=>by
 cases d <;> simp only [q11] at e <;> first|(cases e;done)|skip
 split at e
 ·exact t ρ _ _ ρ' (.refl _) (kl cap ρ) e
 ·cases e
def qo7 (outer:List (Str×NameKind)) (N N':List Str) (scope:Scope) (cap:List (Option Nat)):Bool:=
 scope.names.all (fun y=> !(y.2 == .cell))&&(scope.names.all (fun y=> !(y.2 == .local) || (scope.names.lookup y.1==some .local))&&(scope.names.all (fun y=> !(y.2 == .free) || (outer.lookup y.1==some .cell) || (outer.lookup y.1==some .free)) &&
  (cap.length==N'.length&&(List.range cap.length).all fun i=>match(cap[i]?).join with
   | none=>true
   | some j=>match N'[i]? with
    | none=>false
    | some x=>N[j]? == some x&&scope.names.lookup x==some .free)))
theorem q5e{X:Cx}{N':List Str}{scope:Scope}{cap:List (Option Nat)}(hk:scope.kind=.function)(h:qo7 X.env.scope.names X.N N' scope cap=true): CapOk X N' scope cap:=by
 unfold qo7 at h;simp only [mh,g1v] at h;obtain⟨h1,h2,h3,h4,h5⟩:=h;refine⟨hk,fun y hy e=>?_,fun y hy e=>?_,fun y hy e=>?_,by simpa using h4,fun i j e=>?_⟩
 ·have:=h1 y hy;rw [e] at this;cases this
 ·have:=h2 y hy;rw [e] at this;simpa using this
 ·have:=h3 y hy
  rw [e] at this;simp only [pq,g2c,Bool.false_or,g0x,nk] at this;exact this
 ·have hi:i<cap.length:=(n8.mp e).1
  have:=h5 i (g27.mpr hi);rw [e] at this;simp only [g0n] at this
  split at this
  ·cases this
  ·rename_i x hx
   simp only [mh,nk] at this;exact⟨x,hx,this.1,this.2⟩
section
variable{X:Cx}{e:Expr}{es:List Expr}{pos:Pos}{f g:FE}{fa:FA}
inductive Ty where
 | int|bool|tuple|list|str|dict
def Ty.name:Ty->String
 | .int=>"int" | .bool=>"bool" | .tuple=>"tuple" | .list=>"list" | .str=>"str" | .dict=>"dict"
def zg:Ty->D->Bool
 | .int,.int _=>true
 | .int,.bl _=>true
 | .bool,.bl _=>true
 | .tuple,.tup _=>true
 | .list,.lst _=>true
 | .str,.str _=>true
 | .dict,.dct _ _=>true
 | .dict,.dtt _ _=>true
 | _,_=>false
theorem qjv{prog:Program}{w:World}{A:Around}{E:Value->Shared->Prop}{s:Shared}{Q:Value->Shared->Prop}{K:Frag}{T:String}{b:Bool}(hk:K.In s.heap)(h:∀tk,Q (.bool b) {s with toks:=tk})(hT:PySem.W.kitOne K (.type "NoneType") (.type T)=some b):
  wpAny (model prog w) A (call (.builtin "isinstance") [.none,.type T]) Q E s:=g0y PySem.W.kitx_none hk True.intro hT (fun z=>nomatch z) h
theorem qjw(T:Ty): vh X (.builtin "isinstance") (fun xs H Q=>∃x F d,xs=[x,.ty T.name]/\Same F H/\Rep X.K F d x/\Q (.bl (zg T d)) H):=by
 intro pins s σ H xs us Q I r h;obtain⟨x,F,d,rfl,fh,rd,q⟩:=h;obtain⟨u,w',rfl,rx,rt⟩:=r.two;obtain rfl:w'=Value.type T.name:=rt;have fin:∀ {b:Bool},Q (.bl b) H->EP X pins σ Q (.bool b) s:=fun q=>⟨.bl _,H,I,rfl,q⟩
 have fin1:∀ {b:Bool},Q (.bl b) H->EP X pins σ Q (.bool b) {s with toks:=s.toks+1}:=fun q=>⟨.bl _,H,I.tok _,rfl,q⟩
 cases d with
 | non=>
  cases rep_non.mp rd;cases rx;cases T <;> exact qjv I.kIn (fun tk=>⟨.bl _,H,I.tok _,rfl,q⟩) (by rfl)
 | bl b=>
  cases rep_bl.mp rd;cases rx;cases T
  ·exact IsiPair.bool_int (fin q)
  ·exact IsiPair.bool_bool (fin q)
  ·exact IsiPair.bool_tuple (fin1 q)
  ·exact IsiPair.bool_list (fin1 q)
  ·exact IsiPair.bool_str (fin1 q)
  ·exact IsiPair.bool_dict (fin1 q)
 | int i=>
  cases rep_int.mp rd;obtain⟨t,rfl⟩:=rx;cases T
  ·exact IsiPair.int_int (fin q)
  ·exact IsiPair.int_bool (fin1 q)
  ·exact IsiPair.int_tuple (fin1 q)
  ·exact IsiPair.int_list (fin1 q)
  ·exact IsiPair.int_str (fin1 q)
  ·exact IsiPair.int_dict (fin1 q)
 | str z=>
  cases rep_str.mp rd;obtain⟨t,rfl⟩:=rx;cases T
  ·exact IsiPair.str_int (fin1 q)
  ·exact IsiPair.str_bool (fin1 q)
  ·exact IsiPair.str_tuple (fin1 q)
  ·exact IsiPair.str_list (fin1 q)
  ·exact IsiPair.str_str (fin q)
  ·exact IsiPair.str_dict (fin1 q)
 | tup ds=>
  obtain⟨a,ys,rfl,h1,h2⟩:=rep_tup.mp rd;cases rx;obtain⟨its,_,⟨o,ho,hc,_⟩,_⟩:=I.tuple (qz fh h1);cases T
  ·exact IsiPair.tuple_int ho hc (fin1 q)
  ·exact IsiPair.tuple_bool ho hc (fin1 q)
  ·exact IsiPair.tuple_tuple ho hc (fin q)
  ·exact IsiPair.tuple_list ho hc (fin1 q)
  ·exact IsiPair.tuple_str ho hc (fin1 q)
  ·exact IsiPair.tuple_dict ho hc (fin1 q)
 | lst ds=>
  obtain⟨a,ys,rfl,h1,h2⟩:=rep_lst.mp rd;cases rx;obtain⟨its,_,⟨o,n,ho,hc,_⟩,_⟩:=I.list (fh.seq h1);cases T
  ·exact IsiPair.list_int ho hc (fin1 q)
  ·exact IsiPair.list_bool ho hc (fin1 q)
  ·exact IsiPair.list_tuple ho hc (fin1 q)
  ·exact IsiPair.list_list ho hc (fin q)
  ·exact IsiPair.list_str ho hc (fin1 q)
  ·exact IsiPair.list_dict ho hc (fin1 q)
 | dct ks vs=>
  obtain⟨a,ys,rfl,h1,h2,h3⟩:=rep_dct.mp rd;cases rx;obtain⟨_,_,vs',_,o,es',ep,ho,hc,_⟩:=(show ObjOk X.prog X.w H s.heap a _ from I.hok a _ (fh _ _ h1))
  cases T
  ·exact IsiPair.dict_int ho hc.1 (fin1 q)
  ·exact IsiPair.dict_bool ho hc.1 (fin1 q)
  ·exact IsiPair.dict_tuple ho hc.1 (fin1 q)
  ·exact IsiPair.dict_list ho hc.1 (fin1 q)
  ·exact IsiPair.dict_str ho hc.1 (fin1 q)
  ·exact IsiPair.dict_dict ho hc.1 (fin q)
 | dtt ks vs=>
  obtain⟨a,xs',ys,ep,rfl,h1,_⟩:=rep_dtt.mp rd;cases rx;obtain⟨⟨o,es',ho,hc,_⟩,_,_⟩:=(show ObjOk X.prog X.w H s.heap a _ from I.hok a _ (fh _ _ h1))
  cases T
  ·exact IsiPair.dict_int ho hc.1 (fin1 q)
  ·exact IsiPair.dict_bool ho hc.1 (fin1 q)
  ·exact IsiPair.dict_tuple ho hc.1 (fin1 q)
  ·exact IsiPair.dict_list ho hc.1 (fin1 q)
  ·exact IsiPair.dict_str ho hc.1 (fin1 q)
  ·exact IsiPair.dict_dict ho hc.1 (fin q)
 | obj x=>
  obtain⟨a,dx,C,rfl,h1,_,c1,c2,c3,c4,c5,c6,c7⟩:=rep_obj.mp rd;cases rx;obtain⟨mA,O,_⟩:=q76 I.hok (fh _ _ h1);obtain⟨od,J,_⟩:=O.look;cases T <;> exact g0y (PySem.W.kitx_own c1 c2 c3 c4 c5 c6) I.kIn J (c7 _ (by decide)) (fun z=>nomatch z) (fun tk=>⟨.bl _,H,I.tok _,rfl,q⟩)
 | exc x f=>
  obtain⟨a,C,rfl,⟨od,h1,_⟩,_,c1,c2⟩:=rep_exc.mp rd;cases rx;obtain⟨J,_,_⟩:=(show ObjOk X.prog X.w H s.heap a _ from I.hok a _ (fh _ _ h1))
  cases T <;> exact g0y (q8a c1) I.kIn J (c2 _ (by decide)) (fun z=>nomatch z) (fun tk=>⟨.bl _,H,I.tok _,rfl,q⟩)
def q13(T:Ty)(f:FE): FE:=fun ρ =>(f ρ).map fun d=>.bl (zg T d)
theorem q5f:bootBuiltins "isinstance" = some (.builtin "isinstance"):=by decide +kernel
theorem q4r{x:Str}{p px:Pos}(T:Ty)(hg:Gl X "isinstance")(hm:X.mg "isinstance" = none)(hgT:Gl X x)(hmT:X.mg x=none)(hvT:bootBuiltins x=some (.type T.name))(ha:PE X e (tD X.K f))
  (hnT:x≠"__name__" :=by decide) (hdT:(x==("__debug__" : Str))=false:=by decide) (he2:starEach [e,.Name x px] X.env=(false,eval e X.env) :: starEach [.Name x px] X.env:=by rfl) :
  PE X (.Call (.Name "isinstance" p) [e,.Name x px] [] pos) (tD X.K (q13 T f)):=
 zl (q1w (qjw T) hg hm q5f (zm ha (zm (qev (v:=.ty T.name) hgT hmT hvT rfl hnT hdT) w8) he2) (by decide) (by decide) he2 rfl) fun σ H Q ⟨F0,H0,F, ρ,d,r,hf,q⟩=>by
  obtain⟨d',h1,h2⟩:=gi.mp hf;subst h2;exact⟨F0,H0,F, ρ,d',r,h1,fun v F' H' g' r'=>⟨v,F',d',rfl,g'.fh,r',q _ F' H' g' (rep_bl.mpr rfl)⟩⟩
def q7e:List D->Option (List Int)
 | []=>some []
 | .int i :: r=>(q7e r).map fun is=>i :: is
 | _ :: _=>none
def q4s:List D->Option (List Bool)
 | []=>some []
 | .bl i :: r=>(q4s r).map fun is=>i :: is
 | _ :: _=>none
theorem q96:∀ {ds:List D} {ns:List Int},q7e ds=some ns->ds=ns.map D.int
 | [],ns,h=>by cases h;rfl
 | d :: r,ns,h=>by
  cases d <;> simp only [q7e] at h <;> first|(cases h;done)|skip
  obtain⟨is,h1,h2⟩:=gi.mp h;subst h2;rw [q96 h1];rfl
omit [Lam] [Pin] in
theorem qb0:∀(ns:List Int),q7e (ns.map D.int)=some ns
 | []=>rfl
 | n :: r=>by simp only [m9,q7e,qb0 r,gx]
theorem q82:∀ {ds:List D} {bs:List Bool},q4s ds=some bs->ds=bs.map D.bl
 | [],ns,h=>by cases h;rfl
 | d :: r,ns,h=>by
  cases d <;> simp only [q4s] at h <;> first|(cases h;done)|skip
  obtain⟨is,h1,h2⟩:=gi.mp h;subst h2;rw [q82 h1];rfl
omit [Lam] [Pin] in
theorem q97:∀(ns:List Bool),q4s (ns.map D.bl)=some ns
 | []=>rfl
 | n :: r=>by simp only [m9,q4s,q97 r,gx]
theorem RepL.bools{K:Frag}{H:Hp}: ∀ {bs:List Bool} {xs:List V},RepL K H (bs.map D.bl) xs->xs=bs.map V.bl
 | [],xs,h=>h.nil_inv
 | b :: bs,xs,h=>by
  obtain⟨x,r,rfl,h1,h2⟩:=h.cons_inv;rw [rep_bl.mp h1,RepL.bools h2];rfl
def o1L(z:List D->Option D): List D->Option D
 | [.lst ds]=>z ds
 | _=>none
theorem qcy{z:List D->Option D}{es:List D}{d:D}(h:o1L z es=some d): ∃ds,es=[.lst ds]/\z ds=some d:=by
 unfold o1L at h
 split at h
 ·exact⟨_,rfl,h⟩
 ·cases h
theorem rep1{K:Frag}{F:Hp}{d:D}{xs:List V}(h:RepL K F [d] xs): ∃x,xs=[x]/\Rep K F d x:=by
 obtain⟨x,r,rfl,h1,h2⟩:=h.cons_inv;cases h2.nil_inv;exact⟨x,rfl,h1⟩
abbrev qgh:List D->Option D:=o1L fun ds=>(q7e ds).map fun ns=>.int ns.sum
abbrev qa3:List D->Option D:=o1L fun ds=>(q4s ds).map fun bs=>.bl (bs.all id)
theorem qo8(hc:X.calm=true): vh X (.builtin "sum") (rC X.K qgh):=by
 intro pins s σ H xs us Q I r h;obtain⟨F,ds,d,fh,rl,ho,q⟩:=h;obtain⟨es,rfl,h1⟩:=qcy ho;obtain⟨ns,h2,h3⟩:=gi.mp h1;subst h3;cases q96 h2;obtain⟨x,rfl,rx⟩:=rep1 rl;obtain⟨u,rfl,ru⟩:=r.one;obtain⟨a,ys,rfl,k1,k2⟩:=rep_lst.mp rx;cases ru;cases RepL.ints.mp k2;obtain⟨its,rv,pl,_⟩:=I.list (fh.seq k1);have hi:=intsAre_of rv;obtain⟨zs,hz⟩:=hi.allInts.items;have hl:s.heap.IsList a (intItems zs):=hz ▸ pl.isList;refine sum_intListG (I.ok.hd hc) hl fun h' tk t' hk=>?_;have e1:ns=zs.toList.map (·.1):=by
  rw [<- nums_intItems, <- hz];exact(show numsOf its.toArray.toList=ns from hi.numsOf).symm
 have e2:preSum (numAt zs) zs.size=ns.sum:=by
  rw [preSum_eq,g25 (by simp),e1]
 rw [e2];exact⟨.int ns.sum,H,I.kept hk,⟨_,rfl⟩,q _ F H (.refl fh) (rep_int.mpr rfl)⟩
theorem q98:∀ {bs:List Bool} {us:List Value},Vals (bs.map V.bl) us->us=bs.map Value.bool
 | [],us,h=>by cases h;rfl
 | b :: bs,us,h=>by
  rw [m9] at h;cases h with
  | cons r t=>
   cases(show _=Value.bool b from r);rw [q98 t];rfl
theorem qhx(hc:X.calm=true): vh X (.builtin "all") (rC X.K qa3):=by
 intro pins s σ H xs us Q I r h;obtain⟨F,ds,d,fh,rl,ho,q⟩:=h;obtain⟨es,rfl,h1⟩:=qcy ho;obtain⟨bs,h2,h3⟩:=gi.mp h1;subst h3;cases q82 h2;obtain⟨x,rfl,rx⟩:=rep1 rl;obtain⟨u,rfl,ru⟩:=r.one;obtain⟨a,ys,rfl,k1,k2⟩:=rep_lst.mp rx;cases ru;cases k2.bools;obtain⟨its,rv,pl,_⟩:=I.list (fh.seq k1);cases q98 rv;have hlt:a<s.heap.objs.size:=by obtain⟨_,e,_⟩:=pl.isList;exact gq e
 refine call_all_walk (g1l pl.isList ?_);refine⟨s.heap.objs.size,[s.heap.objs.size,a],[s.heap.objs.size],(bs.map Value.bool).toArray.size,_,_,fun i=>(bs[i]?).getD true,rfl,Walks.list (A:=X.A.in1) (I.ok.hd hc) _ a (ma hlt) (bs.map Value.bool).toArray,
  ⟨⟨_,m4 _ rfl,rfl,rfl⟩,pl.isList.push _⟩,fun i v s' Q' E' hP hQ=>?_,fun h' tk hk=>?_⟩
 ·have hP':(bs.map Value.bool)[i]? = some v:=by simpa using hP
  rw [md] at hP';cases z:bs[i]? with
  | none=>rw [z] at hP';cases hP'
  | some b=>
   rw [z] at hP';cases hP';simp only [z,Option.getD_some] at hQ;exact u0 hQ
 ·have e:((List.range (bs.map Value.bool).toArray.size).all fun i=>(bs[i]?).getD true)=bs.all id:=by
   rw [gj,m6];exact LSm.range_all bs
  rw [e];exact⟨.bl _,H,I.kept (LSm.kept_iter hk),rfl,q _ F H (.refl fh) (rep_bl.mpr rfl)⟩
theorem boot_sum:bootBuiltins "sum" = some (.builtin "sum"):=by decide +kernel
theorem boot_all:bootBuiltins "all" = some (.builtin "all"):=by decide +kernel
theorem boot_min:bootBuiltins "min" = some (.builtin "min"):=by decide +kernel
theorem boot_max:bootBuiltins "max" = some (.builtin "max"):=by decide +kernel
theorem q1c:bootBuiltins "len" = some (.builtin "len"):=by decide +kernel
theorem boot_tuple:bootBuiltins "tuple" = some (.type "tuple"):=by decide +kernel
theorem boot_int:bootBuiltins "int" = some (.type "int"):=by decide +kernel
theorem boot_bool:bootBuiltins "bool" = some (.type "bool"):=by decide +kernel
def o2I(z:Int->Int->Int): List D->Option D
 | [.int i,.int j]=>some (.int (z i j))
 | _=>none
theorem qcz{z:Int->Int->Int}{es:List D}{d:D}(h:o2I z es=some d): ∃i j,es=[.int i,.int j]/\d=.int (z i j):=by
 unfold o2I at h
 split at h
 ·cases h;exact⟨_,_,rfl,rfl⟩
 ·cases h
theorem ql7{K:Frag}{F:Hp}{i j:Int}{xs:List V}(h:RepL K F [.int i,.int j] xs): xs=[.int i,.int j]:=RepL.ints (ns:=[i,j]).mp h
abbrev oMin:=o2I fun i j=>if j<i then j else i
abbrev oMax:=o2I fun i j=>if j>i then j else i
theorem qhy(hc:X.calm=true): vh X (.builtin "min") (rC X.K oMin):=q42 (qhd hc) fun xs H Q ⟨F,ds,d,fh,rl,ho,q⟩=>by
 obtain⟨i,j,rfl,rfl⟩:=qcz ho;exact⟨i,j,ql7 rl,q _ F H (.refl fh) (rep_int.mpr rfl)⟩
theorem qo9(hc:X.calm=true): vh X (.builtin "max") (rC X.K oMax):=q42 (qhc hc) fun xs H Q ⟨F,ds,d,fh,rl,ho,q⟩=>by
 obtain⟨i,j,rfl,rfl⟩:=qcz ho;exact⟨i,j,ql7 rl,q _ F H (.refl fh) (rep_int.mpr rfl)⟩
def q1j:List D->Option D
 | [.tup ds]=>some (.int ds.length)
 | [.lst ds]=>some (.int ds.length)
 | [.str x]=>if x.length<=lim then some (.int x.length) else none
 | _=>none
theorem q4t:vh X (.builtin "len") (rC X.K q1j):=q42 qjb fun xs H Q ⟨F,ds,d,fh,rl,ho,q⟩=>by
 unfold q1j at ho
 split at ho
 ·cases ho
  obtain⟨x,rfl,rx⟩:=rep1 rl;obtain⟨a,ys,rfl,k1,k2⟩:=rep_tup.mp rx;exact⟨_,ys.length,rfl,.inr ⟨ys,qz fh k1,rfl⟩,by rw [<- k2.length];exact q _ F H (.refl fh) (rep_int.mpr rfl)⟩
 ·cases ho
  obtain⟨x,rfl,rx⟩:=rep1 rl;obtain⟨a,ys,rfl,k1,k2⟩:=rep_lst.mp rx;exact⟨_,ys.length,rfl,.inl ⟨ys,fh.seq k1,rfl⟩,by rw [<- k2.length];exact q _ F H (.refl fh) (rep_int.mpr rfl)⟩
 ·split at ho
  ·rename_i z
   cases ho;obtain⟨x,rfl,rx⟩:=rep1 rl;cases rep_str.mp rx;exact⟨_,_,rfl,⟨q01 z,rfl⟩,q _ F H (.refl fh) (rep_int.mpr rfl)⟩
  ·cases ho
 ·cases ho
def q3j:List D->Option D
 | [.tup ds]=>some (.tup ds)
 | [.lst ds]=>some (.tup ds)
 | _=>none
theorem q8e:vh X (.type "tuple") (rC X.K q3j):=q42 qbm fun xs H Q ⟨F,ds,d,fh,rl,ho,q⟩=>by
 unfold q3j at ho
 split at ho
 ·cases ho
  obtain⟨x,rfl,rx⟩:=rep1 rl;obtain⟨a,ys,rfl,k1,k2⟩:=rep_tup.mp rx;exact⟨a,ys,rfl,.inr ⟨qz fh k1,q _ F H (.refl fh) rx⟩⟩
 ·cases ho
  obtain⟨x,rfl,rx⟩:=rep1 rl;obtain⟨a,ys,rfl,k1,k2⟩:=rep_lst.mp rx;refine⟨a,ys,rfl,.inl ⟨fh.seq k1,fun l hl=>?_⟩⟩;have gn:Grow F H (upd F l (.tup ys)) (upd H l (.tup ys)):=Grow.new fh hl;exact q _ _ _ gn (rep_tup.mpr ⟨l,ys,rfl,SqT.of qy,k2.mono gn.ff⟩)
 ·cases ho
def qgi(op:List D->Option (List D))(fa:FA): FA:=fun ρ =>(fa ρ).bind op
def ql8:List D->Option (List D)
 | [.tup ds]=>some ds
 | [.lst ds]=>some ds
 | _=>none
theorem q7f{K:Frag}{H:Hp}{ds:List D}{xs:List V}{i:Int}{d:D}(h:RepL K H ds xs)(e:atI ds i=some d): ∃x,atI xs i=some x/\Rep K H d x:=by
 unfold atI at e ⊢;rw [<- h.length];cases q:ixN ds.length i with
 | none=>rw [q] at e;cases e
 | some j=>
  rw [q] at e;exact h.get e
def oIx:D->D->Option D
 | .tup ds,.int i=>atI ds i
 | .lst ds,.int i=>atI ds i
 | _,_=>none
theorem xj{a b:Expr}(ha:PE X a (tD X.K f))(hb:PE X b (tD X.K g))(hs:q9y b:=by intro _ _;rfl): PE X (.Subscript a b pos) (tD X.K (eOp oIx f g)):=zl (ql2 qhi ha hb hs) fun σ H Q h=>by
 have h':=two h;obtain⟨F0,H0,F, ρ,d,r,hf,q⟩:=h';refine⟨F0,H0,F, ρ,d,r,hf,fun v F1 H1 g1 r1=>?_⟩;obtain⟨F0',H0',F', ρ',d',r',hf',q'⟩:=q v F1 H1 g1 r1;refine⟨F0',H0',F', ρ',d',r',hf',fun v2 F2 H2 g2 r2=>?_⟩;obtain⟨F3,d1,d2,d3,fh,k1,k2,k3,k4⟩:=q' v2 F2 H2 g2 r2;unfold oIx at k3
 split at k3
 ·obtain⟨p,ys,rfl,z1,z2⟩:=rep_tup.mp k1
  obtain⟨y,z3,z4⟩:=q7f z2 k3;exact .inr (.inl ⟨p,ys,_,y,rfl,rep_int.mp k2,qz fh z1,z3,k4 y F3 H2 (.refl fh) z4⟩)
 ·obtain⟨p,ys,rfl,z1,z2⟩:=rep_lst.mp k1
  obtain⟨y,z3,z4⟩:=q7f z2 k3;exact .inl ⟨p,ys,_,y,rfl,rep_int.mp k2,fh.seq z1,z3,k4 y F3 H2 (.refl fh) z4⟩
 ·cases k3
def eUn(o:D->Option D)(f:FE): FE:=fun ρ =>(f ρ).bind o
end
section
variable{prog:Program}{w:World}{A:Around}{E:Value->Shared->Prop}{s:Shared}
theorem qbn{t sl:Addr}{items:Array Value}{vl vu:Value}{lo hi:Option Int}{Q:Value->Shared->Prop}(ht:IsTup s.heap t items)(hs:s.heap.IsSliceOf sl vl vu .none)
  (pl:IsPart vl lo) (pu:IsPart vu hi) (w1:HT.sIx items.size 0 lo=0) (w2:HT.sIx items.size items.size hi=items.size) (h:Q (.ref t) s) :
  wpAny (model prog w) A (getItem (.ref t) (.ref sl)) Q E s:=by
 obtain⟨os,hos,hcs,hds⟩:=id hs;have hTs:s.TypeIs (.ref sl) "slice" :=⟨os,hos,hcs⟩
 unfold getItem
 try with_reducible refine tj ?_
 first|refine g9 (gh ?_)|skip
 refine g9 (wpAny_sequenceKey ht.typeIs (by decide) (g9 (p6 (name:=Str.ofString "__getitem__") ht.typeIs ng
  (ug ng ht.typeIs entry_tuple_getitem ?_ (args_tuple_getitem _ _)))))
 show wpAny _ _ (Builtin.Tuple.tupleItemsOf (.ref t) >>= _) _ _ s;refine g9 (tupleItemsOf_ ht (g9 (g0v hTs ?_)));rw [gr (by decide)];refine g9 (HT.sliceApplied_gen hs pl pu ?_);rw [w1,w2];show wpAny _ _ (if(((0:Nat):Int)==0&&(1:Int)==1&&(items.size-0)==items.size)=true then _ else _) _ _ s;rw [gr (by simp)];refine g9 ?_;unfold Builtin.Tuple.tupleIsExact;refine g9 (g0v ht.typeIs (gh ?_))
 first
  | rw [gr (by decide)]
  | skip
 first
  | exact g9 (g0z (g9 (gh (gh ⟨_,rfl,gh h⟩))))
  | exact g9 (g0z (gh ⟨_,rfl,gh h⟩))
  | exact g9 (g9 (g0z (gh (gh ⟨_,rfl,gh h⟩))))
end
section
variable{X:Cx}{e:Expr}{es:List Expr}{pos:Pos}{f g:FE}{fa:FA}
def qr8(K:Frag): V->Option Int->Option Int->Hp->VK->Prop:=fun x lo hi H Q=>∃a xs,x=.ref a/\SqT K H a xs/\HT.sIx xs.length 0 lo=0/\HT.sIx xs.length xs.length hi=xs.length/\Q (.ref a) H
theorem qjx:SlR X (qr8 X.K):=by
 intro pins s σ H x v vl vu lo hi sl Q I rx hs pl pu h;obtain⟨a,xs,rfl,hx,w1,w2,q⟩:=h;cases rx;obtain⟨its,r,ht,hz⟩:=I.tuple hx;have hlen:its.toArray.size=xs.length:=by rw [gj];exact r.length.symm
 exact⟨"tuple",_,ng.lookup,ht.typeIs,qbn ht hs pl pu (by rw [hlen];exact w1) (by rw [hlen];exact w2) ⟨.ref a,H,I,rfl,q⟩⟩
def cutD(ds:List D)(lo hi:Option Int): List D:=(ds.drop (HT.sIx ds.length 0 lo)).take (HT.sIx ds.length ds.length hi-HT.sIx ds.length 0 lo)
def oSl:D->Option Int->Option Int->Option D
 | .tup ds,lo,hi=>some (.tup (cutD ds lo hi))
 | .lst ds,lo,hi=>some (.lst (cutD ds lo hi))
 | _,_,_=>none
abbrev FO:=Rho->Option (Option Int)
def oNo:FO:=fun _=>some none
def oAt(f:FE): FO:=fun ρ =>(f ρ).bind fun d=>match d with
 | .int i=>some (some i)
 | _=>none
def tDO(K:Frag)(f:FO): TO:=fun σ H Q=>∃F0 H0 F ρ i,RS K F0 H0 F H σ ρ /\ f ρ = some i/\∀F' H',Grow F H F' H'->Q i H'
theorem qhz{o:Option Expr}{t t':TO}(h:PO X o t)(i:∀ σ H Q,t' σ H Q->t σ H Q): PO X o t':=fun pins s σ H Q I q=>h pins s σ H Q I (i σ H Q q)
theorem qd0:PO X none (tDO X.K oNo):=qhz qlt fun σ H Q ⟨F0,H0,F, ρ,i,r,hf,q⟩=>by cases hf;exact q F H (.refl r.fh)
theorem qd1(h:PE X e (tD X.K f)): PO X (some e) (tDO X.K (oAt f)):=qhz (qlu h) fun σ H Q ⟨F0,H0,F, ρ,i,r,hf,q⟩=>by
 obtain⟨d,h1,h2⟩:=g6.mp hf;cases d <;> simp only at h2 <;> first|(cases h2;done)|skip
 cases h2;exact⟨F0,H0,F, ρ,_,r,h1,fun v F' H' g' r'=>⟨_,rep_int.mp r',q F' H' g'⟩⟩
def eSl(f:FE)(lo hi:FO): FE:=fun ρ =>(f ρ).bind fun d=>(lo ρ).bind fun l=>(hi ρ).bind fun h=>oSl d l h
theorem qd2{a:Expr}{lo hi:Option Expr}{fl fh:FO}{p2:Pos}(ha:PE X a (tD X.K f))(hl:PO X lo (tDO X.K fl))(hh:PO X hi (tDO X.K fh)): PE X (.Subscript a (.Slice lo hi none p2) pos) (tD X.K (eSl f fl fh)):=
 zl (qjg (sl_list.or (sl_tup.or qjx)) ha hl hh) fun σ H Q ⟨F0,H0,F, ρ,d,r,hf,q⟩=>by
  obtain⟨x,h1,hf⟩:=g6.mp hf;obtain⟨l,h2,hf⟩:=g6.mp hf;obtain⟨u,h3,h4⟩:=g6.mp hf;refine⟨F0,H0,F, ρ,x,r,h1,fun v F1 H1 g1 r1=>⟨F0,H0,F1, ρ,l,r.grow g1,h2,fun F2 H2 g2=>⟨F0,H0,F2, ρ,u,(r.grow g1).grow g2,h3,fun F3 H3 g3=>?_⟩⟩⟩;have gg:=g1.trans (g2.trans g3);have r3:Rep X.K F3 x v:=r1.mono (g2.ff.trans g3.ff);cases x with
  | tup ds=>
   cases h4;obtain⟨p,xs,rfl,k1,k2⟩:=rep_tup.mp r3;have hlen:=k2.length
   by_cases wh:HT.sIx xs.length 0 l=0/\HT.sIx xs.length xs.length u=xs.length
   ·refine .inr (.inr ⟨p,xs,rfl,qz g3.fh k1,wh.1,wh.2,q _ F3 H3 gg ?_⟩)
    have e:cutD ds l u=ds:=by
     unfold cutD;rw [hlen,wh.1,wh.2,List.drop_zero,Nat.sub_zero, <- hlen,List.take_length]
    rw [e];exact r3
   ·refine .inr (.inl ⟨p,xs,rfl,qz g3.fh k1,wh,fun p' hp=>?_⟩)
    have gn:Grow F3 H3 (upd F3 p' (.tup (q2p xs l u))) (upd H3 p' (.tup (q2p xs l u))):=Grow.new g3.fh hp;refine q _ _ _ (gg.trans gn) (rep_tup.mpr ⟨p',_,rfl,SqT.of qy,?_⟩);unfold cutD q2p;rw [hlen];exact((k2.mono gn.ff).drop _).take _
  | lst ds=>
   cases h4;obtain⟨p,xs,rfl,k1,k2⟩:=rep_lst.mp r3;have hlen:=k2.length;refine .inl ⟨p,xs,rfl,g3.fh.seq k1,fun p' hp=>?_⟩;have gn:Grow F3 H3 (upd F3 p' (.lst (q2p xs l u))) (upd H3 p' (.lst (q2p xs l u))):=Grow.new g3.fh hp;refine q _ _ _ (gg.trans gn) (rep_lst.mpr ⟨p',_,rfl,SqL.of qy,?_⟩);unfold cutD q2p;rw [hlen];exact((k2.mono gn.ff).drop _).take _
  | _=>cases h4
def qd3:D->D->Option D
 | .tup xs,.tup ys=>if xs.length+ys.length<=lim then some (.tup (xs++ys)) else none
 | .lst xs,.lst ys=>if xs.length+ys.length<=lim then some (.lst (xs++ys)) else none
 | _,_=>none
theorem qoa:OpR X (binaryOp .Add) (rD X.K qd3):=by
 intro pins s σ H x y v u Q I rx ry h;obtain⟨F,d1,d2,d,fh,r1,r2,ho,q⟩:=h;unfold qd3 at ho
 split at ho
 ·rename_i ds es
  split at ho
  ·rename_i hl
   cases ho;obtain⟨a,xs,rfl,k1,k2⟩:=rep_tup.mp r1;obtain⟨b,ys,rfl,k3,k4⟩:=rep_tup.mp r2
   by_cases hd:ds=[]
   ·subst hd
    cases k2.nil_inv;cases rx;cases ry;obtain⟨i1,v1,⟨⟨c1,dd1,dt1,sl1⟩,o1,e1,n1,t1⟩,_⟩:=I.tuple (qz fh k1);obtain⟨i2,v2,⟨⟨c2,dd2,dt2,sl2⟩,o2,e2,n2,t2⟩,_⟩:=I.tuple (qz fh k3);simp only at e1 t1 e2 t2;subst e1 t1 e2 t2;cases v1;exact g1q ⟨_,o1,rfl⟩ ⟨_,o2,rfl⟩ g1r seq_tuple_add g0k g0f (g0b _ _)
     (tuple_addW0 a b #[] i2.toArray n1 n2 dd1 dd2 sl1 sl2 rfl) ⟨o1,o2,⟨.ref b,H,I,rfl,q _ F H (.refl fh) (by simpa using r2)⟩⟩
   ·refine qlv pins s σ H _ _ v u Q I rx ry ⟨a,b,xs,ys,rfl,rfl,qz fh k1,qz fh k3,fun z=>hd ?_,q01 (by rw [<- k2.length, <- k4.length];exact hl),fun z=>?_,fun z p hp=>?_⟩
    ·have:=k2.length;rw [z] at this;exact g14 this
    ·have e:es=[]:=by have:=k4.length;rw [z] at this;exact g14 this
     subst e;rw [mn] at q;exact q _ F H (.refl fh) r1
    ·have gn:Grow F H (upd F p (.tup (xs++ys))) (upd H p (.tup (xs++ys))):=Grow.new fh hp
     exact q _ _ _ gn (rep_tup.mpr ⟨p,_,rfl,SqT.of qy,(k2.mono gn.ff).append (k4.mono gn.ff)⟩)
  ·cases ho
 ·rename_i ds es
  split at ho
  ·rename_i hl
   cases ho;obtain⟨a,xs,rfl,k1,k2⟩:=rep_lst.mp r1;obtain⟨b,ys,rfl,k3,k4⟩:=rep_lst.mp r2;cases rx;cases ry;obtain⟨i1,v1,⟨⟨c1,dd1,dt1,sl1⟩,n1,o1,e1,g1,t1⟩,_⟩:=I.list (fh.seq k1);obtain⟨i2,v2,⟨⟨c2,dd2,dt2,sl2⟩,n2,o2,e2,g2,t2⟩,_⟩:=I.list (fh.seq k3);simp only at e1 t1 e2 t2;subst e1 t1 e2 t2;have hz:xs.length+ys.length<=sizeLine:=q01 (by rw [<- k2.length, <- k4.length];exact hl);refine g1q ⟨_,o1,rfl⟩ ⟨_,o2,rfl⟩ noFill_list_add seq_list_add PySem.F.slot_list_add PySem.F.entry_list_add (PySem.F.args_list_add_2 _ _)
    (list_addW a b i1.toArray i2.toArray n1 n2 dd1 dd2 sl1 sl2 (by rw [gj,gj, <- v1.length, <- v2.length];exact hz)) ⟨o1,o2,?_⟩
   have ea:i1.toArray++i2.toArray=(i1++i2).toArray:=by simp
   rw [ea];have gn:Grow F H (upd F s.heap.objs.size (.lst (xs++ys))) (upd H s.heap.objs.size (.lst (xs++ys))):=Grow.new fh I.fresh;exact⟨.ref _,_,I.lnew (t':=s.toks) (v1.append v2) (by rw [mv];exact hz),rfl,q _ _ _ gn (rep_lst.mpr ⟨_,_,rfl,SqL.of qy,(k2.mono gn.ff).append (k4.mono gn.ff)⟩)⟩
  ·cases ho
 ·cases ho
abbrev jk:D->D->Option D:=fun x y=>(oAdd x y).or (qd3 x y)
theorem j7:OpR X (binaryOp .Add) (rD X.K jk):=q6a qnx qoa
def flat(d:D): Bool:=(flD d).isSome
def eqF:D->D->Bool
 | .non,.non=>true
 | .bl a,.bl b=>a==b
 | .bl a,.int b=>(if a then 1 else 0)==b
 | .int a,.bl b=>a==(if b then 1 else 0)
 | .int a,.int b=>a==b
 | .str a,.str b=>a==b
 | _,_=>false
theorem ql9{K:Frag}{H:Hp}{d e:D}{x y:V}(h1:flat d=true)(h2:flat e=true)(r1:Rep K H d x)(r2:Rep K H e y): eqV x y=eqF d e/\qc7 x=true/\qc7 y=true:=by
 cases d <;> first|(cases h1;done)|skip
 all_goals (cases e <;> first|(cases h2;done)|skip)
 all_goals (first|(cases rep_non.mp r1)|(cases rep_bl.mp r1)|(cases rep_int.mp r1)|(cases rep_str.mp r1))
 all_goals (first|(cases rep_non.mp r2)|(cases rep_bl.mp r2)|(cases rep_int.mp r2)|(cases rep_str.mp r2))
 all_goals exact⟨rfl,rfl,rfl⟩
end
mutual
def eqD:D->D->Bool
 | .tup ds,.tup es=>eqL ds es
 | .lst ds,.lst es=>eqL ds es
 | d,e=>eqF d e
def eqL:List D->List D->Bool
 | [],[]=>true
 | d :: ds,e :: es=>eqD d e&&eqL ds es
 | _,_=>false
end
mutual
def okE:D->D->Bool
 | .tup ds,.tup es=>xu ds es
 | .lst ds,.lst es=>xu ds es
 | d,e=>flat d&&flat e
def xu:List D->List D->Bool
 | d :: ds,e :: es=>okE d e&&xu ds es
 | _,_=>true
end
mutual
def q4f:D->Nat
 | .tup ds=>xm ds+1
 | .lst ds=>xm ds+1
 | _=>0
def xm:List D->Nat
 | []=>0
 | d :: ds=>max (q4f d) (xm ds)
end
def eqJ(ds es:List D)(j:Nat): Bool:=match ds[j]?,es[j]? with
 | some d,some e=>eqD d e
 | _,_=>true
theorem vp:∀(ds es:List D),((List.range (min ds.length es.length)).all (eqJ ds es)&&ds.length==es.length)=eqL ds es
 | [],[]=>by simp [eqL]
 | [],e :: es=>by simp [eqL]
 | d :: ds,[]=>by simp [eqL]
 | d :: ds,e :: es=>by
  have ih:=vp ds es;have e1:min (d :: ds).length (e :: es).length=min ds.length es.length+1:=by simp only [m3];lia
  rw [e1,g0l,List.all_cons,g2f];have e2:(eqJ (d :: ds) (e :: es) ∘ Nat.succ)=eqJ ds es:=by funext j;simp [eqJ]
  have e3:eqJ (d :: ds) (e :: es) 0=eqD d e:=by simp [eqJ]
  have e4:((d :: ds).length==(e :: es).length)=(ds.length==es.length):=by simp
  rw [e2,e3,e4,Bool.and_assoc,ih];simp only [eqL]
theorem qd4{d e:D}(h1:flat d=true)(h2:flat e=true): eqD d e=eqF d e:=by
 cases d <;> first|(cases h1;done)|skip
 all_goals (cases e <;> first|(cases h2;done)|skip)
 all_goals simp only [eqD]
section
variable{X:Cx}{pins:List (Addr×Obj)}{σ : St}{F H:Hp}{s:Shared}
theorem qi0{A:Around}{d e:D}{x y:V}{u v:Value}(h1:flat d=true)(h2:flat e=true)(r1:Rep X.K F d x)(r2:Rep X.K F e y)(q1:RelV x u)(q2:RelV y v): SeqAt.EqAt A s u v (eqD d e):=by
 obtain⟨z1,z2,z3⟩:=ql9 h1 h2 r1 r2;rw [qd4 h1 h2, <- z1];exact qns q1 q2 z2 z3
theorem qd5{d e:D}(h:okE d e=true): (∃ds es,d=.tup ds/\e=.tup es/\xu ds es=true)\/(∃ds es,d=.lst ds/\e=.lst es/\xu ds es=true)\/(flat d=true/\flat e=true):=by
 cases d <;> cases e <;> simp only [okE,mh] at h <;> first
  | exact .inl ⟨_,_,rfl,rfl,h⟩
  | exact .inr (.inl ⟨_,_,rfl,rfl,h⟩)
  | exact .inr (.inr h)
theorem qf9(I:Inv X pins σ H s)(fh:Same F H): ∀ {d e:D} {x:V},okE d e=true->Rep X.K F d x->Rep X.K F e x->eqD d e=true:=by
 suffices hh:∀n,(∀d e x,sizeOf d<n->okE d e=true->Rep X.K F d x->Rep X.K F e x->eqD d e=true) from fun {d e x}=>hh (sizeOf d+1) d e x (g00 _)
 intro n
 induction n with
 | zero=>intro d e x h;exact absurd h (pb _)
 | succ n ih=>
  intro d e x hn ok r1 r2;have seq:∀(ds es:List D) (xs:List V),sizeOf ds<n->xu ds es=true->RepL X.K F ds xs->RepL X.K F es xs->eqL ds es=true:=by
   intro ds
   induction ds with
   | nil=>
    intro es xs _ _ k1 k2;cases k1.nil_inv;cases es with
    | nil=>simp only [eqL]
    | cons e es=>obtain⟨_,_,z,_⟩:=k2.cons_inv;cases z
   | cons d ds ihd=>
    intro es xs hs ho k1 k2;obtain⟨x,r,rfl,a1,a2⟩:=k1.cons_inv;cases es with
    | nil=>cases k2.nil_inv
    | cons e es=>
     obtain⟨x',r',z,b1,b2⟩:=k2.cons_inv;cases z;simp only [xu,mh] at ho;have hs1:sizeOf d<n:=by simp only [uw] at hs;lia
     have hs2:sizeOf ds<n:=by simp only [uw] at hs;lia
     simp only [eqL,mh];exact⟨ih d e x hs1 ho.1 a1 b1,ihd es r hs2 ho.2 a2 b2⟩
  rcases qd5 ok with⟨ds,es,rfl,rfl,ho⟩|⟨ds,es,rfl,rfl,ho⟩|⟨h1,h2⟩
  ·obtain⟨a,xs,rfl,k1,k2⟩:=rep_tup.mp r1
   obtain⟨b,ys,z,k3,k4⟩:=rep_tup.mp r2;cases z;cases I.tuple_inj (qz fh k1) (qz fh k3);simp only [eqD];exact seq ds es xs (by simp only [D.tup.sizeOf_spec] at hn;lia) ho k2 k4
  ·obtain⟨a,xs,rfl,k1,k2⟩:=rep_lst.mp r1
   obtain⟨b,ys,z,k3,k4⟩:=rep_lst.mp r2;cases z;cases I.list_inj (fh.seq k1) (fh.seq k3);simp only [eqD];exact seq ds es xs (by simp only [D.lst.sizeOf_spec] at hn;lia) ho k2 k4
  ·obtain⟨z1,_⟩:=ql9 h1 h2 r1 r2
   rw [qd4 h1 h2, <- z1];cases d <;> first|(cases h1;done)|skip
   ·cases rep_non.mp r1;rfl
   ·cases rep_bl.mp r1;simp [eqV]
   ·cases rep_int.mp r1;simp [eqV]
   ·cases rep_str.mp r1;simp [eqV]
theorem qi1 (I:Inv X pins σ H s) (fh:Same F H):∀ {d e:D} {x y:V} {u v:Value} (A:Around),okE d e=true->A.units+q4f d<cLine->Rep X.K F d x->Rep X.K F e y->RelV x u->RelV y v->SeqAt.EqAt A s u v (eqD d e):=by
 suffices hh:∀n,(∀d e x y u v (A:Around),sizeOf d<n->okE d e=true->A.units+q4f d<cLine->Rep X.K F d x->Rep X.K F e y->RelV x u->RelV y v->SeqAt.EqAt A s u v (eqD d e)) from
  fun {d e x y u v} A=>hh (sizeOf d+1) d e x y u v A (g00 _)
 intro n
 induction n with
 | zero=>intro d e x y u v A h;exact absurd h (pb _)
 | succ n ih=>
  intro d e x y u v A hn ok hu r1 r2 q1 q2;have seq:∀(ds es:List D) (xs ys:List V) (us vs:List Value) (A:Around),sizeOf ds<n->xu ds es=true->A.units+xm ds<cLine->RepL X.K F ds xs->RepL X.K F es ys->Vals xs us->Vals ys vs ->
    ∀j (h1:j<us.length) (h2:j<vs.length),SeqAt.EqAt A s us[j] vs[j] (eqJ ds es j):=by
   intro ds
   induction ds with
   | nil=>
    intro es xs ys us vs A _ _ _ k1 _ w1 _ j h1;cases k1.nil_inv;cases w1;exact absurd h1 (pb _)
   | cons d ds ihd=>
    intro es xs ys us vs A hs ho hu k1 k2 w1 w2 j h1 h2;obtain⟨x,r,rfl,a1,a2⟩:=k1.cons_inv;cases w1 with
    | cons p1 p2=>
     cases es with
     | nil=>cases k2.nil_inv;cases w2;exact absurd h2 (pb _)
     | cons e es=>
      obtain⟨y,r',rfl,b1,b2⟩:=k2.cons_inv;cases w2 with
      | cons p3 p4=>
       simp only [xu,mh] at ho;have hs1:sizeOf d<n:=by simp only [uw] at hs;lia
       have hs2:sizeOf ds<n:=by simp only [uw] at hs;lia
       simp only [xm] at hu;cases j with
       | zero=>
        have e0:eqJ (d :: ds) (e :: es) 0=eqD d e:=by simp [eqJ]
        rw [e0];exact ih d e x y _ _ A hs1 ho.1 (by lia) a1 b1 p1 p3
       | succ j=>
        have e0:eqJ (d :: ds) (e :: es) (j+1)=eqJ ds es j:=by simp [eqJ]
        rw [e0];exact ihd es r r' _ _ A hs2 ho.2 (by lia) a2 b2 p2 p4 j (by simpa using h1) (by simpa using h2)
  rcases qd5 ok with⟨ds,es,rfl,rfl,ho⟩|⟨ds,es,rfl,rfl,ho⟩|⟨h1,h2⟩
  ·have rr:=qf9 I fh ok r1
   obtain⟨a,xs,rfl,k1,k2⟩:=rep_tup.mp r1;obtain⟨b,ys,rfl,k3,k4⟩:=rep_tup.mp r2;cases q1;cases q2
   by_cases hab:a=b
   ·subst hab
    rw [rr r2];exact g20 _
   ·obtain⟨i1,v1,t1,_⟩:=I.tuple (qz fh k1)
    obtain⟨i2,v2,t2,_⟩:=I.tuple (qz fh k3);simp only [q4f] at hu;refine SeqAt.EqAt.of_refs hab ?_;have hq:=seq ds es xs ys i1 i2 A.in1 (by simp only [D.tup.sizeOf_spec] at hn;lia) ho (by show A.units+1+xm ds<cLine;lia) k2 k4 v1 v2;have:=SeqAt.RcAt.tuples (A:=A) (e:=eqJ ds es) (show s.heap.IsTuple a i1.toArray from t1) (show s.heap.IsTuple b i2.toArray from t2) (by lia) (fun j h1 h2=>by simpa using hq j (by simpa using h1) (by simpa using h2));simp only [gj, <- v1.length, <- v2.length, <- k2.length, <- k4.length,vp] at this
    simpa only [eqD] using this
  ·have rr:=qf9 I fh ok r1
   obtain⟨a,xs,rfl,k1,k2⟩:=rep_lst.mp r1;obtain⟨b,ys,rfl,k3,k4⟩:=rep_lst.mp r2;cases q1;cases q2
   by_cases hab:a=b
   ·subst hab
    rw [rr r2];exact g20 _
   ·obtain⟨i1,v1,t1,_⟩:=I.list (fh.seq k1)
    obtain⟨i2,v2,t2,_⟩:=I.list (fh.seq k3);simp only [q4f] at hu;refine SeqAt.EqAt.of_refs hab ?_;have hq:=seq ds es xs ys i1 i2 A.in1 (by simp only [D.lst.sizeOf_spec] at hn;lia) ho (by show A.units+1+xm ds<cLine;lia) k2 k4 v1 v2;have hl1:i1.length=ds.length:=by rw [<- v1.length, <- k2.length]
    have hl2:i2.length=es.length:=by rw [<- v2.length, <- k4.length]
    simp only [eqD]
    by_cases hl:ds.length=es.length
    ·have:=SeqAt.RcAt.lists (A:=A) (e:=eqJ ds es) t1.isList t2.isList (by rw [gj,gj,hl1,hl2];exact hl) (by lia) (fun j h1 h2=>by simpa using hq j (by simpa using h1) (by simpa using h2))
     have e1:(List.range i1.toArray.size).all (eqJ ds es)=eqL ds es:=by
      rw [<- vp,gj,hl1, <- hl,g2g];simp
     rw [e1] at this;exact this
    ·have e1:eqL ds es=false:=by rw [<- vp];simp [hl]
     rw [e1];exact SeqAt.RcAt.lists_lengths t1.isList t2.isList (by rw [gj,gj,hl1,hl2];simpa using hl) (by lia)
  ·exact qi0 h1 h2 r1 r2 q1 q2
def qjy:D->D->Option D
 | .tup ds,.tup es=>if xu ds es&&decide (xm ds<=60) then some (.bl (eqL ds es)) else none
 | .lst ds,.lst es=>if xu ds es&&decide (xm ds<=60) then some (.bl (eqL ds es)) else none
 | _,_=>none
theorem qob(hu:X.A.units+64<cLine): OpR X (compareOp .Eq) (rD X.K qjy):=by
 intro pins s σ H x y v u Q I rx ry h;obtain⟨F,d1,d2,d,fh,r1,r2,ho,q⟩:=h;have part:∀ {ds es:List D} {xs ys:List V} {us vs:List Value},xu ds es=true->xm ds<=60->RepL X.K F ds xs->RepL X.K F es ys->Vals xs us->Vals ys vs ->
   ∀j (h1:j<us.length) (h2:j<vs.length),SeqAt.EqAt X.A.in1 s us[j] vs[j] (eqJ ds es j):=by
  intro ds
  induction ds with
  | nil=>
   intro es xs ys us vs _ _ k1 _ w1 _ j h1;cases k1.nil_inv;cases w1;exact absurd h1 (pb _)
  | cons d ds ihd=>
   intro es xs ys us vs ho hd k1 k2 w1 w2 j h1 h2;obtain⟨x,r,rfl,a1,a2⟩:=k1.cons_inv;cases w1 with
   | cons p1 p2=>
    cases es with
    | nil=>cases k2.nil_inv;cases w2;exact absurd h2 (pb _)
    | cons e es=>
     obtain⟨y,r',rfl,b1,b2⟩:=k2.cons_inv;cases w2 with
     | cons p3 p4=>
      simp only [xu,mh] at ho;simp only [xm] at hd;cases j with
      | zero=>
       have e0:eqJ (d :: ds) (e :: es) 0=eqD d e:=by simp [eqJ]
       rw [e0];exact qi1 I fh _ ho.1 (by show X.A.units+1+q4f d<cLine;lia) a1 b1 p1 p3
      | succ j=>
       have e0:eqJ (d :: ds) (e :: es) (j+1)=eqJ ds es j:=by simp [eqJ]
       rw [e0];exact ihd ho.2 (by lia) a2 b2 p2 p4 j (by simpa using h1) (by simpa using h2)
 unfold qjy at ho
 split at ho
 ·rename_i ds es
  split at ho
  ·rename_i hc
   cases ho;rw [mh] at hc;obtain⟨a,xs,rfl,k1,k2⟩:=rep_tup.mp r1;obtain⟨b,ys,rfl,k3,k4⟩:=rep_tup.mp r2;cases rx;cases ry;obtain⟨i1,v1,t1,_⟩:=I.tuple (qz fh k1);obtain⟨i2,v2,t2,_⟩:=I.tuple (qz fh k3);have hq:=part hc.1 (u6 hc.2) k2 k4 v1 v2;refine SeqAt.eq_tupleAt (e:=eqJ ds es) (show s.heap.IsTuple a i1.toArray from t1) (show s.heap.IsTuple b i2.toArray from t2) (by lia) (fun j h1 h2=>by simpa using hq j (by simpa using h1) (by simpa using h2)) ?_;simp only [gj, <- v1.length, <- v2.length, <- k2.length, <- k4.length,vp];exact⟨.bl _,H,I,rfl,q _ F H (.refl fh) (rep_bl.mpr rfl)⟩
  ·cases ho
 ·rename_i ds es
  split at ho
  ·rename_i hc
   cases ho;rw [mh] at hc;obtain⟨a,xs,rfl,k1,k2⟩:=rep_lst.mp r1;obtain⟨b,ys,rfl,k3,k4⟩:=rep_lst.mp r2;cases rx;cases ry;obtain⟨i1,v1,t1,_⟩:=I.list (fh.seq k1);obtain⟨i2,v2,t2,_⟩:=I.list (fh.seq k3);have hq:=part hc.1 (u6 hc.2) k2 k4 v1 v2;have hl1:i1.length=ds.length:=by rw [<- v1.length, <- k2.length]
   have hl2:i2.length=es.length:=by rw [<- v2.length, <- k4.length]
   by_cases hl:ds.length=es.length
   ·refine SeqAt.eq_listAt (e:=eqJ ds es) t1.isList t2.isList (by rw [gj,gj,hl1,hl2];exact hl) (by lia) (fun j h1 h2=>by simpa using hq j (by simpa using h1) (by simpa using h2)) ?_
    have e1:(List.range i1.toArray.size).all (eqJ ds es)=eqL ds es:=by
     rw [<- vp,gj,hl1, <- hl,g2g];simp
    rw [e1];exact⟨.bl _,H,I,rfl,q _ F H (.refl fh) (rep_bl.mpr rfl)⟩
   ·have e1:eqL ds es=false:=by rw [<- vp];simp [hl]
    rw [e1] at q;exact SeqAt.eq_list_lengthsAt t1.isList t2.isList (by rw [gj,gj,hl1,hl2];simpa using hl) (by lia) ⟨.bl _,H,I,rfl,q _ F H (.refl fh) (rep_bl.mpr rfl)⟩
  ·cases ho
 ·cases ho
abbrev oEq:D->D->Option D:=fun x y=>(qjs x y).or (qjy x y)
theorem q31(hu:X.A.units+64<cLine): OpR X (compareOp .Eq) (rD X.K oEq):=q6a qnz (qob hu)
end
def itN:Bool->String
 | true=>"list_iterator"
 | false=>"tuple_iterator"
def sqN:Bool->String
 | true=>"list"
 | false=>"tuple"
def SI(b:Bool)(h:Heap)(it l:Addr)(k:Nat): Prop:=∃o,h.get? it=some o/\o.cls=.type (itN b)/\o.data=.fields #[.ref l,.int k 0]
def SO(b:Bool)(h:Heap)(l:Addr)(xs:Array Value): Prop:=∃o,h.get? l=some o/\o.cls=.type (sqN b)/\∃n,o.data=.seq xs n
theorem SI.ext{b:Bool}{h h':Heap}{it l c:Addr}{k:Nat}(x:SI b h it l k)(e:Heap.ExtBut c h h')(n:it≠c): SI b h' it l k:=let⟨o,ho,r⟩:=x; ⟨o,e it o n ho,r⟩
theorem SO.ext{b:Bool}{h h':Heap}{l c:Addr}{xs:Array Value}(x:SO b h l xs)(e:Heap.ExtBut c h h')(n:l≠c): SO b h' l xs:=let⟨o,ho,r⟩:=x; ⟨o,e l o n ho,r⟩
theorem SI.keep{b:Bool}{h h':Heap}{it l:Addr}{k:Nat}(x:SI b h it l k)(e:∀o,h.get? it=some o->h'.get? it=some o): SI b h' it l k:=let⟨o,ho,r⟩:=x; ⟨o,e o ho,r⟩
section
variable{prog:Program}{w:World}{A:Around}{E:Value->Shared->Prop}{s:Shared}
theorem qa4{b:Bool}{it l:Addr}{k:Nat}{xs:Array Value}{x:Value}{Q:Value->Shared->Prop}(hi:SI b s.heap it l k)(ho:SO b s.heap l xs)(hx:xs[k]? = some x)
  (h:∀h',SI b h' it l (k+1)->Heap.SameBut it s.heap h'->Q x {s with heap:=h'}):wpAny (model prog w) A (Builtin.SmallTypes.nextOf (.ref it)) Q E s:=by
 cases b with
 | true=>exact wpAny_nextOf_list_item hi ho hx h
 | false=>
  obtain⟨o,e1,e2,e3⟩:=id hi;obtain⟨o2,f1,f2,n,f3⟩:=id ho;have ty:s.TypeIs (.ref it) "tuple_iterator" :=⟨o,e1,e2⟩
  unfold Builtin.SmallTypes.nextOf;refine g9 (p6 (name:=Str.ofString "__next__") ty tq (ug tq ty g1h ?_ (g1a _)));show wpAny _ _ (field (.ref it) 0 >>= _) _ _ s;refine g9 (my e1 e3 (x:=.ref l) rfl ?_);show wpAny _ _ (if(Value.ref l==Value.none)=true then _ else _) _ _ s;rw [gy (fun z:(Value.ref l==Value.none)=true=>gp z)];show wpAny _ _ (field (.ref it) 1 >>= _) _ _ s;refine g9 (my e1 e3 (x:=.int k 0) rfl ?_);show wpAny _ _ (seqItems? (.ref l) >>= _) _ _ s;refine g9 (pw f1 f3 ?_);simp only [g0h,hx];refine g9 (ux e1 e3 (by simp) (gh ⟨x,rfl,gh (h _ ⟨_,td _ e1 (uy (t7 e3 _)),(Obj.cls_mapFields ..).trans e2,?_⟩ (Heap.SameBut.update ..))⟩));rw [t7 e3];simp [rawInt]
theorem qfa{b:Bool}{it l:Addr}{k:Nat}{xs:Array Value}{Q:Value->Shared->Prop}(hh:A.handled=none)(hi:SI b s.heap it l k)(ho:SO b s.heap l xs)(hx:xs[k]? = none)
  (h:∀h' e,Heap.ExtBut it s.heap h'->(∃o,h'.get? e=some o/\o.cls=.type "StopIteration")->E (.ref e) {s with heap:=h'}):wpAny (model prog w) A (Builtin.SmallTypes.nextOf (.ref it)) Q E s:=by
 cases b with
 | true=>exact wpAny_nextOf_list_end hh hi ho hx h
 | false=>
  obtain⟨o,e1,e2,e3⟩:=id hi;obtain⟨o2,f1,f2,n,f3⟩:=id ho;have ty:s.TypeIs (.ref it) "tuple_iterator" :=⟨o,e1,e2⟩
  unfold Builtin.SmallTypes.nextOf;refine g9 (p6 (name:=Str.ofString "__next__") ty tq (ug tq ty g1h ?_ (g1a _)));show wpAny _ _ (field (.ref it) 0 >>= _) _ _ s;refine g9 (my e1 e3 (x:=.ref l) rfl ?_);show wpAny _ _ (if(Value.ref l==Value.none)=true then _ else _) _ _ s;rw [gy (fun z:(Value.ref l==Value.none)=true=>gp z)];show wpAny _ _ (field (.ref it) 1 >>= _) _ _ s;refine g9 (my e1 e3 (x:=.int k 0) rfl ?_);show wpAny _ _ (seqItems? (.ref l) >>= _) _ _ s;refine g9 (pw f1 f3 ?_);simp only [g0h,hx];refine g9 (g0z (g9 (ux e1 e3 (by simp) ?_)));show wpAny _ _ (newExc (.type "StopIteration") [] >>= _) _ _ _;refine g9 ?_;simp only [newExc,newTuple];refine g9 (nq (g9 (m:=firstArgMember _ _) (wpAny_of_eq (a:=Value.none) (by first|rfl|(simp only [firstArgMember];rfl)) (nq ?_ (by size_fits)))) (by size_fits));simp only [raiseNew];refine g9 (wpAny_handled ?_)
  first|rw [show A.in1.handled=none from hh]|rw [hh]
  exact g9 (gh (wpAny_throw (h _ _ (((Heap.SameBut.update ..).extBut.push _).push _) ⟨_,m4 _ rfl,rfl⟩)))
structure Z5(z ti to i1 i2:Addr): Prop where
 a1:ti≠z
 a2:to≠z
 a3:i1≠z
 a4:i2≠z
 a5:ti≠to
 a6:ti≠i1
 a7:ti≠i2
 a8:to≠i1
 a9:to≠i2
 a10:i1≠i2
structure Off(l z to i1 i2:Addr): Prop where
 z:l≠z
 o:l≠to
 i:l≠i1
 j:l≠i2
theorem qi2{b1 b2:Bool}{z ti to i1 i2 l1 l2:Addr}{k1 k2:Nat}{xs ys:Array Value}{x y p q:Value}{Q:Value->Shared->Prop}(D:Z5 z ti to i1 i2)(m1:Off l1 z to i1 i2)(m2:Off l2 z to i1 i2)
  (hz:IsZip s.heap z ti to .none) (ht:IsPair s.heap ti (.ref i1) (.ref i2)) (hp:IsPair s.heap to p q)
  (h1:SI b1 s.heap i1 l1 k1) (h2:SI b2 s.heap i2 l2 k2) (o1:SO b1 s.heap l1 xs) (o2:SO b2 s.heap l2 ys) (hx:xs[k1]? = some x) (hy:ys[k2]? = some y)
  (hQ:∀h',IsZip h' z ti to (rawInt s.heap.objs.size)->IsPair h' to x y->SI b1 h' i1 l1 (k1+1)->SI b2 h' i2 l2 (k2+1)->IsPair h' s.heap.objs.size x y->h'.objs.size=s.heap.objs.size+1 ->
   (∀c o,c≠z->c≠to->c≠i1->c≠i2->s.heap.get? c=some o->h'.get? c=some o)->Q (.ref s.heap.objs.size) {s with heap:=h'}) :
  wpAny (model prog w) A (Builtin.«zip.__next__» ⟨[.ref z],[]⟩) (fun fin s'=>∃v,fin=.done (.ret v)/\Q v s') E s:=by
 show wpAny _ _ (field (.ref z) 2 >>= _) _ _ _;refine g9 (my hz rfl (x:=.bool false) rfl ?_);show wpAny _ _ (field (.ref z) 3 >>= _) _ _ _;refine g9 (my hz rfl (x:=.ref ti) rfl (g9 (pw ht rfl ?_)));show wpAny _ _ (Builtin.SmallTypes.ownedTupleIsFree (.ref z) >>= _) _ _ _;refine g9 ?_;unfold Builtin.SmallTypes.ownedTupleIsFree;refine g9 (my hz rfl (x:=.none) rfl (gh ?_));simp only [p5];refine g9 (g0z (g9 (my hz rfl (x:=.ref to) rfl (g9 (t8 hz (by simp) fun g1 hz1 u1=>?_)))));have hz1':IsZip g1 z ti to .ellipsis:=hz1;refine g9 ?_;simp only [List.zipIdx_cons,List.zipIdx_nil,g06,g29];refine g9 (g9 (g1j ?_));show wpAny _ _ (Builtin.SmallTypes.nextOf (.ref i1) >>= _) _ _ _;refine g9 (qa4 (h1.ext u1.extBut D.a3) (o1.ext u1.extBut m1.z) hx fun g2 n1 u2=>gh ?_);have hp2:IsPair g2 to p q:=u2.extBut _ _ D.a8 (u1.extBut _ _ D.a2 hp);refine g9 (pw hp2 rfl (g9 (g10 hp2 fun g3 hp3 u3=>?_)));have hp3':IsPair g3 to x q:=hp3;refine g9 (wpAny_letGo (gh (g9 (g9 (g1j ?_)))));show wpAny _ _ (Builtin.SmallTypes.nextOf (.ref i2) >>= _) _ _ _;refine g9 (qa4 (((h2.ext u1.extBut D.a4).ext u2.extBut D.a10.symm).ext u3.extBut D.a9.symm) (((o2.ext u1.extBut m2.z).ext u2.extBut m2.i).ext u3.extBut m2.o) hy fun g4 n2 u4=>gh ?_);have hp4:IsPair g4 to x q:=u4.extBut _ _ D.a9 hp3';refine g9 (pw hp4 rfl (g9 (g10 hp4 fun g5 hp5 u5=>?_)));have hp5':IsPair g5 to x y:=hp5;refine g9 (wpAny_letGo (gh (gh (g9 (pw hp5' rfl (g9 (wpAny_newTuple ?_)))))));have hsz:g5.objs.size=s.heap.objs.size:=by rw [u5.1,u4.1,u3.1,u2.1,u1.1]
 have hz5:IsZip g5 z ti to .ellipsis:=u5.extBut _ _ D.a2.symm (u4.extBut _ _ D.a4.symm (u3.extBut _ _ D.a2.symm (u2.extBut _ _ D.a3.symm hz1')));have kp:∀c o,c≠z->c≠to->c≠i1->c≠i2->s.heap.get? c=some o->g5.get? c=some o:=fun c o c1 c2 c3 c4 e=>u5.extBut _ _ c2 (u4.extBut _ _ c4 (u3.extBut _ _ c2 (u2.extBut _ _ c3 (u1.extBut _ _ c1 e))));have j1:SI b1 g5 i1 l1 (k1+1):=((n1.ext u3.extBut D.a8.symm).ext u4.extBut D.a10).ext u5.extBut D.a8.symm;have j2:SI b2 g5 i2 l2 (k2+1):=n2.ext u5.extBut D.a9.symm;have hzl:z<g5.objs.size:=gq hz5;show wpAny _ _ (Builtin.SmallTypes.ownedTupleHandOut (.ref z) (.ref g5.objs.size) >>= _) _ _ _;refine g9 ?_;unfold Builtin.SmallTypes.ownedTupleHandOut;have hz6:IsZip (g5.push {cls:=.type "tuple",data:=.seq #[x,y]}) z ti to .ellipsis:=gc _ hz5;refine g9 (t8 hz6 (by simp) fun g7 hz7 u7=>?_);have hz7':IsZip g7 z ti to (rawInt g5.objs.size):=hz7;refine t8 hz7' (by simp) fun g8 hz8 u8=>?_;have hz8':IsZip g8 z ti to (rawInt g5.objs.size):=hz8;have up:∀c o,c≠z->g5.get? c=some o->g8.get? c=some o:=fun c o c1 e=>u8.extBut _ _ c1 (u7.extBut _ _ c1 (gc _ e));have hT:IsPair g8 g5.objs.size x y:=u8.extBut _ _ (ur hzl) (u7.extBut _ _ (ur hzl) (m4 _ rfl));have hl8:g8.objs.size=g5.objs.size+1:=by rw [u8.1,u7.1,pk]
 rw [hsz] at hz8' hT hl8;refine gh ⟨_,rfl,?_⟩;show Q (.ref g5.objs.size) _;rw [hsz];exact hQ g8 hz8' (up _ _ D.a2 hp5') (j1.keep fun o e=>up _ o D.a3 e) (j2.keep fun o e=>up _ o D.a4 e) hT hl8 fun c o c1 c2 c3 c4 e=>up c o c1 (kp c o c1 c2 c3 c4 e)
theorem qjz{b1 b2:Bool}{z ti to i1 i2 l1 l2:Addr}{k1 k2:Nat}{xs ys:Array Value}{p q:Value}{Q:Fin->Shared->Prop}(hh:A.handled=none)(D:Z5 z ti to i1 i2)(m1:Off l1 z to i1 i2)(m2:Off l2 z to i1 i2)
  (hz:IsZip s.heap z ti to .none) (ht:IsPair s.heap ti (.ref i1) (.ref i2)) (hp:IsPair s.heap to p q)
  (h1:SI b1 s.heap i1 l1 k1) (h2:SI b2 s.heap i2 l2 k2) (o1:SO b1 s.heap l1 xs) (o2:SO b2 s.heap l2 ys) (hend:xs[k1]? = none\/ys[k2]? = none)
  (hE:∀h' e,(∀c o,c≠z->c≠to->c≠i1->c≠i2->s.heap.get? c=some o->h'.get? c=some o)->(∃o,h'.get? e=some o/\o.cls=.type "StopIteration")->E (.ref e) {s with heap:=h'}) :
  wpAny (model prog w) A (Builtin.«zip.__next__» ⟨[.ref z],[]⟩) Q E s:=by
 show wpAny _ _ (field (.ref z) 2 >>= _) _ _ _;refine g9 (my hz rfl (x:=.bool false) rfl ?_);show wpAny _ _ (field (.ref z) 3 >>= _) _ _ _;refine g9 (my hz rfl (x:=.ref ti) rfl (g9 (pw ht rfl ?_)));show wpAny _ _ (Builtin.SmallTypes.ownedTupleIsFree (.ref z) >>= _) _ _ _;refine g9 ?_;unfold Builtin.SmallTypes.ownedTupleIsFree;refine g9 (my hz rfl (x:=.none) rfl (gh ?_));simp only [p5];refine g9 (g0z (g9 (my hz rfl (x:=.ref to) rfl (g9 (t8 hz (by simp) fun g1 hz1 u1=>?_)))));have hz1':IsZip g1 z ti to .ellipsis:=hz1;refine g9 ?_;simp only [List.zipIdx_cons,List.zipIdx_nil,g06,g29];refine g9 (g9 (g1j ?_));show wpAny _ _ (Builtin.SmallTypes.nextOf (.ref i1) >>= _) _ _ _;cases hx:xs[k1]? with
 | none=>
  refine g9 (qfa hh (h1.ext u1.extBut D.a3) (o1.ext u1.extBut m1.z) hx fun g2 e u2 he=>?_);obtain⟨oe,y1,y2⟩:=he;have hz2:IsZip g2 z ti to .ellipsis:=u2 _ _ D.a3.symm hz1';have ne:e≠z:=fun x=>by subst x;rw [hz2] at y1;cases y1;simp at y2
  exact t8 hz2 (by simp) fun g3 _ u3=>hE g3 e (fun c o c1 _ c3 _ x=>u3.extBut _ _ c1 (u2 _ _ c3 (u1.extBut _ _ c1 x))) ⟨oe,u3.extBut _ _ ne y1,y2⟩
 | some x=>
  have hy:ys[k2]? = none:=by rcases hend with h|h;rw [hx] at h;cases h;exact h
  refine g9 (qa4 (h1.ext u1.extBut D.a3) (o1.ext u1.extBut m1.z) hx fun g2 n1 u2=>gh ?_);have hp2:IsPair g2 to p q:=u2.extBut _ _ D.a8 (u1.extBut _ _ D.a2 hp);refine g9 (pw hp2 rfl (g9 (g10 hp2 fun g3 hp3 u3=>?_)));refine g9 (wpAny_letGo (gh (g9 (g9 (g1j ?_)))));show wpAny _ _ (Builtin.SmallTypes.nextOf (.ref i2) >>= _) _ _ _;refine g9 (qfa hh (((h2.ext u1.extBut D.a4).ext u2.extBut D.a10.symm).ext u3.extBut D.a9.symm) (((o2.ext u1.extBut m2.z).ext u2.extBut m2.i).ext u3.extBut m2.o) hy fun g4 e u4 he=>?_);obtain⟨oe,y1,y2⟩:=he;have hz4:IsZip g4 z ti to .ellipsis:=u4 _ _ D.a4.symm (u3.extBut _ _ D.a2.symm (u2.extBut _ _ D.a3.symm hz1'));have ne:e≠z:=fun x=>by subst x;rw [hz4] at y1;cases y1;simp at y2
  exact t8 hz4 (by simp) fun g5 _ u5=>hE g5 e (fun c o c1 c2 c3 c4 x=>u5.extBut _ _ c1 (u4 _ _ c4 (u3.extBut _ _ c2 (u2.extBut _ _ c3 (u1.extBut _ _ c1 x))))) ⟨oe,u5.extBut _ _ ne y1,y2⟩
theorem qgj{b1 b2:Bool}{z ti to i1 i2 l1 l2:Addr}{k1 k2:Nat}{xs ys:Array Value}{x y p q:Value}{Q:Option Value->Shared->Prop}(D:Z5 z ti to i1 i2)(m1:Off l1 z to i1 i2)(m2:Off l2 z to i1 i2)
  (hz:IsZip s.heap z ti to .none) (ht:IsPair s.heap ti (.ref i1) (.ref i2)) (hp:IsPair s.heap to p q)
  (h1:SI b1 s.heap i1 l1 k1) (h2:SI b2 s.heap i2 l2 k2) (o1:SO b1 s.heap l1 xs) (o2:SO b2 s.heap l2 ys) (hx:xs[k1]? = some x) (hy:ys[k2]? = some y)
  (hQ:∀h',IsZip h' z ti to (rawInt s.heap.objs.size)->IsPair h' to x y->SI b1 h' i1 l1 (k1+1)->SI b2 h' i2 l2 (k2+1)->IsPair h' s.heap.objs.size x y->h'.objs.size=s.heap.objs.size+1 ->
   (∀c o,c≠z->c≠to->c≠i1->c≠i2->s.heap.get? c=some o->h'.get? c=some o)->Q (some (.ref s.heap.objs.size)) {s with heap:=h'}) :
  wpAny (model prog w) A (pyNext (.ref z)) Q E s:=by
 have ty:s.TypeIs (.ref z) "zip" :=⟨_,hz,rfl⟩
 unfold pyNext;exact g9 (g0m (p6 (name:=Str.ofString "__next__") ty g11 (ug g11 ty F.entry_zip_next
  (qi2 D m1 m2 hz ht hp h1 h2 o1 o2 hx hy fun h' c1 c2 c3 c4 c5 c6 c7=>gh (hQ h' c1 c2 c3 c4 c5 c6 c7)) (F.args_zip_next_1 _))))
theorem qbo{b1 b2:Bool}{z ti to i1 i2 l1 l2:Addr}{k1 k2:Nat}{xs ys:Array Value}{p q:Value}{Q:Option Value->Shared->Prop}(hh:A.handled=none)(D:Z5 z ti to i1 i2)(m1:Off l1 z to i1 i2)(m2:Off l2 z to i1 i2)
  (hz:IsZip s.heap z ti to .none) (ht:IsPair s.heap ti (.ref i1) (.ref i2)) (hp:IsPair s.heap to p q)
  (h1:SI b1 s.heap i1 l1 k1) (h2:SI b2 s.heap i2 l2 k2) (o1:SO b1 s.heap l1 xs) (o2:SO b2 s.heap l2 ys) (hend:xs[k1]? = none\/ys[k2]? = none)
  (hQ:∀h',(∀c o,c≠z->c≠to->c≠i1->c≠i2->s.heap.get? c=some o->h'.get? c=some o)->Q none {s with heap:=h'}):wpAny (model prog w) A (pyNext (.ref z)) Q E s:=by
 have ty:s.TypeIs (.ref z) "zip" :=⟨_,hz,rfl⟩
 unfold pyNext;refine g9 (g0m (p6 (name:=Str.ofString "__next__") ty g11 (ug g11 ty F.entry_zip_next
  (qjz hh D m1 m2 hz ht hp h1 h2 o1 o2 hend fun h' e hk he=>?_) (F.args_zip_next_1 _))))
 obtain⟨o,y1,y2⟩:=he;exact g9 (wpAny_isInstance (T:="StopIteration") (b:=true) ⟨o,y1,y2⟩ isSubtype_stop (gh (hQ _ hk)))
theorem qb1{b:Bool}{l:Addr}{xs:Array Value}{Q:Value->Shared->Prop}(h:SO b s.heap l xs)(q:Q (.ref s.heap.objs.size) {s with heap:=s.heap.push {cls:=.type (itN b),data:=.fields #[.ref l,.int 0 0]} }):
  wpAny (model prog w) A (pyIter (.ref l)) Q E s:=by
 cases b with
 | true=>exact g1l h q
 | false=>exact wpAny_pyIter_tuple h q
end
def zh1(b1:Bool)(h:Heap)(l1:Addr): Heap:=h.push {cls:=.type (itN b1),data:=.fields #[.ref l1,.int 0 0]}
def zh2(b1 b2:Bool)(h:Heap)(l1 l2:Addr): Heap:=(zh1 b1 h l1).push {cls:=.type (itN b2),data:=.fields #[.ref l2,.int 0 0]}
def zh3(b1 b2:Bool)(h:Heap)(l1 l2:Addr): Heap:=(zh2 b1 b2 h l1 l2).push {cls:=.type "tuple",data:=.seq #[.ref h.objs.size,.ref (zh1 b1 h l1).objs.size]}
def zh4(b1 b2:Bool)(h:Heap)(l1 l2:Addr): Heap:=(zh3 b1 b2 h l1 l2).push {cls:=.type "tuple",data:=.seq #[.none,.none]}
def zh5(b1 b2:Bool)(h:Heap)(l1 l2:Addr): Heap:=(zh4 b1 b2 h l1 l2).push {cls:=.type "zip",data:=.fields #[.none,.bool false,.bool false,.ref (zh2 b1 b2 h l1 l2).objs.size,.ref (zh3 b1 b2 h l1 l2).objs.size]}
theorem SO.push{b:Bool}{h:Heap}{l:Addr}{xs:Array Value}(x:SO b h l xs)(o:Obj): SO b (h.push o) l xs:=let⟨u,e,r⟩:=x; ⟨u,gc _ e,r⟩
theorem qgk(b1 b2:Bool)(l1 l2:Addr)(xs ys:Array Value):
  Meets (Builtin.«zip.__new__» ⟨[.type "zip",.ref l1,.ref l2],[]⟩) (fun _ R s=>SO b1 s.heap l1 xs/\SO b2 s.heap l2 ys/\R (.ok (.ret (.ref (zh4 b1 b2 s.heap l1 l2).objs.size))) {s with heap:=zh5 b1 b2 s.heap l1 l2}):=
 .of_wp fun prog w A R s h=>by
  obtain⟨hp,gg,dd,tk,os⟩:=s;obtain⟨ha,hb,h⟩:=h;have hsub:=sub_zip;have f1:SO b1 (Shared.heap ⟨hp,gg,dd,tk,os⟩) l1 xs:=ha;have f2:SO b2 (Shared.heap ⟨hp.push {cls:=.type (itN b1),data:=.fields #[.ref l1,.int 0 0]},gg,dd,tk,os⟩) l2 ys:=SO.push hb _
  wp_walk using qb1 f1,qb1 f2
  exact⟨_,rfl,h⟩
section
variable{X:Cx}{pins:List (Addr×Obj)}{σ : St}{H:Hp}{s:Shared}{h':Heap}
theorem qfb{fp:List Addr}{t':Nat}(I:Inv X pins σ H s)(hf:∀b∈fp,q0y X pins H b)(k:∀b o,b∉fp->s.heap.get? b=some o->h'.get? b=some o): Inv X pins σ H {s with heap:=h',toks:=t'}:=by
 have nin:∀b u,H b=some u->b∉fp:=fun b u e hb=>by rw [(hf b hb).1] at e;cases e
 refine I.step (g':=s.gens) (d':=s.drawn) (ch:=fp) (fun b hb=>?_) (fun b o _ _ hc e _=>k b o hc e) (fun b o _ _ hc e _=>⟨o.slots,k b o hc e⟩) (fun _ _ _ _ n=>n)
  (fun b o hc e=>⟨o,k b o hc e⟩) (fun _ _ e=>e) (fun _ _ _ e=>e) (fun b ps e=>⟨#[],by rw [e];simp⟩) (fun m hm=>?_) (fun b u e=>?_) I.bare
 ·obtain⟨_,f1,_,f3,f4,f5⟩:=hf b hb
  exact⟨f3,f1,f4,f5⟩
 ·obtain⟨o,es,ep,ho,r⟩:=hm
  exact⟨o,es,ep,k _ o (fun z=>(hf _ z).2.1 rfl) ho,r⟩
 ·refine(I.hok b u e).stay (fun c v hc q=>k c v ?_ q) (fun _ q=>q) fun _ _ q=>q
  rcases hc with z|z
  ·rw [z];exact nin b u e
  ·exact nin c _ z
theorem adopt{p:Addr}{o:HO}(I:Inv X pins σ H s)(f:q0y X pins H p)(new:ObjOk X.prog X.w (upd H p o) s.heap p o): Inv X pins σ (upd H p o) s:=by
 have hp:=f.1;obtain⟨_,f1,_,f3,f4,f5⟩:=f;have ne:∀ {b:Addr} {u:HO},H b=some u->upd H p o b=some u:=fun {b u} e=>by rw [qo (xp e hp)];exact e
 refine I.step (h':=s.heap) (g':=s.gens) (t':=s.toks) (d':=s.drawn) (ch:=[p]) (fun b hb=>?_) (fun b o _ _ hc e _=>e) (fun b o _ _ hc e _=>⟨o.slots,e⟩) (fun b o hc e n=>?_)
  (fun b o hc e=>⟨o,e⟩) (fun _ _ e=>ne e) (fun _ _ _ e=>ne e) (fun b ps e=>⟨#[],by rw [ne e];simp⟩) (fun m hm=>hm) (fun b u e=>?_) I.bare
 ·obtain rfl:b=p:=by simpa using hb
  exact⟨f3,f1,f4,f5⟩
 ·rw [qo (fun z=>hc (by simp [z]))];exact n
 ·by_cases hb:b=p
  ·subst hb;rw [qy] at e;cases e;exact new
  ·rw [qo hb] at e
   exact(I.hok b u e).stay (fun c v _ q=>q) (fun c q=>ne q) fun c xs q=>ne q
def Sq:Bool->Frag->Hp->Addr->List V->Prop
 | true=>SqL
 | false=>SqT
theorem q7g{b:Bool}{a:Addr}{xs:List V}(I:Inv X pins σ H s)(h:Sq b X.K H a xs): ∃its:List Value,Vals xs its/\SO b s.heap a its.toArray:=by
 cases b with
 | true=>obtain⟨its,r,⟨o,n,e,c,_,d⟩,_⟩:=I.list h;exact⟨its,r,o,e,c,n,d⟩
 | false=>obtain⟨its,r,⟨o,e,c,n,d⟩,_⟩:=I.tuple h;exact⟨its,r,o,e,c,n,d⟩
theorem qi3{b:Bool}{a:Addr}{xs ys:List V}(I:Inv X pins σ H s)(h:Sq b X.K H a xs)(h':Sq b X.K H a ys): xs=ys:=by
 cases b with
 | true=>exact I.list_inj h h'
 | false=>exact I.tuple_inj h h'
theorem q1d{b:Bool}{K:Frag}{F H:Hp}{a:Addr}{xs:List V}(e:Same F H)(h:Sq b K F a xs): Sq b K H a xs:=by
 cases b with
 | true=>exact e.seq h
 | false=>exact qz e h
theorem q2m{b:Bool}{a c:Addr}{xs:List V}(I:Inv X pins σ H s)(h:Sq b X.K H a xs)(f:q0y X pins H c): a≠c:=by
 obtain⟨f0,f1,f2,f3,_⟩:=f;have inK:∀ {o:Obj},X.K.lookup a=some o->a≠c:=fun {o} hk z=>by
  subst z;have hb:X.base.get? a=some o:=I.mod.kin a o hk;rcases f3 with q|q
  ·exact I.ok.noex a o hb q
  ·exact absurd (m8 (gq hb) (mj I.ok.bsz q)) (pd _)
 have trk:∀ {u:HO},H a=some u->a≠c:=fun {u} e z=>by subst z;rw [f0] at e;cases e
 cases b with
 | true=>
  rcases h with(h|⟨o,h⟩)|⟨o,its,n,hk,_⟩
  ·exact trk h
  ·exact trk h
  ·exact inK hk
 | false=>
  rcases h with(h|⟨o,h⟩)|⟨o,its,n,hk,_⟩
  ·exact trk h
  ·exact trk h
  ·exact inK hk
end
def Itz(K:Frag)(b1:Bool)(a1:Addr)(b2:Bool)(a2:Addr): It:=
 ⟨fun i H=>∃xs ys x y,Sq b1 K H a1 xs/\Sq b2 K H a2 ys/\xs[i]? = some x/\ys[i]? = some y,
  fun i H v H'=>∃p x y,H p=none/\(∀xs,Sq b1 K H a1 xs->xs[i]? = some x)/\(∀ys,Sq b2 K H a2 ys->ys[i]? = some y)/\v=.ref p/\H'=upd H p (.tup [x,y]),
  fun i H=>∃xs ys,Sq b1 K H a1 xs/\Sq b2 K H a2 ys/\(xs.length<=i\/ys.length<=i)⟩
theorem qk0{P:Program}{w:World}{K:Frag}{elts:List Expr}{x1}{tp:Pos}{b1 b2:Bool}{a1 a2 z ti to i1 i2:Addr}(D:Z5 z ti to i1 i2):
  Turn P w K (.Tuple elts x1 tp) (Itz K b1 a1 b2 a2) [z,ti,to,i1,i2] z
   (fun i h=>IsZip h z ti to .none/\IsPair h ti (.ref i1) (.ref i2)/\(∃p q,IsPair h to p q)/\SI b1 h i1 a1 i/\SI b2 h i2 a2 i) where
 mem:=by simp
 obj:=fun i h ⟨c1,c2,⟨p,q,c3⟩,⟨o4,c4,_,d4⟩,⟨o5,c5,_,d5⟩⟩ b hb=>by
  simp only [m5,mz,nv] at hb;rcases hb with rfl|rfl|rfl|rfl|rfl
  ·exact⟨_,c1,fun v z=>by cases z⟩
  ·exact⟨_,c2,fun v z=>by cases z⟩
  ·exact⟨_,c3,fun v z=>by cases z⟩
  ·exact⟨_,c4,fun v z=>by rw [d4] at z;cases z⟩
  ·exact⟨_,c5,fun v z=>by rw [d5] at z;cases z⟩
 keep:=fun i h h' ⟨c1,c2,⟨p,q,c3⟩,c4,c5⟩ k=>⟨k _ (by simp) _ c1,k _ (by simp) _ c2,⟨p,q,k _ (by simp) _ c3⟩,c4.keep fun o e=>k _ (by simp) o e,c5.keep fun o e=>k _ (by simp) o e⟩
 item:=by
  intro X hP hw hK hc i pins s σ H E I hf st hg;subst hP hw hK;obtain⟨xs,ys,x,y,q1,q2,hx,hy⟩:=hg;obtain⟨its1,v1,o1⟩:=q7g I q1;obtain⟨its2,v2,o2⟩:=q7g I q2;obtain⟨u1,hu1,ru1⟩:=v1.get hx;obtain⟨u2,hu2,ru2⟩:=v2.get hy;obtain⟨c1,c2,⟨p,q,c3⟩,c4,c5⟩:=st;have off:∀ {b:Bool} {a:Addr} {ws:List V},Sq b X.K H a ws->Off a z to i1 i2:=fun h=>⟨q2m I h (hf _ (by simp)),q2m I h (hf _ (by simp)),q2m I h (hf _ (by simp)),q2m I h (hf _ (by simp))⟩
  refine qgj D (off q1) (off q2) c1 c2 c3 c4 c5 o1 o2 (x:=u1) (y:=u2) (by simpa using hu1) (by simpa using hu2) fun g n1 n2 n3 n4 n5 n6 n7=>?_;refine⟨_,rfl,wpAny_letOwnedTupleGo_zip n1 fun g2 m1 sb=>?_⟩;have hsz:z<s.heap.objs.size:=gq c1;have kp:∀c o,c∉[z,ti,to,i1,i2]->s.heap.get? c=some o->g2.get? c=some o:=fun c o hc e=>by
   simp only [m5,mz,nv,not_or] at hc;exact sb.extBut _ _ hc.1 (n7 c o hc.1 hc.2.2.1 hc.2.2.2.1 hc.2.2.2.2 e)
  have I1:Inv X pins σ H {s with heap:=g2}:=qfb (t':=s.toks) I hf kp;have fp:q0y X pins H s.heap.objs.size:=I.fpOk (gv _) I.fresh;have hT:IsPair g2 s.heap.objs.size u1 u2:=sb.extBut _ _ (ur hsz) n5;have I2:Inv X pins σ (upd H s.heap.objs.size (.tup [x,y])) {s with heap:=g2}:=
   adopt I1 fp ⟨by show 2<=sizeLine;decide,[u1,u2],.cons ru1 (.cons ru2 .nil),⟨_,hT,rfl,rfl,_,rfl⟩⟩
  refine⟨.ref s.heap.objs.size,_,I2,rfl,⟨_,x,y,I.fresh,fun ws h=>?_,fun ws h=>?_,rfl,rfl⟩,⟨m1,?_,⟨u1,u2,sb.extBut _ _ D.a2 n2⟩,n3.ext sb.extBut D.a3,n4.ext sb.extBut D.a4⟩,fun b hb=>?_⟩
  ·rw [qi3 I h q1];exact hx
  ·rw [qi3 I h q2];exact hy
  ·exact sb.extBut _ _ D.a1 (n7 _ _ D.a1 D.a5 D.a6 D.a7 c2)
  ·have hb0:=(hf b hb).1
   have:b≠s.heap.objs.size:=by
    simp only [m5,mz,nv] at hb;rcases hb with rfl|rfl|rfl|rfl|rfl
    ·exact ma hsz
    ·exact ma (gq c2)
    ·exact ma (gq c3)
    ·obtain⟨_,e,_⟩:=c4;exact ma (gq e)
    ·obtain⟨_,e,_⟩:=c5;exact ma (gq e)
   rw [qo this];exact hb0
 done:=by
  intro X hP hw hK hc i pins s σ H E I hf st hg;subst hP hw hK;obtain⟨xs,ys,q1,q2,hend⟩:=hg;obtain⟨its1,v1,o1⟩:=q7g I q1;obtain⟨its2,v2,o2⟩:=q7g I q2;obtain⟨c1,c2,⟨p,q,c3⟩,c4,c5⟩:=st;have off:∀ {b:Bool} {a:Addr} {ws:List V},Sq b X.K H a ws->Off a z to i1 i2:=fun h=>⟨q2m I h (hf _ (by simp)),q2m I h (hf _ (by simp)),q2m I h (hf _ (by simp)),q2m I h (hf _ (by simp))⟩
  refine qbo (I.ok.hd hc) D (off q1) (off q2) c1 c2 c3 c4 c5 o1 o2 ?_ fun g n7=>⟨rfl,qfb (t':=s.toks) I hf fun c o hc e=>?_⟩
  ·have l1:=v1.length
   have l2:=v2.length;rcases hend with h|h
   ·exact .inl (by simp;lia)
   ·exact .inr (by simp;lia)
  ·simp only [m5,mz,nv,not_or] at hc
   exact n7 c o hc.1 hc.2.2.1 hc.2.2.2.1 hc.2.2.2.2 e
 self:=fun A i s Q E st h=>wpAny_pyIter_zip st.1 h
def q1k(xs ys:List D): List D:=List.zipWith (fun a b=>.tup [a,b]) xs ys
theorem qm3{K:Frag}{F:Hp}{b1 b2:Bool}{a1 a2:Addr}{xs ys:List V}{ds es:List D}(h1:Sq b1 K F a1 xs)(h2:Sq b2 K F a2 ys)(r1:RepL K F ds xs)(r2:RepL K F es ys): ItD K F (q1k ds es) (Itz K b1 a1 b2 a2) where
 go:=fun i F' H s1 s2 hi=>by
  have hi':i<ds.length/\i<es.length:=by unfold q1k at hi;rw [g17] at hi;lia
  exact⟨xs,ys,xs[i]'(by rw [<- r1.length];exact hi'.1),ys[i]'(by rw [<- r2.length];exact hi'.2),q1d (s1.trans s2) h1,q1d (s1.trans s2) h2,by simp,by simp⟩
 yld:=fun i d F' H x H' s1 s2 hi ⟨p,x1,y1,hp,q1,q2,e1,e2⟩=>by
  subst e1 e2;unfold q1k at hi;rw [g2a] at hi;cases z1:ds[i]? with
  | none=>rw [z1] at hi;cases hi
  | some d1=>
   cases z2:es[i]? with
   | none=>rw [z1,z2] at hi;cases hi
   | some d2=>
    rw [z1,z2] at hi;cases hi;obtain⟨v1,k1,k2⟩:=r1.get z1;obtain⟨v2,k3,k4⟩:=r2.get z2;have w1:=q1 xs (q1d (s1.trans s2) h1);have w2:=q2 ys (q1d (s1.trans s2) h2);rw [k1] at w1;cases w1;rw [k3] at w2;cases w2;have gn:Grow F' H (upd F' p (.tup [x1,y1])) (upd H p (.tup [x1,y1])):=Grow.new s2 hp;exact⟨_,gn,rep_tup.mpr ⟨p,_,rfl,SqT.of qy,.cons ((k2.mono s1).mono gn.ff) (.cons ((k4.mono s1).mono gn.ff) .nil)⟩⟩
 stop:=fun i F' H s1 s2 hi=>by
  unfold q1k at hi;rw [g17] at hi;refine⟨xs,ys,q1d (s1.trans s2) h1,q1d (s1.trans s2) h2,?_⟩;rw [<- r1.length, <- r2.length];lia
section
variable{X:Cx}{pos:Pos}{elts:List Expr}{x1:Nat}{tp:Pos}
def qr9(K:Frag)(ta:TA): TI:=fun σ H R=>ta σ H fun vs H1=>∃b1 a1 xs b2 a2 ys,vs=[.ref a1,.ref a2]/\Sq b1 K H1 a1 xs/\Sq b2 K H1 a2 ys/\R (Itz K b1 a1 b2 a2) H1
theorem qi4:bootBuiltins "zip" = some (.type "zip"):=by decide +kernel
theorem qoc{a b:Expr}{ta:TA}{p:Pos}(hg:Gl X "zip")(hm:X.mg "zip" = none)(ha:PA X [a,b] ta)(hs:starEach [a,b] X.env=[(false,eval a X.env),(false,eval b X.env)]:=by rfl)(hs2:starEach [b] X.env=[(false,eval b X.env)]:=by rfl):
  PI X (.Tuple elts x1 tp) (.Call (.Name "zip" p) [a,b] [] pos) (qr9 X.K ta):=by
 intro pins s σ H R I h;refine Call_ (q1h I hg hm qi4 (n9 (thn (ha pos pins s σ H _ I h) fun us s1 ⟨vs,H1,I1,r1,q1⟩=>?_) (by rw [hs,hs2]) (by rw [hs2];rfl)));obtain⟨b1,a1,xs,b2,a2,ys,rfl,k1,k2,q⟩:=q1;obtain⟨u1,u2,rfl,e1,e2⟩:=r1.two;cases e1;cases e2;obtain⟨its1,v1,o1⟩:=q7g I1 k1;obtain⟨its2,v2,o2⟩:=q7g I1 k2;refine callType_new F.called_zip (by decide) (F.typeCall_zip_2 _ _) (F.newCall_zip_2 _ _) (fun obj=>F.args_object_init_3 obj _ _) F.entry_zip_new (qgk b1 b2 a1 a2 its1.toArray its2.toArray) ⟨o1,o2,?_⟩;have z1:(zh1 b1 s1.heap a1).objs.size=s1.heap.objs.size+1:=pk ..;have z2:(zh2 b1 b2 s1.heap a1 a2).objs.size=s1.heap.objs.size+2:=by unfold zh2;rw [pk,z1]
 have z3:(zh3 b1 b2 s1.heap a1 a2).objs.size=s1.heap.objs.size+3:=by unfold zh3;rw [pk,z2]
 have z4:(zh4 b1 b2 s1.heap a1 a2).objs.size=s1.heap.objs.size+4:=by unfold zh4;rw [pk,z3]
 have g5:(zh5 b1 b2 s1.heap a1 a2).get? (zh4 b1 b2 s1.heap a1 a2).objs.size=some {cls:=.type "zip",data:=.fields #[.none,.bool false,.bool false,.ref (zh2 b1 b2 s1.heap a1 a2).objs.size,.ref (zh3 b1 b2 s1.heap a1 a2).objs.size]}:=m4 _ rfl;have g4:(zh5 b1 b2 s1.heap a1 a2).get? (zh3 b1 b2 s1.heap a1 a2).objs.size=some {cls:=.type "tuple",data:=.seq #[.none,.none]}:=gc _ (m4 _ rfl);have g3:(zh5 b1 b2 s1.heap a1 a2).get? (zh2 b1 b2 s1.heap a1 a2).objs.size=some {cls:=.type "tuple",data:=.seq #[.ref s1.heap.objs.size,.ref (zh1 b1 s1.heap a1).objs.size]}:=gc _ (gc _ (m4 _ rfl));have g2:(zh5 b1 b2 s1.heap a1 a2).get? (zh1 b1 s1.heap a1).objs.size=some {cls:=.type (itN b2),data:=.fields #[.ref a2,.int 0 0]}:=gc _ (gc _ (gc _ (m4 _ rfl)));have g1:(zh5 b1 b2 s1.heap a1 a2).get? s1.heap.objs.size=some {cls:=.type (itN b1),data:=.fields #[.ref a1,.int 0 0]}:=gc _ (gc _ (gc _ (gc _ (m4 _ rfl))));have kp:∀c o,s1.heap.get? c=some o->(zh5 b1 b2 s1.heap a1 a2).get? c=some o:=fun c o e=>gc _ (gc _ (gc _ (gc _ (gc _ e))));have I2:Inv X pins σ H1 {s1 with heap:=zh5 b1 b2 s1.heap a1 a2}:=I1.kept (t':=s1.toks) kp;refine⟨⟨_,g5,rfl⟩,wpAny_pyIter_zip g5 ?_⟩;refine⟨_,_,_,_,H1,rfl,I2,qk0 (b1:=b1) (b2:=b2) (a1:=a1) (a2:=a2) (i1:=s1.heap.objs.size) (i2:=(zh1 b1 s1.heap a1).objs.size) ?_,⟨g5,g3,⟨_,_,g4⟩,⟨_,g1,rfl,rfl⟩,⟨_,g2,rfl,rfl⟩⟩,fun c hc=>?_,q⟩
 ·constructor <;> (first|exact ma (by lia)|exact ur (by lia))
 ·have hge:s1.heap.objs.size<=c:=by
   simp only [m5,mz,nv] at hc;rcases hc with rfl|rfl|rfl|rfl|rfl <;> lia
  exact I1.fpOk hge (I1.hok.fresh hge)
def qd6(fa:FA): FA:=fun ρ =>(fa ρ).bind fun ds=>match ds with
 | [x,y]=>(q3i x).bind fun xs=>(q3i y).map fun ys=>q1k xs ys
 | _=>none
theorem qfc{K:Frag}{F:Hp}{d:D}{ds:List D}{v:V}(h:q3i d=some ds)(r:Rep K F d v): ∃b a xs,v=.ref a/\Sq b K F a xs/\RepL K F ds xs:=by
 cases d <;> simp only [q3i] at h <;> first|(cases h;done)|skip
 ·cases h
  obtain⟨a,xs,rfl,h3,h4⟩:=rep_tup.mp r;exact⟨false,a,xs,rfl,h3,h4⟩
 ·cases h
  obtain⟨a,xs,rfl,h3,h4⟩:=rep_lst.mp r;exact⟨true,a,xs,rfl,h3,h4⟩
theorem qod{a b:Expr}{fa:FA}{p:Pos}(hg:Gl X "zip")(hm:X.mg "zip" = none)(ha:PA X [a,b] (tDA X.K fa))(hs:starEach [a,b] X.env=[(false,eval a X.env),(false,eval b X.env)]:=by rfl)(hs2:starEach [b] X.env=[(false,eval b X.env)]:=by rfl):
  PI X (.Tuple elts x1 tp) (.Call (.Name "zip" p) [a,b] [] pos) (tDI X.K (qd6 fa)):=qct (qoc hg hm ha hs hs2) fun σ H R ⟨F0,H0,F, ρ,ds,r,hf,q⟩=>by
 obtain⟨es,h1,h2⟩:=g6.mp hf;refine⟨F0,H0,F, ρ,es,r,h1,fun vs F' H' g' r'=>?_⟩
 split at h2
 ·rename_i x y
  obtain⟨xs,k1,h2⟩:=g6.mp h2;obtain⟨ys,k2,h2⟩:=gi.mp h2;subst h2;obtain⟨v1,t,rfl,e1,e2⟩:=r'.cons_inv;obtain⟨v2,t2,rfl,e3,e4⟩:=e2.cons_inv;cases e4.nil_inv;obtain⟨b1,a1,us,rfl,s1,l1⟩:=qfc k1 e1;obtain⟨b2,a2,ws,rfl,s2,l2⟩:=qfc k2 e3;exact⟨b1,a1,us,b2,a2,ws,rfl,q1d g'.fh s1,q1d g'.fh s2,q _ F' H' g' (qm3 s1 s2 l1 l2)⟩
 ·cases h2
end
section
variable{X:Cx}{e:Expr}{es:List Expr}{kws:List Keyword}{pos:Pos}{f g:FE}{fa fk:FA}
def qk1(n m:Nat)(fa fk:FA): FA:=fun ρ =>(fa ρ).bind fun ds=>(fk ρ).bind fun es=>if ds.length=n/\es.length=m then some (ds++es) else none
theorem qq5{K:Frag}{fd:FuncData}{ps:List Str}{dv:List Value}(n:Nat)(hn:n+dv.length=ps.length)(h:∀(s:Shared) (us:List Value),K.In s.heap->us.length=n->BindsTo s fd ⟨us,[]⟩ (ps.zip (us++dv))): Binds K fd ps dv:=
 fun s us hk hl=>h s us hk (by rw [mv] at hl;omega)
def qgl(ar:Nat)(op:List D->Option D): List D->Option D:=fun ds=>if ds.length=ar then op ds else none
end
structure Cal(P:Program)(w:World)(K:Frag)(mg:Str->Option Value)(base:Heap)(x:Str)(k:Nat)(ps:List Str)(ar:Nat)(op:List D->Option D)(fn:Addr)(fd:FuncData): Prop where
 ok:FnOk P w K mg base CX0 k fn fd ps (spD K ar op)
 mg:mg x=some (.ref fn)
 kp:PySem.W.keepIn K (.ref fn)=true
section
variable{X:Cx}{e:Expr}{es:List Expr}{kws:List Keyword}{pos p:Pos}{fa fk:FA}{k ar k':Nat}{fn:Addr}{fd:FuncData}{ps ks:List Str}{op:List D->Option D}{x:Str}
theorem zh(C:Cal X.prog X.w X.K X.mg X.base x k ps ar op fn fd)(b:Binds X.K fd ps [])(hr:Room k' X.A)(hk:k<=k')(hg:Gl X x)(ha:PA X (e :: es) (tDA X.K fa))(hdb:(x==("__debug__" : Str))=false:=by decide)
  (he:starEach (e :: es) X.env=(false,eval e X.env) :: starEach es X.env:=by rfl) (hpl:(backTo pos (starEach es X.env)).any (·.1)=false:=by rfl):PE X (.Call (.Name x p) (e :: es) [] pos) (tD X.K (qm (qq ar [] op) fa)):=
 qm1 C.ok (hr.mono hk) hg C.mg C.kp b .nil (fun H=>.nil) ha hdb he hpl
theorem yi{i:Int}(hg:Gl X x)(hm:∃t,X.mg x=some (.int i t))(hdb:(x==("__debug__" : Str))=false:=by decide): PE X (.Name x p) (tD X.K (eC (.int i))):=by
 obtain⟨t,hm⟩:=hm;exact q3f (vg hg hm (v:=.int i) ⟨t,rfl⟩ hdb) fun _=>rep_int.mpr rfl
def q4g:D->Option D
 | .int i=>some (.int (-i))
 | _=>none
theorem q3k{f:FE}(ha:PE X e (tD X.K f)): PE X (.UnaryOp .USub e pos) (tD X.K (eUn q4g f)):=by
 intro pins s σ H Q I h;obtain⟨F0,H0,F, ρ,d,r,hf,q⟩:=h;obtain⟨d',h1,h2⟩:=g6.mp hf;cases d' <;> simp only [q4g] at h2 <;> first|(cases h2;done)|skip
 cases h2;refine UnaryOp_ (thn (ha pins s σ H (fun v H'=>∃F',Grow F H F' H'/\Rep X.K F' (.int _) v) I ⟨F0,H0,F, ρ,_,r,h1,fun v F' H' g' r'=>⟨F',g',r'⟩⟩) fun v s1 ⟨x,H1,I1,r1,F',g',r'⟩=>?_);cases rep_int.mp r';obtain⟨t,rfl⟩:=r1;exact neg_int ⟨.int _,H1,I1.tok _,⟨_,rfl⟩,q _ F' H1 g' (rep_int.mpr rfl)⟩
end
structure Fun2(K:Frag)(x qual:Str)(st:Stmt)(dV:Value)(f:Addr)(fd:FuncData): Prop where
 ex:∃(oc:Value) (od:Option Addr) (kV doc pm:Value) (an:Option Addr) (cdv ct:Value) (osl:Array (Option Value)),
  fd=PySem.W.fnOf x qual (v9 st) (qr st) (qg st) dV kV doc pm an cdv ct/\K.lookup f=some ⟨oc,od,.func fd,osl⟩/\PySem.W.codeIn K cdv qual=true
 kp:PySem.W.keepIn K (.ref f)=true
section
variable{P:Program}{w:World}{K:Frag}{mg:Str->Option Value}{base:Heap}{x qual:Str}{st:Stmt}{dV:Value}{f:Addr}{fd:FuncData}{N ps:List Str}
theorem Fun2.ok{k:Nat}{u:FS}(F:Fun2 K x qual st dV f fd)(S:FnScope N ps (qg st))
  (hb:∀(cdv:Value) (A:Around) (outer:List Env) (s:Shared) (H:Hp) (E:XK),Room k (A.deeper (envOfC qual (qg st) s.heap.objs.size f cdv))->PSs (qx CX0 P w K mg base N qual (qg st) f cdv A outer s H E).nox (qr st) (tDS K u)) :
  FnOk P w K mg base CX0 (k+1) f fd ps (spD K ps.length (jr N.length u)):=by
 obtain⟨oc,od,kV,doc,pm,an,cdv,ct,osl,rfl,lk,hcd⟩:=F.ex;exact qq2 lk hcd S fun A outer s H E hr=>hb cdv A outer s H E hr
theorem Fun2.okn{k n ar k1:Nat}{u:FS}(F:Fun2 K x qual st dV f fd)(S:FnScope N ps (qg st))(hn:N.length=n)(ha:ps.length=ar)(hk:k+1=k1)
  (hb:∀(cdv:Value) (A:Around) (outer:List Env) (s:Shared) (H:Hp) (E:XK),Room k (A.deeper (envOfC qual (qg st) s.heap.objs.size f cdv))->PSs (qx CX0 P w K mg base N qual (qg st) f cdv A outer s H E).nox (qr st) (tDS K u)) :
  FnOk P w K mg base CX0 k1 f fd ps (spD K ar (jr n u)):=by
 subst hn ha hk;exact F.ok S hb
theorem k6{oc:Value}{od an:Option Addr}{osl:Array (Option Value)}{kV doc pm cdv ct:Value}(l:K.lookup f=some ⟨oc,od,.func (PySem.W.fnOf x qual (v9 st) (qr st) (qg st) dV kV doc pm an cdv ct),osl⟩)
  (c:PySem.W.codeIn K cdv qual=true) (k:PySem.W.keepIn K (.ref f)=true):Fun2 K x qual st dV f (PySem.W.fnOf x qual (v9 st) (qr st) (qg st) dV kV doc pm an cdv ct):=⟨⟨oc,od,kV,doc,pm,an,cdv,ct,osl,rfl,l,c⟩,k⟩
theorem Fun2.bindsTo(F:Fun2 K x qual st dV f fd){P:FuncData->Prop}(h:∀(kV doc pm:Value) (an:Option Addr) (cdv ct:Value),P (PySem.W.fnOf x qual (v9 st) (qr st) (qg st) dV kV doc pm an cdv ct)): P fd:=by
 obtain⟨oc,od,kV,doc,pm,an,cdv,ct,osl,rfl,lk,hcd⟩:=F.ex;exact h kV doc pm an cdv ct
end
def qcc(K:Frag): Sp:=fun vs H Q _=>∃(a:Addr) (ns:List Int) (F:Hp),vs=[.ref a]/\SameT F H/\SqL K F a (ns.map V.int)/\ns.length<=63/\∀H',Q (.bl true) H'
theorem qoe{P:Program}{w:World}{K:Frag}{mg:Str->Option Value}{base:Heap}{k:Nat}{f:Addr}{fd:FuncData}{x:Str}{op:List D->Option D}(F:FnOk P w K mg base CX0 k f fd [x] (spD K 1 op))(h:∀ns:List Int,ns.length<=63->op [.lst (ns.map .int)]=some (.bl true)):
  FnOk P w K mg base CX0 k f fd [x] (qcc K):=F.imp fun vs H Q E ⟨a,ns,Fz,e,fz,hS,hl,q⟩=>by
 subst e;exact⟨Fz,[.lst (ns.map .int)],.bl true,fz,.cons (rep_lst.mpr ⟨a,_,rfl,hS,RepL.ints.mpr rfl⟩) .nil,rfl,h ns hl,fun v F' H' g' r'=>by rw [rep_bl.mp r'];exact q H'⟩
theorem qof(ht:Lam.tab=[]){l:PySem.W.OpenLaw}{k:Nat}{x:Str}{q:Program}{loose:List Str}{XP:(Str->Option Value)->Heap->Prop}{YP:World->Heap->Prop}{d:DefRec}{K:Params->Frag}(hn:l.most=some 63)(hdf:d.params.defaults=[])(hk:Room k callerA)
  (hY:∀(w:World) (h:Heap),YP w h->(K w.params).In h)
  (F:∀(w:World) (mg:Str->Option Value) (fa:Addr) (h:Heap),(K w.params).In h->h.Ns mainGlobals mg->mg d.name=some (.ref fa) ->
   ∃fd:FuncData,(∀(s:Shared) (u:Value),BindsTo s fd ⟨[u],[]⟩ [(x,u)])/\∀base:Heap,(K w.params).In base->base.Ns mainGlobals mg->FnOk l.prog w (K w.params) mg base CX0 k fa fd [x] (qcc (K w.params))) :
  PySem.W.WalkO q loose XP YP l.row.toRowW d [] (fun f vs=>PySem.call f vs):=
 L2.qlx (n:=63) (k:=k) (x:=x) (CX:=fun _=>CX0) (sp:=fun w=>qcc (K w.params)) hn (by decide) hdf hk hY F (fun _ H a ns hl _ hS=>⟨a,ns,H,rfl,⟨.refl _,fun p hp=>(by rw [ht] at hp;cases hp),fun p hp=>(by rw [ht] at hp;cases hp)⟩,hS,hl,fun _=>rfl⟩) fun _ _ _ _ _ z=>z
section
variable{X:Cx}{pos:Pos}{f g:FE}{a b:Expr}
abbrev oLt':=oLt
theorem q3l:OpR X (compareOp .Lt) (rD X.K oLt'):=qpx
end
section
variable{X:Cx}{pos:Pos}{f g k:FE}{a b c:Expr}
theorem qm4{pins:List (Addr×Obj)}{σ : St}{H:Hp}{s:Shared}(I:Inv X pins σ H s): sysModules<s.heap.objs.size:=
 Nat.lt_trans (by decide) (I.mod.glob.keeps I.bk).lt
def qgm:FE:=fun _=>some (.dct [] [])
theorem qd7:PE X (.Dict [] [] pos) (tD X.K qgm):=fun pins s σ H Q I ⟨F0,H0,F, ρ,d,r,hf,q⟩=>by
 cases hf;refine wpAny_Dict_empty ⟨.ref s.heap.objs.size,_,I.laid (a:=s.heap.objs.size) (o:=.dK []) (t':=s.toks) (fun _ _ z=>gc _ z) (gv _)
  ⟨g1c _,pf.mpr (gu (ma (qm4 I))),[],.nil,Heap.DictOf.new s.heap⟩,rfl,?_⟩
 have hn:H s.heap.objs.size=none:=I.hok.fresh (gv _);exact q _ _ _ (Grow.new r.fh hn) (rep_dct.mpr ⟨_,[],rfl,qy,rfl,.nil⟩)
def q3m(o1 o2:D->D->Option D)(a b c:FE): FE:=fun ρ =>(a ρ).bind fun x=>(b ρ).bind fun y=>(o1 x y).bind fun r=>(isB r).bind fun q=>if q then(c ρ).bind fun z=>o2 y z else some (.bl false)
theorem qm5{o1 o2:D->D->Option D}{σ : St}{H:Hp}{Q:VK}(h:tD X.K (q3m o1 o2 f g k) σ H Q): qhb (rD X.K o1) (rD X.K o2) (tD X.K f) (tD X.K g) (tD X.K k) σ H Q:=by
 obtain⟨F0,H0,F, ρ,d,r,hf,q⟩:=h;obtain⟨x,e1,hf1⟩:=g6.mp hf;obtain⟨y,e2,hf2⟩:=g6.mp hf1;obtain⟨z,e3,hf3⟩:=g6.mp hf2;obtain⟨kq,e4,hf4⟩:=g6.mp hf3;refine⟨F0,H0,F, ρ,x,r,e1,fun v F1 H1 g1 r1=>⟨F0,H0,F1, ρ,y,r.grow g1,e2,fun u F2 H2 g2 r2=>⟨F2,x,y,z,g2.fh,r1.mono g2.ff,r2,e3,fun w F3 H3 g3 r3=>?_⟩⟩⟩;have ez:=q8c e4;subst ez;refine⟨kq,rep_bl.mp r3,?_⟩;cases kq with
 | false=>
  rw [gy gp] at hf4 ⊢;cases hf4;exact q _ F3 H3 (g1.trans (g2.trans g3)) (rep_bl.mpr rfl)
 | true=>
  rw [gr rfl] at hf4 ⊢;obtain⟨zz,e5,e6⟩:=g6.mp hf4;exact⟨F0,H0,F3, ρ,zz,r.grow (g1.trans (g2.trans g3)),e5,fun w' F4 H4 g4 r4=>⟨F4,y,zz,d,g4.fh,(r2.mono g3.ff).mono g4.ff,r4,e6,fun w5 F5 H5 g5 r5=>q w5 F5 H5 ((g1.trans (g2.trans g3)).trans (g4.trans g5)) r5⟩⟩
theorem qk2{op op':CmpOp}{o1 o2:D->D->Option D}(h1:OpR X (compareOp op) (rD X.K o1))(h2:OpR X (compareOp op') (rD X.K o2))(ha:PE X a (tD X.K f))(hb:PE X b (tD X.K g))(hc:PE X c (tD X.K k))
  (hm:lastMarks [op,op'] [b,c]=false:=by with_unfolding_all rfl):PE X (.Compare a [op,op'] [b,c] pos) (tD X.K (q3m o1 o2 f g k)):=
 zl (qj9 h1 h2 ha hb hc hm) fun σ H Q h=>qm5 h
def q7h:D->D->Bool
 | .non,.non=>true
 | .bl a,.bl b=>a==b
 | _,_=>false
def oIs(neg:Bool): D->D->Option D
 | x,.non=>some (.bl (if neg then !q7h x .non else q7h x .non))
 | x,.bl b=>some (.bl (if neg then !q7h x (.bl b) else q7h x (.bl b)))
 | _,_=>none
theorem qq6{M:Model}{A:Around}{E:Value->Shared->Prop}{s:Shared}{Q:Value->Shared->Prop}{v:Value}{c:Bool}(hv:∀id,v ≠ .builtin id)(h:Q (.bool (v == .bool c)) s): wpAny M A (compareOp .Is v (.bool c)) Q E s:=by
 cases v <;> first|exact gh h|exact absurd rfl (hv _)
theorem qk3{M:Model}{A:Around}{E:Value->Shared->Prop}{s:Shared}{Q:Value->Shared->Prop}{v:Value}{c:Bool}(hv:∀id,v ≠ .builtin id)(h:Q (.bool (!(v == .bool c))) s): wpAny M A (compareOp .IsNot v (.bool c)) Q E s:=by
 cases v <;> first|exact gh h|exact absurd rfl (hv _)
theorem qi5{K:Frag}{F:Hp}{d:D}{x:V}{v:Value}(r:Rep K F d x)(rv:RelV x v): ∀id,v ≠ .builtin id:=by
 intro id;cases d with
 | non=>cases rep_non.mp r;cases rv;intro z;cases z
 | bl b=>cases rep_bl.mp r;cases rv;intro z;cases z
 | int i=>cases rep_int.mp r;obtain⟨t,rfl⟩:=rv;intro z;cases z
 | str i=>cases rep_str.mp r;obtain⟨t,rfl⟩:=rv;intro z;cases z
 | tup ds=>obtain⟨p,xs,rfl,_⟩:=rep_tup.mp r;cases rv;intro z;cases z
 | lst ds=>obtain⟨p,xs,rfl,_⟩:=rep_lst.mp r;cases rv;intro z;cases z
 | dct ks vs=>obtain⟨p,xs,rfl,_⟩:=rep_dct.mp r;cases rv;intro z;cases z
 | dtt ks vs=>obtain⟨p,xs,ys,ep,rfl,_⟩:=rep_dtt.mp r;cases rv;intro z;cases z
 | obj C=>obtain⟨p,dx,_,rfl,_⟩:=rep_obj.mp r;cases rv;intro z;cases z
 | exc C _=>obtain⟨p,_,rfl,_⟩:=rep_exc.mp r;cases rv;intro z;cases z
theorem qd8{K:Frag}{F:Hp}{d:D}{x:V}{v:Value}(r:Rep K F d x)(rv:RelV x v): (v==Value.none)=q7h d .non:=by
 cases d with
 | non=>cases rep_non.mp r;cases rv;rfl
 | bl b=>cases rep_bl.mp r;cases rv;rfl
 | int i=>cases rep_int.mp r;obtain⟨t,rfl⟩:=rv;rfl
 | str i=>cases rep_str.mp r;obtain⟨t,rfl⟩:=rv;rfl
 | tup ds=>obtain⟨p,xs,rfl,_⟩:=rep_tup.mp r;cases rv;rfl
 | lst ds=>obtain⟨p,xs,rfl,_⟩:=rep_lst.mp r;cases rv;rfl
 | dct ks vs=>obtain⟨p,xs,rfl,_⟩:=rep_dct.mp r;cases rv;rfl
 | dtt ks vs=>obtain⟨p,xs,ys,ep,rfl,_⟩:=rep_dtt.mp r;cases rv;rfl
 | obj C=>obtain⟨p,dx,_,rfl,_⟩:=rep_obj.mp r;cases rv;rfl
 | exc C _=>obtain⟨p,_,rfl,_⟩:=rep_exc.mp r;cases rv;rfl
theorem qfd{K:Frag}{F:Hp}{d:D}{x:V}{v:Value}{c:Bool}(r:Rep K F d x)(rv:RelV x v): (v==Value.bool c)=q7h d (.bl c):=by
 cases d with
 | non=>cases rep_non.mp r;cases rv;rfl
 | bl b=>cases rep_bl.mp r;cases rv;cases b <;> cases c <;> rfl
 | int i=>cases rep_int.mp r;obtain⟨t,rfl⟩:=rv;rfl
 | str i=>cases rep_str.mp r;obtain⟨t,rfl⟩:=rv;rfl
 | tup ds=>obtain⟨p,xs,rfl,_⟩:=rep_tup.mp r;cases rv;rfl
 | lst ds=>obtain⟨p,xs,rfl,_⟩:=rep_lst.mp r;cases rv;rfl
 | dct ks vs=>obtain⟨p,xs,rfl,_⟩:=rep_dct.mp r;cases rv;rfl
 | dtt ks vs=>obtain⟨p,xs,ys,ep,rfl,_⟩:=rep_dtt.mp r;cases rv;rfl
 | obj C=>obtain⟨p,dx,_,rfl,_⟩:=rep_obj.mp r;cases rv;rfl
 | exc C _=>obtain⟨p,_,rfl,_⟩:=rep_exc.mp r;cases rv;rfl
theorem qgn(_hc:X.calm=true): OpR X (compareOp .Is) (rD X.K (oIs false)):=fun pins s σ H x y v u Q I rx ry ⟨F,d1,d2,d,q1,q2,q3,q4,q5⟩=>by
 cases d2 <;> simp only [oIs] at q4 <;> first|(cases q4;done)|skip
 ·cases rep_non.mp q3
  cases ry;refine is_none_gen ⟨.bl _,H,I,rfl,?_⟩;rw [qd8 q2 rx];cases q4;exact q5 _ F H (.refl q1) (rep_bl.mpr rfl)
 ·cases rep_bl.mp q3
  cases ry;refine qq6 (qi5 q2 rx) ⟨.bl _,H,I,rfl,?_⟩;rw [qfd q2 rx];cases q4;exact q5 _ F H (.refl q1) (rep_bl.mpr rfl)
theorem q5g(_hc:X.calm=true): OpR X (compareOp .IsNot) (rD X.K (oIs true)):=fun pins s σ H x y v u Q I rx ry ⟨F,d1,d2,d,q1,q2,q3,q4,q5⟩=>by
 cases d2 <;> simp only [oIs] at q4 <;> first|(cases q4;done)|skip
 ·cases rep_non.mp q3
  cases ry;refine isnot_none_gen ⟨.bl _,H,I,rfl,?_⟩;rw [qd8 q2 rx];cases q4;exact q5 _ F H (.refl q1) (rep_bl.mpr rfl)
 ·cases rep_bl.mp q3
  cases ry;refine qk3 (qi5 q2 rx) ⟨.bl _,H,I,rfl,?_⟩;rw [qfd q2 rx];cases q4;exact q5 _ F H (.refl q1) (rep_bl.mpr rfl)
end
theorem qa5:fillsNumberSlot (.type "tuple") "mul" = pure false:=
 PySem.fillsNumberSlot_seq (id:="tuple.__mul__") (r:=some (.builtin "tuple.__rmul__")) g02.lookup (by decide +kernel) F.slot_tuple_rmul.lookup (by decide +kernel)
theorem qgo:seqRepeat? (.type "tuple")=pure (some (.builtin "tuple.__mul__")):=by
 unfold seqRepeat?;rw [PySem.seqSlot_of (T:="tuple") (name:="__mul__") g02.lookup (by decide +kernel),PySem.seqSlot_of (T:="tuple") (name:="__rmul__") F.slot_tuple_rmul.lookup (by decide +kernel)]
 rfl
theorem qk4(i:Int)(t:Tok)(l:Addr)(xs:Array Value)(n:Nat)(dd:Option Addr)(sl:Array (Option Value)):
  Meets (Builtin.«int.__rmul__» ⟨[.int i t,.ref l],[]⟩) (fun _ R s=>s.heap.get? l=some {cls:=.type "tuple",dict:=dd,data:=.seq xs n,slots:=sl}/\R (.ok (.ret Value.notImplemented)) s):=
 .of_wp fun prog w A R s h=>by
  obtain⟨hp,g,d,tk,os⟩:=s;obtain⟨hl,h⟩:=h
  wp_walk
  exact⟨_,rfl,h⟩
theorem qd9(i:Int)(t:Tok)(l:Addr)(xs:Array Value)(n:Nat)(dd:Option Addr)(sl:Array (Option Value))(h0:¬(decide (i < -(2 ^ 63)) || decide (i>=2 ^ 63))=true)(h1:(xs.isEmpty || i==1)=true):
  Meets (Builtin.«tuple.__mul__» ⟨[.ref l,.int i t],[]⟩) (fun _ R s=>s.heap.get? l=some {cls:=.type "tuple",dict:=dd,data:=.seq xs n,slots:=sl}/\R (.ok (.ret (.ref l))) s):=
 .of_wp fun prog w A R s h=>by
  obtain⟨hp,g,d,tk,os⟩:=s;obtain⟨hl,h⟩:=h;have f1:=g1w;have f2:=g0c
  wp_walk using nr hl
  refine g12 (gz h0) ?_
  wp_walk using nr hl
  exact⟨_,rfl,h⟩
theorem qda(i:Int)(t:Tok)(l:Addr)(xs:Array Value)(n:Nat)(dd:Option Addr)(sl:Array (Option Value))(h0:¬(decide (i < -(2 ^ 63)) || decide (i>=2 ^ 63))=true)(h1:¬(xs.isEmpty || i==1)=true)(h2:(decide (i<=0) || xs.isEmpty)=true):
  Meets (Builtin.«tuple.__mul__» ⟨[.ref l,.int i t],[]⟩) (fun _ R s=>s.heap.get? l=some {cls:=.type "tuple",dict:=dd,data:=.seq xs n,slots:=sl}/\R (.ok (.ret (.ref s.heap.objs.size))) {s with heap:=s.heap.push {cls:=.type "tuple",data:=.seq #[]} }):=
 .of_wp fun prog w A R s h=>by
  obtain⟨hp,g,d,tk,os⟩:=s;obtain⟨hl,h⟩:=h;have f1:=g1w;have f2:=g0c
  wp_walk using nr hl
  refine g12 (gz h0) ?_
  wp_walk using nr hl
  exact⟨_,rfl,h⟩
theorem qdb(i:Int)(t:Tok)(l:Addr)(xs:Array Value)(n:Nat)(dd:Option Addr)(sl:Array (Option Value))(h0:¬(decide (i < -(2 ^ 63)) || decide (i>=2 ^ 63))=true)(h1:¬(xs.isEmpty || i==1)=true)(h2:¬(decide (i<=0) || xs.isEmpty)=true)
  (h3:¬((xs.size:Int)*i>(2 ^ 63-1) / 8)) (h4:¬Builtin.Tuple.tupleTooMany ((xs.size:Int)*i)=true) (h5:((List.replicate i.toNat xs).foldl (· ++ ·) #[]).size<=sizeLine) :
  Meets (Builtin.«tuple.__mul__» ⟨[.ref l,.int i t],[]⟩) (fun _ R s=>s.heap.get? l=some {cls:=.type "tuple",dict:=dd,data:=.seq xs n,slots:=sl}/\R (.ok (.ret (.ref s.heap.objs.size))) {s with heap:=s.heap.push {cls:=.type "tuple",data:=.seq ((List.replicate i.toNat xs).foldl (· ++ ·) #[])} }):=
 .of_wp fun prog w A R s h=>by
  obtain⟨hp,g,d,tk,os⟩:=s;obtain⟨hl,h⟩:=h;have f1:=g1w;have f2:=g0c
  wp_walk using nr hl
  refine g12 (gz h0) ?_
  wp_walk using nr hl
  refine g12 (gz h3) ?_
  wp_walk using nr hl
  exact⟨_,rfl,h⟩
theorem qdc(xs:Array Value): ∀(n:Nat) (acc:Array Value),((List.replicate n xs).foldl (· ++ ·) acc).toList=acc.toList++(List.replicate n xs.toList).flatten
 | 0,acc=>by simp
 | n+1,acc=>by
  rw [ph,List.foldl_cons,qdc xs n (acc++xs),ph,uo,Array.toList_append,g0i]
theorem qb2(xs:List Value)(n:Nat): (List.replicate n xs.toArray).foldl (· ++ ·) #[]=(List.replicate n xs).flatten.toArray:=by
 apply Array.toList_inj.mp;rw [qdc];simp
section
variable{prog:Program}{w:World}{A:Around}{E:Value->Shared->Prop}{s:Shared}
theorem qm6{t:Addr}{vs:List Value}{i:Int}{u:Tok}{Q:Value->Shared->Prop}(ht:IsTup s.heap t vs.toArray)(h0 : -(2 ^ 62)<i)(h1:i<2 ^ 62)(hz:vs.length*i.toNat<=1000000)
  (q1:(vs=[]\/i=1)->Q (.ref t) s) (q2:¬(vs=[]\/i=1)->Q (.ref s.heap.objs.size) {s with heap:=s.heap.push {cls:=.type "tuple",data:=.seq (List.replicate i.toNat vs).flatten.toArray} }) :
  wpAny (model prog w) A (binaryOp .Mult (.ref t) (.int i u)) Q E s:=by
 obtain⟨⟨cls,dd,data,sl⟩,ho,hc,n,hd⟩:=id ht;simp only at hc hd;subst hc hd;have ty:s.TypeIs (.ref t) "tuple" :=⟨_,ho,rfl⟩
 have b0:¬(decide (i < -(2 ^ 63)) || decide (i>=2 ^ 63))=true:=by
  simp only [g0x,g1m,not_or]
  constructor <;> lia
 refine wpAny_binaryOp_repeat_ref (T:="tuple") (U:="int") (by decide) ty (fun s'=>typeIs_int s' i u) qa5 F.fills_int_mul F.slot_int_rmul qgo F.slot_int_index.lookup
  (g1o F.slot_int_rmul (typeIs_int s i u) F.entry_int_rmul (F.args_int_rmul_2 _ _) (qk4 i u t vs.toArray n dd sl) ⟨ho,rfl,ty,?_⟩)
 have em:vs.toArray.isEmpty=true↔vs=[]:=by simp
 by_cases c1:(vs.toArray.isEmpty || i==1)=true
 ·have c1':vs=[]\/i=1:=by simpa using c1
  exact g1o g02 ty g1n (g1i _ _) (qd9 i u t vs.toArray n dd sl b0 c1) ⟨ho,q1 c1'⟩
 ·have c1':¬(vs=[]\/i=1):=by simpa using c1
  have q:=q2 c1'
  by_cases c2:(decide (i<=0) || vs.toArray.isEmpty)=true
  ·have i0:i<=0:=by
    rcases g0x _ _ ▸ c2 with z|z
    ·exact u6 z
    ·exact absurd (.inl (em.mp z)) c1'
   have e:(List.replicate i.toNat vs).flatten.toArray = #[]:=by
    rw [show i.toNat=0 by lia];rfl
   rw [e] at q;exact g1o g02 ty g1n (g1i _ _) (qda i u t vs.toArray n dd sl b0 c1 c2) ⟨ho,q⟩
  ·have c2':0<i:=by
    have:¬i<=0:=fun z=>c2 (by rw [m7 z];rfl);lia
   have ei:(vs.toArray.size:Int)*i=((vs.length*i.toNat:Nat):Int):=by
    rw [Int.natCast_mul,Int.toNat_of_nonneg (by lia),gj]
   have el:(List.replicate i.toNat vs).flatten.length=vs.length*i.toNat:=by
    rw [List.length_flatten,List.map_replicate,g26,Nat.mul_comm]
   rw [<- qb2] at q;refine g1o g02 ty g1n (g1i _ _) (qdb i u t vs.toArray n dd sl b0 c1 c2 ?_ ?_ ?_) ⟨ho,q⟩
   ·rw [ei];lia
   ·rw [ei]
    unfold Builtin.Tuple.tupleTooMany;have:sizeLine=16777216:=p9;rw [this,g1m];lia
   ·rw [qb2,gj,el]
    exact q01 hz
end
section
variable{X:Cx}
def qk5:D->D->Option D
 | .tup xs,.int n=>if decide (-(2 ^ 62)<n)&&decide (n<2 ^ 62)&&decide (xs.length*n.toNat<=lim) then some (.tup (List.replicate n.toNat xs).flatten) else none
 | _,_=>none
theorem qdd{xs:List V}{us:List Value}(r:Vals xs us): ∀n:Nat,Vals (List.replicate n xs).flatten (List.replicate n us).flatten
 | 0=>.nil
 | n+1=>by rw [ph,ph,uo,uo];exact r.append (qdd r n)
theorem qde{K:Frag}{H:Hp}{ds:List D}{xs:List V}(r:RepL K H ds xs): ∀n:Nat,RepL K H (List.replicate n ds).flatten (List.replicate n xs).flatten
 | 0=>.nil
 | n+1=>by rw [ph,ph,uo,uo];exact r.append (qde r n)
theorem qog:OpR X (binaryOp .Mult) (rD X.K qk5):=fun pins s σ H x y v u Q I rx ry ⟨F,d1,d2,d,q1,q2,q3,q4,q5⟩=>by
 unfold qk5 at q4
 split at q4
 ·rename_i ds n
  split at q4
  ·rename_i hc
   cases q4;simp only [mh,g1m] at hc;obtain⟨⟨c1,c2⟩,c3⟩:=hc;obtain⟨p,xs,rfl,z1,z2⟩:=rep_tup.mp q2;cases rep_int.mp q3;cases rx;obtain⟨t,rfl⟩:=ry;obtain⟨its,r1,p1,hz⟩:=I.tuple (qz q1 z1);have lx:=r1.length;have ld:=z2.length;refine qm6 p1 c1 c2 (by rw [<- lx, <- ld];exact c3) (fun hq=>?_) fun hq=>?_
   ·have e:(List.replicate n.toNat ds).flatten=ds:=by
     rcases hq with z|z
     ·have:ds=[]:=List.length_eq_zero_iff.mp (by rw [ld,lx,z];rfl)
      subst this;simp
     ·subst z;simp [List.replicate]
    rw [e] at q5;exact⟨.ref p,H,I,rfl,q5 _ F H (.refl q1) q2⟩
   ·have hn:H s.heap.objs.size=none:=I.hok.fresh (gv _)
    have rr:=qdd r1 n.toNat;have el:(List.replicate n.toNat xs).flatten.length=ds.length*n.toNat:=by
     rw [List.length_flatten,List.map_replicate,g26,Nat.mul_comm,ld]
    refine⟨.ref s.heap.objs.size,_,I.laid (t':=s.toks) (o:=.tup (List.replicate n.toNat xs).flatten) (fun b ob q=>gc _ q) (gv _) ⟨by rw [el];exact q01 c3,_,rr,TupX.new _ _⟩,rfl,?_⟩;have gn:=Grow.new (o:=.tup (List.replicate n.toNat xs).flatten) q1 hn;exact q5 _ _ _ gn (rep_tup.mpr ⟨_,_,rfl,SqT.of qy,(qde z2 n.toNat).mono gn.ff⟩)
  ·cases q4
 ·cases q4
def js:D->D->Option D:=fun x y=>(oMul x y).or (qk5 x y)
theorem q04:OpR X (binaryOp .Mult) (rD X.K js):=q6a qny qog
end
section
variable{prog:Program}{w:World}{A:Around}{E:Value->Shared->Prop}{s:Shared}
end
section
variable{X:Cx}{pos:Pos}{elts:List Expr}{x1:Nat}{tp:Pos}
end
section
variable{X:Cx}{st:Stmt}
def q05:FS:=fun _=>none
theorem kn:PS X st (tDS X.K q05):=fun pins s σ H D I ⟨F0,H0,F, ρ,fl, ρ',r,hf,q⟩=>by cases hf
theorem q41:∀ {us:List Value} {ns:List Int},IntsAre us ns->Vals (ns.map V.int) us
 | _,_,.nil=>.nil
 | _,_,.cons n t h=>.cons ⟨t,rfl⟩ (q41 h)
end
end DL
namespace Srt
end Srt
namespace DL
open PySem PySem.Spec PyProof.Rows L2 Srt PySem.W
variable[Lam][Pin]
section
variable{X:Cx}
end
end DL
namespace DL
open PySem PySem.Spec PyProof.Rows L2
variable[Lam][Pin]
section
variable{X:Cx}
end
end DL
namespace L2
open PySem PySem.Spec PyProof.Rows
section
variable{M:Model}{A:Around}{E:Value->Shared->Prop}{s:Shared}
end
section
variable{X:Cx}{pins:List (Addr×Obj)}{σ : St}{H:Hp}{s:Shared}{N':List Str}{scope:Scope}{cap:List (Option Nat)}{cl:List (Str×Addr)}{fp:List Addr}
end
section
variable{X:Cx}{N':List Str}{scope:Scope}{cap:List (Option Nat)}{tg iter elt:Expr}{ifs:List Expr}{wi:TI}{g:TG}{tc:TT}{te:TE}{pos:Pos}
end
end L2
namespace DL
open PySem PySem.Spec PyProof.Rows L2
variable[Lam][Pin]
section
variable{X:Cx}{N':List Str}{scope:Scope}{cap:List (Option Nat)}{tg iter elt:Expr}{ifs:List Expr}{it:FA}{b:FB}{c:FT}{f:FE}{pos:Pos}
end
end DL
namespace DL
open PySem PySem.Spec PyProof.Rows L2
section
variable{prog:Program}{w:World}{A:Around}{E:Value->Shared->Prop}
end
variable[Lam][Pin]
section
variable{X:Cx}{es:List Expr}{pos:Pos}
end
end DL
namespace DL
open PySem PySem.Spec PyProof.Rows L2
variable[Lam][Pin]
section
variable{X:Cx}{pins:List (Addr×Obj)}{σ : St}{F H:Hp}{s:Shared}
theorem q5h(I:Inv X pins σ H s)(fh:Same F H)(A:Around): ∀ {ds es:List D} {xs ys:List V} {us vs:List Value},xu ds es=true->A.units+xm ds<cLine->RepL X.K F ds xs->RepL X.K F es ys->Vals xs us->Vals ys vs ->
   ∀j (h1:j<us.length) (h2:j<vs.length),SeqAt.EqAt A s us[j] vs[j] (eqJ ds es j)
 | [],es,xs,ys,us,vs,_,_,k1,_,w1,_,j,h1,_=>by
  cases k1.nil_inv;cases w1;exact absurd h1 (pb _)
 | d :: ds,es,xs,ys,us,vs,ho,hd,k1,k2,w1,w2,j,h1,h2=>by
  obtain⟨x,r,rfl,a1,a2⟩:=k1.cons_inv;cases w1 with
  | cons p1 p2=>
   cases es with
   | nil=>cases k2.nil_inv;cases w2;exact absurd h2 (pb _)
   | cons e es=>
    obtain⟨y,r',rfl,b1,b2⟩:=k2.cons_inv;cases w2 with
    | cons p3 p4=>
     simp only [xu,mh] at ho;simp only [xm] at hd;cases j with
     | zero=>
      have e0:eqJ (d :: ds) (e :: es) 0=eqD d e:=by simp [eqJ]
      rw [e0];exact qi1 I fh A ho.1 (by lia) a1 b1 p1 p3
     | succ j=>
      have e0:eqJ (d :: ds) (e :: es) (j+1)=eqJ ds es j:=by simp [eqJ]
      rw [e0];exact q5h I fh A ho.2 (by lia) a2 b2 p2 p4 j (by simpa using h1) (by simpa using h2)
def qk6:D->D->Option D
 | .tup ds,.tup es=>if xu ds es&&decide (xm ds<=60) then some (.bl (!eqL ds es)) else none
 | _,_=>none
theorem qoh(hu:X.A.units+64<cLine): OpR X (compareOp .NotEq) (rD X.K qk6):=by
 intro pins s σ H x y v u Q I rx ry h;obtain⟨F,d1,d2,d,fh,r1,r2,ho,q⟩:=h;unfold qk6 at ho
 split at ho
 ·rename_i ds es
  split at ho
  ·rename_i hc
   cases ho;rw [mh] at hc;obtain⟨a,xs,rfl,k1,k2⟩:=rep_tup.mp r1;obtain⟨b,ys,rfl,k3,k4⟩:=rep_tup.mp r2;cases rx;cases ry;obtain⟨i1,v1,t1,_⟩:=I.tuple (qz fh k1);obtain⟨i2,v2,t2,_⟩:=I.tuple (qz fh k3);have hq:=q5h I fh X.A.in1 hc.1 (by have:=u6 hc.2;show X.A.units+1+xm ds<cLine;lia) k2 k4 v1 v2;have:=SeqAt.RcNeAt.tuples (A:=X.A) (e:=eqJ ds es) (show s.heap.IsTuple a i1.toArray from t1) (show s.heap.IsTuple b i2.toArray from t2) (by lia) (fun j h1 h2=>by simpa using hq j (by simpa using h1) (by simpa using h2));simp only [gj, <- v1.length, <- v2.length, <- k2.length, <- k4.length,vp] at this;exact this X.prog X.w _ _ ⟨.bl _,H,I,rfl,q _ F H (.refl fh) (rep_bl.mpr rfl)⟩
  ·cases ho
 ·cases ho
abbrev q2q:D->D->Option D:=fun x y=>(qa2 x y).or (qk6 x y)
theorem q0s(hu:X.A.units+64<cLine): OpR X (compareOp .NotEq) (rD X.K q2q):=q6a qhp (qoh hu)
end
section
variable{X:Cx}{e:Expr}{pos:Pos}{f:FE}
theorem qq7{K:Frag}{z:Int->Int->Int}{i:Nat}{D:Ends}{σ : St}{H:Hp}(h:tDS K (j5 i (eOp (oI (fun _ _=>true) z) (eV i) f)) D σ H): qna i (tD K f) (ipI z) D σ H:=by
 obtain⟨F0,H0,F, ρ,fl, ρ',r,hf,q⟩:=h;obtain⟨d,h1,h2⟩:=gi.mp hf;cases h2;obtain⟨d1,h3,h1⟩:=g6.mp h1;obtain⟨d2,h4,h5⟩:=g6.mp h1;obtain⟨a,b,rfl,rfl,c,rfl⟩:=qa1 h5;obtain⟨v,e1,e2⟩:=r.fz _ _ (qf6 h3);refine⟨v,e1,F0,H0,F, ρ,.int b,r,h4,fun w F' H' g' r'=>⟨a,b,rep_int.mp e2,rep_int.mp r',?_⟩⟩;exact q _ F' H' g'.ff ((r.grow g').set _ (rep_int.mpr rfl))
theorem qm7{i:Nat}{x:Str}{px:Pos}(hN:X.N.Nodup)(hi:X.N[i]? = some x)(hx:Loc X.env.scope x)(he:PE X e (tD X.K f))(hf:X.fn x=true\/X.env.scope.names.lookup x=some .local:=by first|exact .inl rfl|exact .inr rfl|assumption):
  PS X (.AugAssign (.Name x px) .Sub e pos) (tDS X.K (j5 i (eOp oSub (eV i) f))):=xq (qnb hN hi hx he qnc hf) fun D σ H h=>qq7 h
def qk7:D->D->Option D
 | .lst ds,.lst es=>if xu ds es&&decide (xm ds<=60) then some (.bl (!eqL ds es)) else none
 | _,_=>none
theorem qoi(hu:X.A.units+64<cLine): OpR X (compareOp .NotEq) (rD X.K qk7):=by
 intro pins s σ H x y v u Q I rx ry h;obtain⟨F,d1,d2,d,fh,r1,r2,ho,q⟩:=h;unfold qk7 at ho
 split at ho
 ·rename_i ds es
  split at ho
  ·rename_i hc
   cases ho;rw [mh] at hc;obtain⟨a,xs,rfl,k1,k2⟩:=rep_lst.mp r1;obtain⟨b,ys,rfl,k3,k4⟩:=rep_lst.mp r2;cases rx;cases ry;obtain⟨i1,v1,t1,_⟩:=I.list (fh.seq k1);obtain⟨i2,v2,t2,_⟩:=I.list (fh.seq k3);have hq:=q5h I fh X.A.in1 hc.1 (by have:=u6 hc.2;show X.A.units+1+xm ds<cLine;lia) k2 k4 v1 v2;have hl1:i1.length=ds.length:=by rw [<- v1.length, <- k2.length]
   have hl2:i2.length=es.length:=by rw [<- v2.length, <- k4.length]
   by_cases hl:ds.length=es.length
   ·have:=SeqAt.RcNeAt.lists (A:=X.A) (e:=eqJ ds es) t1.isList t2.isList (by rw [gj,gj,hl1,hl2];exact hl) (by lia) (fun j h1 h2=>by simpa using hq j (by simpa using h1) (by simpa using h2))
    have e1:(List.range i1.toArray.size).all (eqJ ds es)=eqL ds es:=by
     rw [<- vp,gj,hl1, <- hl,g2g];simp
    rw [e1] at this;exact this X.prog X.w _ _ ⟨.bl _,H,I,rfl,q _ F H (.refl fh) (rep_bl.mpr rfl)⟩
   ·have e1:eqL ds es=false:=by rw [<- vp];simp [hl]
    rw [e1] at q;have:=SeqAt.RcNeAt.lists_lengths (A:=X.A) t1.isList t2.isList (by rw [gj,gj,hl1,hl2];simpa using hl) (by lia);exact this X.prog X.w _ _ ⟨.bl _,H,I,rfl,q _ F H (.refl fh) (rep_bl.mpr rfl)⟩
  ·cases ho
 ·cases ho
abbrev qdf:D->D->Option D:=fun x y=>(q2q x y).or (qk7 x y)
theorem qi6(hu:X.A.units+64<cLine): OpR X (compareOp .NotEq) (rD X.K qdf):=q6a (q0s hu) (qoi hu)
end
end DL
namespace Rv
open PySem PyProof.Rows
section
variable{prog:Program}{w:World}{A:Around}{E:Value->Shared->Prop}{s:Shared}{r:Addr}{a b c:Int}{t u v:Tok}{n:Nat}
theorem qej{Q:List Value->Shared->Prop}(hh:A.handled=none)(hr:IsRange s.heap r a b c t u v)(hsmall:Builtin.Range.small a b c=true)(hn:Builtin.Range.rangeSize a b c=n)(hlen:n<=2 ^ 24)
  (hQ:∀(h':Heap) tk acc,(∀b o,s.heap.get? b=some o->h'.get? b=some o)->ItemsOf (fun i v=>∃t,v=.int (a+i*c) t) acc n->Q acc.toList {s with heap:=h',toks:=tk}):wpAny (model prog w) A (collect (.ref r)) Q E s:=by
 unfold collect;refine g9 (wpAny_runValue (g0w F.entry_proto_collect ?_));rw [g13 F.plain_proto_collect _];show wpAny _ A.in1 (newList [] >>= fun l=>again (.builtin "list.__iadd__" ⟨[l,.ref r],[]⟩)) _ _ s;refine g9 (nq ?_);refine gh ⟨plainId_quiet F.plain_list_iadd _,g0w F.entry_list_iadd ?_⟩;rw [g13 F.plain_list_iadd _];have hS₁:(s.heap.push {cls:=.type "list",data:=.seq ([]:List Value).toArray}).get? s.heap.objs.size=some {cls:=.type "list",data:=.seq ([]:List Value).toArray}:=m4 _ rfl;show wpAny _ A.in1 (Builtin.List.listExtendWith (.ref s.heap.objs.size) (.ref r) (.ref s.heap.objs.size)) _ _ _;refine wpAny_extend_range (R:=fun r s'=>match r with
  | .ok (.ret v)=>wpAny (model prog w) A (match v with
   | .ref a=>do
    match(<- load a).data with
    | .seq xs _=>pure xs.toList
    | _=>unsupported "internal:collect"
   | _=>unsupported "internal:collect") Q E s'
  | .ok _=>False
  | .error e=>E e s') (s:={s with heap:=s.heap.push {cls:=.type "list",data:=.seq ([]:List Value).toArray} }) hh (gc _ hr) hsmall hn hlen s.heap.objs.size _ 0 hS₁ fun h' tk acc' c' hk hS' hacc=>?_
 show wpAny _ A (load s.heap.objs.size >>= _) _ _ _;refine g9 (wpAny_load hS' ?_);exact gh (hQ h' tk acc' (fun b o e=>hk b o (ma (gq e)) (gc _ e)) hacc)
theorem qa6{Q₁:Value->Shared->Prop}(hh:A.handled=none)(hr:IsRange s.heap r a b c t u v)(hsmall:Builtin.Range.small a b c=true)(hn:Builtin.Range.rangeSize a b c=n)(hlen:n<=2 ^ 24)
  (h:∀(h':Heap) tk acc,(∀b o,s.heap.get? b=some o->h'.get? b=some o)->ItemsOf (fun i v=>∃t,v=.int (a+i*c) t) acc n->Q₁ (.ref h'.objs.size) {s with heap:=h'.push {cls:=.type "tuple",data:=.seq acc},toks:=tk}) :
  codeAny (model prog w) A (.call (.builtin "tuple.__new__") ⟨[.type "tuple",.ref r],[]⟩) (wants Q₁ E) s:=by
 refine codeAny_of_tree ?_;show wpAny _ A.in1 (do checkBuiltinCall "tuple.__new__" ⟨[.type "tuple",.ref r],[]⟩;again (.builtin "tuple.__new__" ⟨[.type "tuple",.ref r],[]⟩)) _ _ s;refine g9 (wpAny_of_eq (F.newCall_tuple_1 _) (gh ⟨plainId_quiet F.plain_tuple_new _,g0w F.entry_tuple_new ?_⟩));rw [g13 F.plain_tuple_new _];have hsub:=sub_tuple_self;have hinit:=init_tuple_lookup;have hmh:=madeHere_tuple;have hTI:s.TypeIs (.ref r) "range" :=⟨_,hr,rfl⟩
 wp_walk using g0v hTI,qej (A:=A.in1) hh hr hsmall hn hlen
 intro h' tk acc hk hacc;show wpAny _ _ (Builtin.Tuple.tupleExact acc.toList.toArray >>= fun v=>ret v) _ _ _;unfold Builtin.Tuple.tupleExact;refine g9 (nq ?_ (by show acc.toList.toArray.size<=sizeLine;simp only [Array.toArray_toList];rw [hacc.1,p9];omega));refine gh ?_;have e:acc.toList.toArray=acc:=by simp
 rw [e];exact h h' tk acc hk hacc
theorem q4u{Q:Value->Shared->Prop}(hh:A.handled=none)(hr:IsRange s.heap r a b c t u v)(hsmall:Builtin.Range.small a b c=true)(hn:Builtin.Range.rangeSize a b c=n)(hlen:n<=2 ^ 24)
  (hQ:∀(h':Heap) tk acc,(∀b o,s.heap.get? b=some o->h'.get? b=some o)->ItemsOf (fun i v=>∃t,v=.int (a+i*c) t) acc n->Q (.ref h'.objs.size) {s with heap:=h'.push {cls:=.type "tuple",data:=.seq acc},toks:=tk}) :
  wpAny (model prog w) A (call (.type "tuple") [.ref r]) Q E s:=by
 refine callType_codes (Q₁:=fun obj s₁=>s₁.TypeIs obj "tuple" /\ Q obj s₁) F.called_tuple (F.typeCall_tuple_1 _) F.entry_object_init
  (qa6 (A:=A.in1) hh hr hsmall hn hlen fun h' tk acc hm hacc=>⟨⟨_,m4 _ rfl,rfl⟩,hQ h' tk acc hm hacc⟩) fun obj s₁ h₁=>?_
 exact⟨h₁.1,F.args_object_init_2 obj _,object_init_meets F.called_tuple.init.lookup F.called_tuple.made (by decide) prog w A.in1 _ s₁ ⟨h₁.1,rfl,h₁.2⟩⟩
end
end Rv
namespace DL
open PySem PySem.Spec PyProof.Rows L2
variable[Lam][Pin]
section
variable{X:Cx}{e ie:Expr}{pos:Pos}{f g:FE}
def q99(f:FE): FE:=fun ρ =>(f ρ).bind fun d=>match d with
 | .int j=>if decide (0<=j)&&decide (j<=1000) then some (.tup (jj 0 j.toNat)) else none
 | _=>none
omit [Lam] [Pin] in
theorem qk8{acc:Array Value}{n:Nat}(h:ItemsOf (fun i v=>∃t,v=.int (0+(i:Int)*1) t) acc n): Vals ((List.range n).map fun i:Nat=>V.int (i:Int)) acc.toList:=by
 have key:∀(l:List Value) (k:Nat),(∀(j:Nat) (v:Value),l[j]? = some v->∃t,v=.int ((k+j:Nat):Int) t)->Vals ((List.range' k l.length).map fun i:Nat=>V.int (i:Int)) l:=by
  intro l
  induction l with
  | nil=>intro k _;exact .nil
  | cons a l ih=>
   intro k hk;rw [m3,List.range'_succ,m9];obtain⟨t,ht⟩:=hk 0 a rfl;refine .cons ⟨t,by rw [ht];simp⟩ (ih (k+1) fun j v hv=>?_);obtain⟨t,ht⟩:=hk (j+1) v hv;exact⟨t,by rw [ht];congr 1;lia⟩
 have hl:acc.toList.length=n:=by rw [ui];exact h.1
 have:=key acc.toList 0 fun j v hv=>by
  obtain⟨t,ht⟩:=h.2 j v (by simpa using hv);exact⟨t,by rw [ht];congr 1;lia⟩
 rw [hl, <- List.range_eq_range'] at this;exact this
theorem qb3{a:Expr}{p p2 q2:Pos}(hc:X.calm=true)(hgt:Gl X "tuple")(hmt:X.mg "tuple" = none)(hgr:Gl X "range")(hmr:X.mg "range" = none)(ha:PE X a (tD X.K f))
  (s1:starEach [a] X.env=[(false,eval a X.env)]:=by first|exact q1b rfl|rfl) (s2:starEach [.Call (.Name "range" p2) [a] [] q2] X.env=[(false,eval (.Call (.Name "range" p2) [a] [] q2) X.env)]:=by first|exact q1b rfl|rfl) :
  PE X (.Call (.Name "tuple" p) [.Call (.Name "range" p2) [a] [] q2] [] pos) (tD X.K (q99 f)):=by
 intro pins s σ H Q I ⟨F0,H0,F, ρ,d,r,hf,q⟩;obtain⟨d',h1,h2⟩:=g6.mp hf
 split at h2
 case h_2=>cases h2
 rename_i j
 split at h2
 case isFalse=>cases h2
 rename_i hj;obtain⟨j0,j1⟩:=q1x hj;cases h2;refine Call_ (q1h I hgt hmt DL.boot_tuple (n9 ?_ (by rw [s2];rfl) (by rfl)));rw [s2];refine g0a ?_;have hp:PA X [a] (tDA X.K (qa f qh)):=q7c (hs:=by rw [s1];rfl) ha qf;refine Call_ (q1h I hgr hmr boot_range (n9 (thn (hp q2 pins s σ H (fun vs H1=>∃F',Grow F H F' H1/\RepL X.K F' [.int j] vs) I ⟨F0,H0,F, ρ,[.int j],r,by simp only [qa,qh,h1,gb,gx],fun vs F' H' g' r'=>⟨F',g',r'⟩⟩) fun us s1' ⟨vs,H1,I1,r1,F',g',q1⟩=>?_) (by rw [s1];rfl) (by rfl)));obtain⟨v1,t,rfl,e1,e2⟩:=q1.cons_inv;cases e2.nil_inv;obtain⟨u1,rfl,e3⟩:=vals1 r1;cases rep_int.mp e1;obtain⟨tk,rfl⟩:=e3;refine call_range_1 (g0g ?_);have hn:Builtin.Range.rangeSize 0 j 1=((j.toNat:Nat):Int):=by rw [rangeSize_one];split <;> lia
 refine Rv.q4u (s:={s1' with heap:=s1'.heap.push {cls:=.type "range",data:=.fields #[.int 0 s1'.toks,.int j tk,.int 1 (s1'.toks+1)]},toks:=s1'.toks+1+1}) (I.ok.hd hc) (IsRange.new ..) (small_one (by decide) (by decide) (by lia) (by lia)) hn (by lia) fun h' tk' acc hk hacc=>?_;have hkp:∀b o,s1'.heap.get? b=some o->h'.get? b=some o:=fun b o e=>hk b o (gc _ e);have I2:Inv X pins σ H1 {s1' with heap:=h',toks:=tk'}:=I1.kept (t':=tk') hkp;have rv:=qk8 hacc;have I3:Inv X pins σ (upd H1 h'.objs.size (.tup ((List.range j.toNat).map fun i:Nat=>V.int (i:Int)))) {s1' with heap:=h'.push {cls:=.type "tuple",data:=.seq acc},toks:=tk'}:=
  I2.laid (t':=tk') (fun b o e=>gc _ e) (gv _) (show ObjOk X.prog X.w _ _ _ (.tup _) from⟨by rw [m6,g0j,p9];lia,acc.toList,rv,by
   have e:acc=acc.toList.toArray:=by simp
   rw [e];exact TupX.new _ _⟩)
 have g2:Grow F' H1 (upd F' h'.objs.size (.tup ((List.range j.toNat).map fun i:Nat=>V.int (i:Int)))) (upd H1 h'.objs.size (.tup ((List.range j.toNat).map fun i:Nat=>V.int (i:Int)))):=Grow.new g'.fh (I2.hok.fresh (gv _));have rl:RepL X.K (upd F' h'.objs.size (.tup ((List.range j.toNat).map fun i:Nat=>V.int (i:Int)))) (jj 0 j.toNat) ((List.range j.toNat).map fun i:Nat=>V.int (i:Int)):=by
  have e:jj 0 j.toNat=((List.range j.toNat).map fun i:Nat=>(i:Int)).map D.int:=by
   unfold jj;rw [t9];apply g18;intro i _;simp only [Function.comp,Int.zero_add]
  rw [e];exact RepL.ints.mpr (by rw [t9];rfl)
 exact⟨.ref h'.objs.size,_,I3,rfl,q _ _ _ (g'.trans g2) (rep_tup.mpr ⟨_,_,rfl,SqT.of qy,rl⟩)⟩
end
def q9a(f g:FE): FE:=fun ρ =>(f ρ).bind fun d=>(g ρ).bind fun e=>match d,e with
 | .int i,.int j=>if decide (0<=i)&&decide (i<=1000)&&(decide (0<=j)&&decide (j<=1000)) then some (.tup (jj i (j-i).toNat)) else none
 | _,_=>none
section
variable{X:Cx}{pos:Pos}{f g:FE}
omit [Lam] [Pin] in
theorem qi7{acc:Array Value}{i:Int}{n:Nat}(h:ItemsOf (fun k v=>∃t,v=.int (i+(k:Int)*1) t) acc n): Vals ((List.range n).map fun k:Nat=>V.int (i+(k:Int))) acc.toList:=by
 have key:∀(l:List Value) (k:Nat),(∀(j:Nat) (v:Value),l[j]? = some v->∃t,v=.int (i+((k+j:Nat):Int)) t)->Vals ((List.range' k l.length).map fun j:Nat=>V.int (i+(j:Int))) l:=by
  intro l
  induction l with
  | nil=>intro k _;exact .nil
  | cons a l ih=>
   intro k hk;rw [m3,List.range'_succ,m9];obtain⟨t,ht⟩:=hk 0 a rfl;refine .cons ⟨t,by rw [ht];simp⟩ (ih (k+1) fun j v hv=>?_);obtain⟨t,ht⟩:=hk (j+1) v hv;exact⟨t,by rw [ht];congr 1;lia⟩
 have hl:acc.toList.length=n:=by rw [ui];exact h.1
 have:=key acc.toList 0 fun j v hv=>by
  obtain⟨t,ht⟩:=h.2 j v (by simpa using hv);exact⟨t,by rw [ht];simp⟩
 rw [hl, <- List.range_eq_range'] at this;exact this
theorem qgp{a b:Expr}{p p2 q2:Pos}(hc:X.calm=true)(hgt:Gl X "tuple")(hmt:X.mg "tuple" = none)(hgr:Gl X "range")(hmr:X.mg "range" = none)(ha:PE X a (tD X.K f))(hb:PE X b (tD X.K g))
  (s1:starEach [a,b] X.env=[(false,eval a X.env),(false,eval b X.env)]:=by first|exact q1b rfl|rfl) (s1':starEach [b] X.env=[(false,eval b X.env)]:=by first|exact q1b rfl|rfl) (s2:starEach [.Call (.Name "range" p2) [a,b] [] q2] X.env=[(false,eval (.Call (.Name "range" p2) [a,b] [] q2) X.env)]:=by first|exact q1b rfl|rfl) :
  PE X (.Call (.Name "tuple" p) [.Call (.Name "range" p2) [a,b] [] q2] [] pos) (tD X.K (q9a f g)):=by
 intro pins s σ H Q I ⟨F0,H0,F, ρ,d,r,hf,q⟩;obtain⟨d1,h1,hf⟩:=g6.mp hf;obtain⟨d2,h3,h2⟩:=g6.mp hf
 split at h2
 case h_2=>cases h2
 rename_i i j
 split at h2
 case isFalse=>cases h2
 rename_i hj;obtain⟨hi,hj⟩:=Bool.and_eq_true_iff.mp hj;obtain⟨i0,i1⟩:=q1x hi;obtain⟨j0,j1⟩:=q1x hj;cases h2;refine Call_ (q1h I hgt hmt DL.boot_tuple (n9 ?_ (by rw [s2];rfl) (by rfl)));rw [s2];refine g0a ?_;have hp:PA X [a,b] (tDA X.K (qa f (qa g qh))):=q7c (hs:=by rw [s1,s1']) ha (q7c (hs:=by rw [s1'];rfl) hb qf);refine Call_ (q1h I hgr hmr boot_range (n9 (thn (hp q2 pins s σ H (fun vs H1=>∃F',Grow F H F' H1/\RepL X.K F' [.int i,.int j] vs) I ⟨F0,H0,F, ρ,[.int i,.int j],r,by simp only [qa,qh,h1,h3,gb,gx],fun vs F' H' g' r'=>⟨F',g',r'⟩⟩) fun us s1' ⟨vs,H1,I1,r1,F',g',q1⟩=>?_) (by rw [s1,s1']) (by rw [s1'];rfl)));obtain⟨v1,t,rfl,e1,e2⟩:=q1.cons_inv;obtain⟨v2,t,rfl,e4,e2⟩:=e2.cons_inv;cases e2.nil_inv;obtain⟨u1,u2,rfl,e3,e5⟩:=r1.two;cases rep_int.mp e1;cases rep_int.mp e4;obtain⟨tk,rfl⟩:=e3;obtain⟨tk2,rfl⟩:=e5;refine call_range_2 (g0g ?_);have hn:Builtin.Range.rangeSize i j 1=(((j-i).toNat:Nat):Int):=by rw [rangeSize_one];split <;> lia
 refine Rv.q4u (s:={s1' with heap:=s1'.heap.push {cls:=.type "range",data:=.fields #[.int i tk,.int j tk2,.int 1 s1'.toks]},toks:=s1'.toks+1}) (I.ok.hd hc) (IsRange.new ..) (small_one (by lia) (by lia) (by lia) (by lia)) hn (by lia) fun h' tk' acc hk hacc=>?_;have hkp:∀b o,s1'.heap.get? b=some o->h'.get? b=some o:=fun b o e=>hk b o (gc _ e);have I2:Inv X pins σ H1 {s1' with heap:=h',toks:=tk'}:=I1.kept (t':=tk') hkp;have rv:=qi7 hacc;have I3:Inv X pins σ (upd H1 h'.objs.size (.tup ((List.range (j-i).toNat).map fun k:Nat=>V.int (i+(k:Int))))) {s1' with heap:=h'.push {cls:=.type "tuple",data:=.seq acc},toks:=tk'}:=
  I2.laid (t':=tk') (fun b o e=>gc _ e) (gv _) (show ObjOk X.prog X.w _ _ _ (.tup _) from⟨by rw [m6,g0j,p9];lia,acc.toList,rv,by
   have e:acc=acc.toList.toArray:=by simp
   rw [e];exact TupX.new _ _⟩)
 have g2:Grow F' H1 (upd F' h'.objs.size (.tup ((List.range (j-i).toNat).map fun k:Nat=>V.int (i+(k:Int))))) (upd H1 h'.objs.size (.tup ((List.range (j-i).toNat).map fun k:Nat=>V.int (i+(k:Int))))):=Grow.new g'.fh (I2.hok.fresh (gv _));have rl:RepL X.K (upd F' h'.objs.size (.tup ((List.range (j-i).toNat).map fun k:Nat=>V.int (i+(k:Int))))) (jj i (j-i).toNat) ((List.range (j-i).toNat).map fun k:Nat=>V.int (i+(k:Int))):=by
  have e:jj i (j-i).toNat=((List.range (j-i).toNat).map fun k:Nat=>i+(k:Int)).map D.int:=by
   unfold jj;rw [t9]
   rfl
  rw [e];exact RepL.ints.mpr (by rw [t9];rfl)
 exact⟨.ref h'.objs.size,_,I3,rfl,q _ _ _ (g'.trans g2) (rep_tup.mpr ⟨_,_,rfl,SqT.of qy,rl⟩)⟩
end
end DL
namespace Fl
open PySem
def Stable(P:Obj->Prop): Prop:=∀o x,P o->P (o.mapFields (·.setIfInBounds 1 x))
def Tr(h base:Heap)(e:Addr)(P:Obj->Prop)(fl:Value): Prop:=
 ∃ob ws T ot us,h.get? e=some ob/\P ob/\ob.data=.fields ws/\ws[1]? = some (.ref T)/\base.get? T=none/\T≠e/\h.get? T=some ot/\ot.data=.fields us/\us[3]? = some fl
def Fly(base:Heap)(l:List Env)(e:Addr)(P:Obj->Prop)(fl:Value)(h:Heap): Prop:=base.StaysIn h/\base.get? e=none/\h.FunFrames base l/\Tr h base e P fl
theorem Fly.there{base h:Heap}{l:List Env}{e:Addr}{P:Obj->Prop}{fl:Value}(x:Fly base l e P fl h): ∃ob ws,h.get? e=some ob/\P ob/\ob.data=.fields ws:=by
 obtain⟨_,_,_,ob,ws,_,_,_,h1,h2,h3,_⟩:=x;exact⟨ob,ws,h1,h2,h3⟩
section
variable{M:Model}{A:Around}{E:Value->Shared->Prop}{s:Shared}{base:Heap}{env:Env}{outer l:List Env}{L e:Addr}{P:Obj->Prop}{Q:Unit->Shared->Prop}{fl:Value}
theorem entry{ob:Obj}{ws:Array Value}{head:Value}{nx:Bool}(st:Stable P)(hfr:A.frames=some (env :: outer))(hl:s.heap.FunFrames base (env :: outer))(hf:env.frame=some L)
  (he:s.heap.get? e=some ob) (hkb:base.StaysIn s.heap) (hen:base.get? e=none) (hp:P ob) (hd:ob.data=.fields ws) (hz:1<ws.size)
  (k:∀h',Fly base (env :: outer) e P (rawInt L) h'->s.heap.UpToSlots h'->Q () {s with heap:=h'}) :
  wpAny M A (do let a <- frameOf env;let pl <- entryPlaceOf L nx;let b <- EntryCells.newEntry head a .none (rawInt L) .none pl;setField (.ref e) 1 b) Q E s:=by
 have nfr:e∉(env :: outer).filterMap (·.frame):=fun z=>by
  obtain⟨_,o,e1,e2⟩:=hl.mem z;rw [he] at e1;cases e1;exact e2 ws hd
 refine g9 (wpAny_frameOf_fun hfr hl hf fun h1 w1=>g9 (wpAny_entryPlaceOf fun pl hpl=>?_));unfold EntryCells.newEntry newFields;refine g9 (nq ?_ (hpl.sizeOk5 _ _ _ _ _));obtain⟨rec,hrec⟩:∃r:Obj,r = {cls:=.type "traceback",dict:=none,data:=.fields ([head,.ref L,.none,rawInt L,.none]++(if pl.isEmpty then List.replicate 6 Value.none else pl)).toArray}:=⟨_,rfl⟩
 rw [<- hrec];have e1:h1.get? e=some ob:=(w1.2.1 e nfr).trans he;have b1:base.StaysIn h1:=fun b o z=>(w1.2.1 b fun y=>by rw [(hl.mem y).1] at z;cases z).trans (hkb b o z);have e2:(h1.push rec).get? e=some ob:=gc _ e1;have nT:h1.objs.size≠e:=ur (gq e1);have d3:=t7 hd (·.setIfInBounds 1 (Value.ref h1.objs.size));refine ux e2 hd hz (k _ ?_ ?_)
 ·have e3:=td (Obj.mapFields (·.setIfInBounds 1 (Value.ref h1.objs.size))) e2 (uy d3)
  have oth:∀b o,b≠e->h1.get? b=some o->((h1.push rec).update e (Obj.mapFields (·.setIfInBounds 1 (Value.ref h1.objs.size)))).get? b=some o:=fun b o z q=>by
   rw [mr _ _ (gu z)];exact gc _ q
  refine⟨fun b o z=>oth b o (fun y=>by rw [y,hen] at z;cases z) (b1 b o z),hen,hl.of_keeps fun b o z nf=>?_,_,_,h1.objs.size,rec,([head,.ref L,.none,rawInt L,.none]++(if pl.isEmpty then List.replicate 6 Value.none else pl)).toArray,e3,st ob _ hp,d3,by simp [hz],b1.fresh,nT,?_,by rw [hrec],?_⟩
  ·obtain⟨sl,q⟩:=w1.2.2 b o z
   exact⟨_,oth b _ (fun y=>by subst y;rw [he] at z;cases z;exact nf ws hd) q,rfl⟩
  ·rw [mr _ _ (gu nT)]
   exact m4 h1 (by rw [hrec];rfl)
  ·rcases hpl with rfl|⟨_,_,_,_,_,_,_,rfl⟩ <;> simp
 ·intro b o z nf
  obtain⟨sl,q⟩:=w1.2.2 b o z;refine⟨sl,?_⟩;rw [mr _ _ (fun y=>by subst y;rw [he] at z;cases z;exact nf ws hd)];exact gc _ q
theorem off(x:Fly base l e P fl s.heap)(k:∀h',Fly base l e P .none h'->s.heap.UpToSlots h'->Q () {s with heap:=h'}): wpAny M A (setFlight (.ref e) none) Q E s:=by
 obtain⟨hkb,hen,hl,ob,ws,T,ot,us,e1,hp,hd,e2,e3,e4,e5,e6,e7⟩:=x;have z3:3<us.size:=(nu.mp e7).1;unfold setFlight;refine g9 (my e1 hd e2 ?_);rw [gr (show(Value.ref T != Value.none)=true by simp)];have oth:∀b,b≠T->(s.heap.update T (Obj.mapFields (·.setIfInBounds 3 ((none:Option Addr).elim Value.none fun f=>rawInt f)))).get? b=s.heap.get? b:=fun b z=>mr _ _ (gu z);have nT:∀b o,s.heap.get? b=some o->(∀vs,o.data ≠ .fields vs)->b≠T:=fun b o z nf y=>by subst y;rw [e5] at z;cases z;exact nf us e6
 refine ux e5 e6 z3 (k _ ⟨fun b o z=>(oth b fun y=>by rw [y,e3] at z;cases z).trans (hkb b o z),hen,hl.of_keeps fun b o z nf=>⟨o,(oth b (nT b o z nf)).trans z,rfl⟩,ob,ws,T,_,_,(oth e (gu e4)).trans e1,hp,hd,e2,e3,e4,
  td _ e5 (uy (t7 e6 _)),t7 e6 _,by simp [z3]⟩ fun b o z nf=>⟨o.slots,(oth b (nT b o z nf)).trans z⟩)
theorem first{ob:Obj}{ws:Array Value}(st:Stable P)(hfr:A.frames=some (env :: outer))(hl:s.heap.FunFrames base (env :: outer))(hf:env.frame=some L)(he:s.heap.get? e=some ob)(hkb:base.StaysIn s.heap)(hen:base.get? e=none)(hp:P ob)(hd:ob.data=.fields ws)(h1:ws[1]? = some .none)
  (k:∀h',Fly base outer e P .none h'->s.heap.UpToSlots h'->Q () {s with heap:=h'}):wpAny M A (leaving env (.ref e)) Q E s:=by
 unfold leaving noteFrame;simp only [hf];refine g9 (g9 (my he hd h1 ?_));rw [gy (by decide)];refine entry st hfr hl hf he hkb hen hp hd (nu.mp h1).1 fun h' x u=>off x fun h2 y u2=>?_;obtain⟨y1,y2,⟨_,_,y3⟩,y4⟩:=y;exact k h2 ⟨y1,y2,y3,y4⟩ (u.trans u2)
theorem note(st:Stable P)(hfr:A.frames=some (env :: outer))(hf:env.frame=some L)(x:Fly base (env :: outer) e P .none s.heap)
  (k:∀h',Fly base (env :: outer) e P (rawInt L) h'->s.heap.UpToSlots h'->Q () {s with heap:=h'}):wpAny M A (noteFrame (.ref e) env) Q E s:=by
 obtain⟨hkb,hen,hl,ob,ws,T,ot,us,e1,hp,hd,e2,e3,e4,e5,e6,e7⟩:=x;unfold noteFrame;simp only [hf];refine g9 (my e1 hd e2 ?_);rw [gr (show(Value.ref T != Value.none)=true by simp)];refine g9 (my e5 e6 e7 ?_);rw [gy (show ¬((Value.none==rawInt L)=true) by simp [rawInt])];refine g9 (ux e5 e6 (nu.mp e7).1 ?_);have oth:∀b,b≠T->(s.heap.update T (Obj.mapFields (·.setIfInBounds 3 Value.none))).get? b=s.heap.get? b:=fun b z=>mr _ _ (gu z);have nT:∀b o,s.heap.get? b=some o->(∀vs,o.data ≠ .fields vs)->b≠T:=fun b o z nf y=>by subst y;rw [e5] at z;cases z;exact nf us e6
 refine entry st hfr (hl.of_keeps fun b o z nf=>⟨o,(oth b (nT b o z nf)).trans z,rfl⟩) hf ((oth e (gu e4)).trans e1) (fun b o z=>(oth b fun y=>by rw [y,e3] at z;cases z).trans (hkb b o z)) hen hp hd (nu.mp e2).1 fun h' y u=>k h' y fun b o z nf=>u b o ((oth b (nT b o z nf)).trans z) nf
theorem pass(st:Stable P)(hfr:A.frames=some (env :: outer))(hf:env.frame=some L)(x:Fly base (env :: outer) e P .none s.heap)
  (k:∀h',Fly base outer e P .none h'->s.heap.UpToSlots h'->Q () {s with heap:=h'}):wpAny M A (leaving env (.ref e)) Q E s:=by
 unfold leaving;refine g9 (note st hfr hf x fun h' y u=>off y fun h2 z u2=>?_);obtain⟨y1,y2,⟨_,_,y3⟩,y4⟩:=z;exact k h2 ⟨y1,y2,y3,y4⟩ (u.trans u2)
end
end Fl
namespace DL
open PySem PySem.Spec PyProof.Rows L2
def PX(C:Addr)(od:Option Addr): Obj->Prop:=fun o=>o.cls=.ref C/\o.dict=od
theorem PX.st{C:Addr}{od:Option Addr}: Fl.Stable (PX C od):=fun o x h=>by
 obtain⟨oc,odd,dt,sl⟩:=o;cases dt <;> exact h
def CXR(P:Program)(w:World): CXT:=fun outer H s E e s'=>s'.os=s.os/\AllBare s'.gens/\∃(B:Heap) (H':Hp) (a C:Addr) (od:Option Addr),e=.ref a /\
 Fl.Fly B outer a (PX C od) .none s'.heap/\(∀h6,B.StaysIn h6->s'.heap.UpToSlots h6->Un (frs outer) [] H H' s.heap h6/\HOk P w H' h6) /\
 s.heap.get? a=none/\H' a=none/\E (.ref C) od H'
theorem has_obj{P:Program}{w:World}{H:Hp}{h:Heap}{a:Addr}{o:HO}(x:ObjOk P w H h a o): ∃ob,h.get? a=some ob:=by
 cases o with
 | lst xs=>obtain⟨_,_,_,_,e⟩:=x;exact⟨_,e⟩
 | tup xs=>obtain⟨_,_,_,ob,e,_⟩:=x;exact⟨_,e⟩
 | dK kvs=>obtain⟨_,_,_,_,o,_,_,e,_⟩:=x;exact⟨_,e⟩
 | dT kvs=>obtain⟨_,_,_,_,o,_,_,e,_⟩:=x;exact⟨_,e⟩
 | set S n=>obtain⟨o,_,_,_,e,_⟩:=x;exact⟨_,e⟩
 | ins C dx fs=>obtain⟨_,_,_,e,_⟩:=x;exact⟨_,e⟩
 | own y=>obtain⟨_,e⟩:=x;exact⟨_,e⟩
 | xd fs=>obtain⟨_,⟨_,_,_,e,_⟩,_⟩:=x;exact⟨_,e⟩
 | rng lo hi=>obtain⟨_,_,_,e⟩:=x;exact⟨_,e⟩
 | frz ob u=>obtain⟨e,_⟩:=x;exact⟨_,e⟩
 | tbl ps=>exact⟨_,(show h.get? a=some _ from x)⟩
 | met f y=>exact⟨_,(show h.get? a=some _ from x)⟩
 | ext φ =>obtain⟨_,⟨_,e⟩,_⟩:=x;exact⟨_,e⟩
section
variable{P:Program}{w:World}{K:Frag}{mg:Str->Option Value}{base:Heap}{N:List Str}{qual:Str}{scope:Scope}{f:Addr}{cd:Value}{A:Around}{outer:List Env}{s0:Shared}{H0:Hp}{E:XK}
variable{pins:List (Addr×Obj)}{σ : St}{H:Hp}{s:Shared}
theorem qfe{l:List Env}: (envOfC qual scope s0.heap.objs.size f cd :: l).filterMap (·.frame)=s0.heap.objs.size :: l.filterMap (·.frame):=rfl
theorem qb4{C e:Addr}{od:Option Addr}{ob:Obj}{ws:Array Value}(I:Inv (qx (CXR P w) P w K mg base N qual scope f cd A outer s0 H0 E) pins σ H s)(he:s.heap.get? e=some ob)(hp:PX C od ob)(hd:ob.data=.fields ws)(hw1:ws[1]? = some .none)(hH:H e=none)(hs0:s0.heap.get? e=none)(q:E (.ref C) od H):
  (qx (CXR P w) P w K mg base N qual scope f cd A outer s0 H0 E).xe (.ref e) s:=by
 have hfr:=I.ok.frames;have hst:=I.stack;obtain⟨hid,hhid⟩:∃l,l=e :: (envOfC qual scope s0.heap.objs.size f cd :: outer).filterMap (·.frame):=⟨_,rfl⟩
 have hin:∀env∈(envOfC qual scope s0.heap.objs.size f cd :: outer),∀b,env.frame=some b->b∈hid:=fun env he b hb=>by rw [hhid];exact gw _ (g1f.mpr ⟨env,he,hb⟩)
 have hen:(PySem.W.hideAll s.heap hid).get? e=none:=PySem.W.hideAll_none _ (by rw [hhid];exact gs);refine Fl.first (base:=PySem.W.hideAll s.heap hid) PX.st hfr (PySem.W.funFrames_hide hst hin) rfl he (fun b o q=>PySem.W.of_hideAll _ q) hen hp hd hw1 fun h2 x1 x4=>?_;have stays:∀h6,(PySem.W.hideAll s.heap hid).StaysIn h6->∀b o,s.heap.get? b=some o->b≠e->b∉(envOfC qual scope s0.heap.objs.size f cd :: outer).filterMap (·.frame)->h6.get? b=some o:=
  fun h6 st b o e1 ne n=>st b o (PySem.W.hideAll_get _ e1 (by rw [hhid];intro z;exact(m5.mp z).elim ne n))
 have there0:∀b o,s0.heap.get? b=some o->∃o',s.heap.get? b=some o':=fun b o e=>I.base.there b o e (by intro z;cases z);have ne0:∀b o,s0.heap.get? b=some o->b≠e:=fun b o e1 z=>by subst z;rw [hs0] at e1;cases e1
 have any:∀h6,(PySem.W.hideAll s.heap hid).StaysIn h6->h2.UpToSlots h6->∀b o,s.heap.get? b=some o->b≠e->∃sl,h6.get? b=some {o with slots:=sl}:=fun h6 st u b o e1 ne=>by
  by_cases hb:b∈(envOfC qual scope s0.heap.objs.size f cd :: outer).filterMap (·.frame)
  ·obtain⟨_,o',e',nf⟩:=hst.mem hb
   rw [e1] at e';cases e';exact(x4.trans u) b o e1 nf
  ·exact⟨o.slots,stays h6 st b o e1 ne hb⟩
 refine⟨I.os,I.bare,_,H,e,C,od,rfl,x1,fun h6 st u=>⟨⟨fun b o e1 n hb _=>?_,fun b o e1 n hb _=>?_,fun b o e n _=>?_,fun b o e1 _=>?_,fun b xs e=>I.base.tups b xs e,fun b o xs e=>I.base.frzs b o xs e,fun b ps e=>I.base.tbls b ps e⟩,fun b o e1=>?_⟩,hs0,hH,q⟩
 ·have e2:=I.base.keep b o e1 n hb (by intro z;cases z)
  refine stays h6 st b o e2 (ne0 b o e1) fun z=>?_;rw [qfe] at z;rcases m5.mp z with z|z
  ·rw [z] at e1;exact absurd (gq e1) (pd _)
  ·exact hb z
 ·obtain⟨sl,e2⟩:=I.base.slot b o e1 n hb (by intro z;cases z)
  obtain⟨sl',e3⟩:=any h6 st u b _ e2 (ne0 b o e1);exact⟨sl',e3⟩
 ·exact I.base.free b o e n (by intro z;cases z)
 ·obtain⟨o',e2⟩:=there0 b o e1
  obtain⟨sl,e3⟩:=any h6 st u b o' e2 (ne0 b o e1);exact⟨_,e3⟩
 ·refine(I.hok b o e1).stay (fun c v hc r=>?_) (fun _ z=>z) fun _ _ z=>z
  have nc:c≠e:=fun z=>by
   subst z;rcases hc with hc|hc
   ·rw [hc,e1] at hH;cases hH
   ·rw [hH] at hc;cases hc
  refine stays h6 st c v r nc fun z=>?_;have n:=I.stkFree c z;rcases hc with hc|hc
  ·rw [hc,e1] at n;cases n
  ·rw [n] at hc;cases hc
theorem qek{C e:Addr}{vs:List Value}{h':Heap}(I:Inv (qx (CXR P w) P w K mg base N qual scope f cd A outer s0 H0 E) pins σ H s)(hx:Heap.MadeExcOf s.heap h' e (.ref C) vs)(q:E (.ref C) none H):
  (qx (CXR P w) P w K mg base N qual scope f cd A outer s0 H0 E).xe (.ref e) {s with heap:=h'}:=by
 obtain⟨t,he,_⟩:=hx.there;refine qb4 (I.kept (t':=s.toks) hx.keeps) he ⟨rfl,rfl⟩ rfl rfl ?_ ?_ q
 ·cases z:H e with
  | none=>rfl
  | some o=>
   obtain⟨ob,e1⟩:=has_obj (I.hok e o z);rw [hx.new] at e1;cases e1
 ·cases z:s0.heap.get? e with
  | none=>rfl
  | some o=>
   obtain⟨o',e1⟩:=I.base.there e o z (by intro z;cases z);rw [hx.new] at e1;cases e1
end
abbrev vB:List Value:=[.type "ValueError",.type "Exception",.type "BaseException",.type "object"]
theorem qff:vB.contains (.type "BaseException")=true:=tw.hasBase
abbrev q6g(K:Frag)(C:Addr): Prop:=PySem.W.excIn K C vB "ValueError.__new__" = true
theorem qm8{K:Frag}{h:Heap}{C:Addr}(X:K.In h)(q:q6g K C): ∃bm N nm q bs hdct sn sub ab col dd k0 k1 k2 k3 k5 mN,h.get? C=some (excClassObj nm q C N bs bm hdct sn sub ab col dd k0 k1 k2 k3 k5 "ValueError.__new__")/\h.Ns N mN/\mN "__init__" = none/\OwnTail h vB bm:=by
 unfold q6g PySem.W.excIn at q
 split at q
 ·rename_i dd cd sl ho
  split at q
  ·rename_i C' bm k0 k1 k2 k3 n k5 hm hs
   simp only [mh,nk,Bool.not_eq_true'] at q;obtain⟨⟨⟨⟨⟨rfl,rfl⟩,hdel⟩,ht⟩,hok⟩,hni⟩:=q;obtain⟨nm,bs,mro,ns,qn,hd,sn,sub,ab,col,del⟩:=cd;dsimp only at hm hdel hok hni;subst hm hdel;have hsl:sl = #[k0,k1,k2,k3,some (.builtin "ValueError.__new__"),k5]:=by
    obtain⟨l⟩:=sl;simp only at hs;rw [hs]
   subst hsl;exact⟨bm,ns,nm,qn,bs,hd,sn,sub,ab,col,dd,k0,k1,k2,k3,k5,_,X _ _ ho,.of_isNs (PySem.W.isNs_of_in X hok),PySem.W.nsMap_none_of_in X hok hni,PySem.W.tail_of_in X ht⟩
  ·cases q
 ·cases q
section
variable{P:Program}{w:World}{K:Frag}{mg:Str->Option Value}{base:Heap}{N:List Str}{qual:Str}{scope:Scope}{f:Addr}{cd:Value}{A:Around}{outer:List Env}{s0:Shared}{H0:Hp}{E:XK}
theorem qk9{C:Addr}{x m:Str}{np p2 cpos pos:Pos}{j}(hC:q6g K C)(hg:Gl (qx (CXR P w) P w K mg base N qual scope f cd A outer s0 H0 E) x)(hm:mg x=some (.ref C))(hd:(x==("__debug__" : Str))=false:=by decide):
  PS (qx (CXR P w) P w K mg base N qual scope f cd A outer s0 H0 E) (.Raise (some (.Call (.Name x np) [.Constant (.str m) j p2] [] cpos)) none pos) (fun _ _ H=>E (.ref C) none H):=by
 intro pins s σ H D I q;obtain⟨tl,N,nm,qn,bs,hdct,sn,sub,ab,col,dd,k0,k1,k2,k3,k5,mN,hC,hN,hni,T⟩:=qm8 I.kIn hC;refine wpAny_Raise_call_subT (C:=C) (nm:=nm) (q:=qn) (N:=N) (bs:=bs) (bm:=tl) (hdct:=hdct) (sn:=sn) (sub:=sub) (ab:=ab) (col:=col) (dd:=dd) (k0:=k0) (k1:=k1) (k2:=k2) (k3:=k3) (k5:=k5)
  tw (mN:=mN) (T.hasType qff) (I.ok.hd rfl) rfl hni (q1a I hg hm ⟨rfl,?_⟩ hd)
 refine Calls.evalArgs_plain (g0a ?_);show wpAny _ _ (eval (Expr.Constant (Const.str m) j p2) _) _ _ _;refine g09 ?_;show wpAny _ _ (spliced []) _ _ _;refine g0g ⟨rfl,(by show 1<=sizeLine;decide),hC,hN,T,fun h' e hx=>?_⟩;exact qek (I.tok _) hx q
end
section
variable{X:Cx}{pins:List (Addr×Obj)}{σ σ1:St}{H H1:Hp}{s s1:Shared}
theorem qdg{p:Addr}{o:HO}(I0:Inv X pins σ H s)(hp0:s.heap.get? p=none)(I:Inv X pins σ1 H1 s1)(hp:H1 p=none)(new:ObjOk X.prog X.w (upd H1 p o) s1.heap p o): Inv X pins σ1 (upd H1 p o) s1:=by
 have ne:∀ {b:Addr} {u:HO},H1 b=some u->upd H1 p o b=some u:=fun {b u} e=>by rw [qo (xp e hp)];exact e
 have nz:∀b ob,s.heap.get? b=some ob->b≠p:=fun b ob e z=>by subst z;rw [hp0] at e;cases e
 refine⟨I.ok,I.os,I.bare,⟨I.base.keep,I.base.slot,fun b ob e n hx=>?_,I.base.there,fun b xs e=>ne (I.base.tups b xs e),fun b ob xs e=>ne (I.base.frzs b ob xs e),fun b ps e=>?_⟩,I.loc,I.cell,?_,fun y c e=>?_,fun q hq=>?_,fun b u e=>?_,I.len⟩
 ·obtain⟨o',e1⟩:=I0.base.there b ob e hx
  rw [qo (nz b o' e1)];exact I.base.free b ob e n hx
 ·obtain⟨more,e1⟩:=I.base.tbls b ps e
  exact⟨more,ne e1⟩
 ·obtain⟨m,⟨ob,_,_,ho,_⟩,_⟩:=I0.loc
  rw [qo (nz _ ob ho)];exact I.free
 ·obtain⟨v,ob,ho,_⟩:=I0.cell y c e
  rw [qo (nz _ ob ho)];exact I.freeC y c e
 ·obtain⟨e1,e2,e3⟩:=I.pin q hq
  obtain⟨f1,_⟩:=I0.pin q hq;exact⟨e1,by rw [qo (nz _ _ f1)];exact e2,e3⟩
 ·by_cases hb:b=p
  ·subst hb;rw [qy] at e;cases e;exact new
  ·rw [qo hb] at e
   exact(I.hok b u e).stay (fun c v _ q=>q) (fun c q=>ne q) fun c xs q=>ne q
abbrev inX(X:Cx)(a:Addr): Cx:={X with A:=X.A.mark (some (.ref a)),calm:=false,xe:=fun _ _=>False}
theorem qoj{a:Addr}(ok:X.Ok): (inX X a).Ok:=
 ⟨ok.mod,ok.kind,ok.glob,ok.blt,ok.above,ok.inj,ok.has,ok.cab,(fun z=>by cases z),ok.frames,ok.stk,ok.exf,ok.bs,ok.bsz,ok.noex,ok.exfs,ok.funs,ok.frf⟩
theorem qfg{a:Addr}(I:Inv X pins σ H s): Inv (inX X a) pins σ H s:=⟨qoj I.ok,I.os,I.bare,I.base,I.loc,I.cell,I.free,I.freeC,I.pin,I.hok,I.len⟩
theorem q5i{a:Addr}(ok:X.Ok)(I:Inv (inX X a) pins σ H s): Inv X pins σ H s:=⟨ok,I.os,I.bare,I.base,I.loc,I.cell,I.free,I.freeC,I.pin,I.hok,I.len⟩
end
def qka(i:Nat)(D:Ends): Ends:={nx:=fun σ H=>D.nx (σ.set i none) H,rt:=D.rt,bk:=fun σ H=>D.bk (σ.set i none) H,ct:=fun σ H=>D.ct (σ.set i none) H}
section
variable{X:Cx}{pins:List (Addr×Obj)}{σ : St}{H:Hp}{s:Shared}
theorem name_goes{M:Model}{A:Around}{E:Value->Shared->Prop}{i:Nat}{n:Str}{pos:Pos}{Q:Unit->Shared->Prop}(I:Inv X pins σ H s)(hN:X.N.Nodup)(hi:X.N[i]? = some n)(hx:X.env.scope.names.lookup n=some .local)
  (h:∀s',Inv X pins (σ.set i none) H s'->Q () s'):wpAny M A (do bindName X.env n .none;unbindBehindTheSuite X.env n pos) Q E s:=by
 obtain⟨m,hn,hl⟩:=id I.loc;have hcls:(X.env.scope.kind == .class || (X.env.scope.kind == .module&&X.env.locals != X.env.globals))=false:=by rw [I.ok.kind];rfl
 refine wpAny_nameGoes_keeps hx hn hcls fun h' v hn' hs=>h _ ?_;have same:∀b o,b≠X.env.locals->s.heap.get? b=some o->h'.get? b=some o:=fun b o q e=>(hs.2 b q).trans e;have l0:∀b o,X.s₀.heap.get? b=some o->b≠X.env.locals:=fun b o e=>ma (m8 (gq e) I.ok.above);refine⟨I.ok,I.os,I.bare,⟨fun b o e n hb hx=>?_,fun b o e n hb hx=>?_,I.base.free,fun b o e hx=>?_,I.base.tups,I.base.frzs,I.base.tbls⟩,⟨_,hn',fun j y v' e1 e2 e3=>?_⟩,fun y c e=>?_,I.free,I.freeC,fun p hp=>?_,fun b u e=>?_,by simpa using I.len⟩
 ·exact same b o (l0 b o e) (I.base.keep b o e n hb hx)
 ·obtain⟨sl,e1⟩:=I.base.slot b o e n hb hx
  exact⟨sl,same b _ (l0 b o e) e1⟩
 ·obtain⟨o',e1⟩:=I.base.there b o e hx
  exact⟨o',same b _ (l0 b o e) e1⟩
 ·by_cases hj:j=i
  ·subst hj
   rw [um] at e2;simp only [p5] at e2
   split at e2 <;> cases e2
  ·rw [gf (gu hj)] at e2
   obtain⟨u,r,l⟩:=hl j y v' e1 e2 e3;have hy:y≠n:=fun z=>by
    subst z;exact hj ((List.getElem?_inj (n8.mp e1).1 hN).mp (e1.trans hi.symm))
   refine⟨u,r,?_⟩;rcases l with⟨k,l⟩|⟨k,c,e,z⟩
   ·exact .inl ⟨k,(show(if y=n then v else m y)=m y from gy hy).trans l⟩
   ·obtain⟨o,ho,hd⟩:=z
    exact .inr ⟨k,c,e,o,same c o (I.cne y c e) ho,hd⟩
 ·obtain⟨v',o,ho,hd⟩:=I.cell y c e
  exact⟨v',o,same c o (I.cne y c e) ho,hd⟩
 ·obtain⟨e1,e2,e3,e4,e5⟩:=I.pin p hp
  exact⟨same _ _ e3 e1,e2,e3,e4,e5⟩
 ·refine(I.hok b u e).stay (fun c w' hc q=>same c _ ?_ q) (fun _ q=>q) fun _ _ q=>q
  rintro rfl
  rcases hc with hc|hc
  ·rw [<- hc,I.free] at e;cases e
  ·rw [I.free] at hc;cases hc
theorem qok{D:Ends}{f:Flow}{s':Shared}{a:Addr}{i:Nat}{n:Str}{pos:Pos}{M:Model}{A:Around}{E:Value->Shared->Prop}(ok:X.Ok)(hN:X.N.Nodup)(hi:X.N[i]? = some n)(hx:X.env.scope.names.lookup n=some .local)(h:SP (inX X a) pins (qka i D) f s'):
  wpAny M A (do bindName X.env n .none;unbindBehindTheSuite X.env n pos) (fun _ s5=>SP X pins D f s5) E s':=by
 cases f with
 | next=>obtain⟨σ',H',I,q⟩:=h;exact name_goes (q5i ok I) hN hi hx fun s5 I5=>⟨_,H',I5,q⟩
 | brk=>obtain⟨σ',H',I,q⟩:=h;exact name_goes (q5i ok I) hN hi hx fun s5 I5=>⟨_,H',I5,q⟩
 | cont=>obtain⟨σ',H',I,q⟩:=h;exact name_goes (q5i ok I) hN hi hx fun s5 I5=>⟨_,H',I5,q⟩
 | ret u=>obtain⟨v, σ',H',I,r,q⟩:=h;exact name_goes (q5i ok I) hN hi hx fun s5 I5=>⟨v,_,H',I5,r,q⟩
end
end DL
namespace DL
open PySem PySem.Spec PyProof.Rows L2
variable[Lam][Pin]
section
variable{X:Cx}{K:Frag}{F0 H0 F H:Hp}{σ : St}{ρ : Rho}
theorem RS.unset(r:RS K F0 H0 F H σ ρ)(i:Nat): RS K F0 H0 F H (σ.set i none) (ρ.set i none):=by
 have back:∀ {j:Nat} {b:B},(ρ.set i none)[j]? = some (some b)->j≠i /\ ρ[j]? = some (some b):=fun {j b} h=>by
  by_cases q:j=i
  ·subst q;obtain⟨z,_⟩:=qs h;cases z
  ·rw [gf (gu q)] at h;exact⟨q,h⟩
 exact {
  t0:=r.t0
  g:=r.g
  len:=by rw [ni,ni];exact r.len
  fz:=fun j e h=>by
   obtain⟨q,h⟩:=back h;rw [gf (gu q)];exact r.fz j e h
  ow:=fun j e h=>by
   obtain⟨q,h⟩:=back h;rw [gf (gu q)];exact r.ow j e h
  dj:=fun j k ds es a hjk h1 h2 h3=>by
   obtain⟨q1,h1⟩:=back h1;obtain⟨q2,h2⟩:=back h2;rw [gf (gu q1)] at h3;rw [gf (gu q2)];exact r.dj j k ds es a hjk h1 h2 h3
  od:=fun j kvs h=>by
   obtain⟨q,h⟩:=back h;obtain⟨a,bs,e1,e2,e3⟩:=r.od j kvs h;rw [gf (gu q)];refine⟨a,bs,e1,e2,fun k es b h2 h3=>?_⟩;obtain⟨q2,h2⟩:=back h2;rw [gf (gu q2)];exact e3 k es b h2 h3
  o1:=fun j k k1 k2 h1 h2=>by
   obtain⟨q1,h1⟩:=back h1;obtain⟨q2,h2⟩:=back h2;exact r.o1 j k k1 k2 h1 h2}
def isX(x:Str)(b:Bool): D->Option D
 | .exc y _=>if x=y then some (.bl b) else none
 | _=>none
theorem q8f{x:Str}{b:Bool}{d d':D}(h:isX x b d=some d'): ∃f,d=.exc x f/\d'=.bl b:=by
 unfold isX at h
 split at h
 ·split at h
  ·rename_i e;subst e;cases h;exact⟨_,rfl,rfl⟩
  ·cases h
 ·cases h
theorem qdh{x:Str}{b:Bool}{C:Addr}{v2:V}{c:Value}(hns:PySem.W.nsIn X.K mainGlobals x=some (some (.ref C)))(hv:∀u,RelV v2 u->u=c)(hk:PySem.W.kitOne X.K (.ref C) c=some b):
  vh X (.builtin "isinstance") (fun xs H Q=>∃y F f,xs=[y,v2]/\Same F H/\Rep X.K F (.exc x f) y/\Q (.bl b) H):=by
 intro pins s σ H xs us Q I r h;obtain⟨y,F,fx,rfl,fh,rd,q⟩:=h;obtain⟨u,w',rfl,rx,rt⟩:=r.two;obtain rfl:=hv _ rt;obtain⟨a,C',rfl,⟨od',h1,_⟩,h2,c1,c2⟩:=rep_exc.mp rd;rw [hns] at h2;cases h2;cases rx;obtain⟨J,_,_⟩:=(show ObjOk X.prog X.w H s.heap a _ from I.hok a _ (fh _ _ h1))
 exact g0y (q8a c1) I.kIn J hk (fun z=>nomatch z) (fun tk=>⟨.bl _,H,I.tok _,rfl,q⟩)
variable{e:Expr}{pos:Pos}{f:FE}
theorem xx{x y:Str}{b:Bool}{C C2:Addr}{p px:Pos}(hns:PySem.W.nsIn X.K mainGlobals x=some (some (.ref C)))(hk:PySem.W.kitOne X.K (.ref C) (.ref C2)=some b)(hg:Gl X "isinstance")(hm:X.mg "isinstance" = none)(hgT:Gl X y)(hmT:X.mg y=some (.ref C2))(ha:PE X e (tD X.K f))
  (hdT:(y==("__debug__" : Str))=false:=by decide) (he2:starEach [e,.Name y px] X.env=(false,eval e X.env) :: starEach [.Name y px] X.env:=by rfl) :
  PE X (.Call (.Name "isinstance" p) [e,.Name y px] [] pos) (tD X.K (eUn (isX x b) f)):=
 zl (q1w (qdh (v2:=.ref C2) hns (fun u h=>by cases h;rfl) hk) hg hm q5f (zm ha (zm (vg (v:=.ref C2) hgT hmT rfl hdT) w8) he2) (by decide) (by decide) he2 rfl) fun σ H Q ⟨F0,H0,F, ρ,d,r,hf,q⟩=>by
  obtain⟨d',h1,h2⟩:=g6.mp hf;obtain⟨fx,rfl,rfl⟩:=q8f h2;exact⟨F0,H0,F, ρ,_,r,h1,fun v F' H' g' r'=>⟨v,F',fx,rfl,g'.fh,r',q _ F' H' g' (rep_bl.mpr rfl)⟩⟩
theorem q7i{x y:Str}{b:Bool}{C:Addr}{T:String}{p px:Pos}(hns:PySem.W.nsIn X.K mainGlobals x=some (some (.ref C)))(hk:PySem.W.kitOne X.K (.ref C) (.type T)=some b)(hg:Gl X "isinstance")(hm:X.mg "isinstance" = none)(hgT:Gl X y)(hmT:X.mg y=none)(hvT:bootBuiltins y=some (.type T))(ha:PE X e (tD X.K f))
  (hnT:y≠"__name__" :=by decide) (hdT:(y==("__debug__" : Str))=false:=by decide) (he2:starEach [e,.Name y px] X.env=(false,eval e X.env) :: starEach [.Name y px] X.env:=by rfl) :
  PE X (.Call (.Name "isinstance" p) [e,.Name y px] [] pos) (tD X.K (eUn (isX x b) f)):=
 zl (q1w (qdh (v2:=.ty T) hns (fun u h=>by cases h;rfl) hk) hg hm q5f (zm ha (zm (qev (v:=.ty T) hgT hmT hvT rfl hnT hdT) w8) he2) (by decide) (by decide) he2 rfl) fun σ H Q ⟨F0,H0,F, ρ,d,r,hf,q⟩=>by
  obtain⟨d',h1,h2⟩:=g6.mp hf;obtain⟨fx,rfl,rfl⟩:=q8f h2;exact⟨F0,H0,F, ρ,_,r,h1,fun v F' H' g' r'=>⟨v,F',fx,rfl,g'.fh,r',q _ F' H' g' (rep_bl.mpr rfl)⟩⟩
theorem qb5:∀ {Cs:List Addr} {us:List Value},Vals (Cs.map V.ref) us->us=Cs.map Value.ref
 | [],_,h=>by cases h;rfl
 | _ :: _,_,h=>by cases h with|cons p q=>cases p;rw [qb5 q];rfl
theorem qi8{x:Str}{b:Bool}{C:Addr}{Cs:List Addr}(hns:PySem.W.nsIn X.K mainGlobals x=some (some (.ref C)))(hk:PySem.W.kitAny X.K (.ref C) (Cs.map Value.ref)=some b):
  vh X (.builtin "isinstance") (fun xs H Q=>∃y F p f,xs=[y,.ref p]/\H p=some (.tup (Cs.map V.ref))/\Same F H/\Rep X.K F (.exc x f) y/\Q (.bl b) H):=by
 intro pins s σ H xs us Q I r h;obtain⟨y,F,p,fx,rfl,hp,fh,rd,q⟩:=h;obtain⟨u,w',rfl,rx,rt⟩:=r.two;cases rt;obtain⟨a,C',rfl,⟨od',h1,_⟩,h2,c1,c2⟩:=rep_exc.mp rd;rw [hns] at h2;cases h2;cases rx;obtain⟨J,_,_⟩:=(show ObjOk X.prog X.w H s.heap a _ from I.hok a _ (fh _ _ h1))
 obtain⟨_,its,rv,⟨oc,od,dt,sl⟩,e1,e2,_,n,e3⟩:=(show ObjOk X.prog X.w H s.heap p _ from I.hok p _ hp)
 cases qb5 rv;dsimp only at e2 e3;subst e2 e3;exact PySem.W.kia_tup (q8a c1) I.kIn J e1 hk (fun z=>nomatch z) (fun tk=>⟨.bl _,H,I.tok _,rfl,q⟩)
theorem q7j{x:Str}{b:Bool}{C:Addr}{Cs:List Addr}{p px:Pos}{es:List Expr}{x1}{t:TA}(hns:PySem.W.nsIn X.K mainGlobals x=some (some (.ref C)))(hk:PySem.W.kitAny X.K (.ref C) (Cs.map Value.ref)=some b)(hg:Gl X "isinstance")(hm:X.mg "isinstance" = none)(hl:Cs.length<=sizeLine)
  (hes:PA X es t) (ht:∀ σ H Q,Q (Cs.map V.ref) H->t σ H Q) (ha:PE X e (tD X.K f)) (he2:starEach [e,.Tuple es x1 px] X.env=(false,eval e X.env) :: starEach [.Tuple es x1 px] X.env:=by rfl) :
  PE X (.Call (.Name "isinstance" p) [e,.Tuple es x1 px] [] pos) (tD X.K (eUn (isX x b) f)):=
 zl (q1w (qi8 hns hk) hg hm q5f (zm ha (zm (qhf hes) w8) he2) (by decide) (by decide) he2 rfl) fun σ H Q ⟨F0,H0,F, ρ,d,r,hf,q⟩=>by
  obtain⟨d',h1,h2⟩:=g6.mp hf;obtain⟨fx,rfl,rfl⟩:=q8f h2;refine⟨F0,H0,F, ρ,_,r,h1,fun v F' H' g' r'=>ht _ _ _ ⟨by rw [m6];exact hl,fun p hp=>?_⟩⟩;have g2:Grow F' H' F' (upd H' p (.tup (Cs.map V.ref))):=Grow.own g'.fh hp;exact⟨v,F',p,fx,rfl,qy,g2.fh,r',q _ F' _ (g'.trans g2) (rep_bl.mpr rfl)⟩
end
end DL
namespace DL
open PySem
theorem q4v{K:Frag}{C:Addr}(h1:PySem.W.kitOne K (.ref C) (.type "int")=some false)(h2:PySem.W.kitOne K (.ref C) (.type "bool")=some false)(h3:PySem.W.kitOne K (.ref C) (.type "tuple")=some false)(h4:PySem.W.kitOne K (.ref C) (.type "list")=some false)
  (h5:PySem.W.kitOne K (.ref C) (.type "str")=some false) (h6:PySem.W.kitOne K (.ref C) (.type "dict")=some false):∀T:String,T∈["int","bool","tuple","list","str","dict"]->PySem.W.kitOne K (.ref C) (.type T)=some false:=by
 intro T hT;simp only [m5,uh,nv] at hT;rcases hT with rfl|rfl|rfl|rfl|rfl|rfl <;> assumption
end DL
namespace DL
open PySem PySem.Spec PyProof.Rows L2
variable[Lam][Pin]
section
variable{P:Program}{w:World}{K:Frag}{mg:Str->Option Value}{base:Heap}{N:List Str}{qual:Str}{scope:Scope}{f:Addr}{cd:Value}{A:Around}{outer:List Env}{s0:Shared}{H0:Hp}{E:XK}
theorem qq8:q2l (CXR P w) (qx (CXR P w) P w K mg base N qual scope f cd A outer s0 H0 E) E:=by
 intro pins σ H s e s' I h;obtain⟨os,bare,B,H2,a,C,od,rfl,hfl,hun,hna,hH2,q⟩:=h;refine Fl.pass PX.st I.ok.frames rfl hfl fun h' x1 x2=>?_;have nl:∀b o,s0.heap.get? b=some o->b∉frs outer->b∉frs (envOfC qual scope s0.heap.objs.size f cd :: outer):=fun b o e n z=>by
  unfold frs at z;rw [qfe] at z;rcases m5.mp z with z|z
  ·rw [z] at e;exact absurd (gq e) (pd _)
  ·exact n z
 have nx:∀ {b:Addr},b∉([]:List Addr):=fun {b} z=>by cases z
 refine⟨os.trans I.os,bare,B,H2,a,C,od,rfl,x1,fun h6 st u=>?_,?_,hH2,q⟩
 ·obtain⟨un,hok⟩:=hun h6 st (x2.trans u)
  refine⟨⟨fun b o e n hb _=>?_,fun b o e n hb _=>?_,fun b o e n _=>?_,fun b o e _=>?_,fun b xs e=>un.tups b xs (I.base.tups b xs e),fun b o xs e=>un.frzs b o xs (I.base.frzs b o xs e),fun b ps e=>?_⟩,hok⟩
  ·exact un.keep b o (I.base.keep b o e n hb nx) (I.base.free b o e n nx) (nl b o e hb) nx
  ·obtain⟨sl,e1⟩:=I.base.slot b o e n hb nx
   obtain⟨sl',e2⟩:=un.any e1 (I.base.free b o e n nx) nx;exact⟨sl',e2⟩
  ·obtain⟨o',e1⟩:=I.base.there b o e nx
   exact un.free b o' e1 (I.base.free b o e n nx) nx
  ·obtain⟨o',e1⟩:=I.base.there b o e nx
   exact un.there b o' e1 nx
  ·obtain⟨m1,e1⟩:=I.base.tbls b ps e
   obtain⟨m2,e2⟩:=un.tbls b _ e1;exact⟨m1++m2,by rw [e2,g1e]⟩
 ·cases z:s0.heap.get? a with
  | none=>rfl
  | some o=>
   obtain⟨o',e1⟩:=I.base.there a o z nx;rw [hna] at e1;cases e1
end
abbrev Flds:=List (Str×D)
def yg(i:Nat)(ρ : Rho): Option (Str×Flds):=match ρ[i]? with
 | some (some (.od o))=>some o
 | _=>none
omit [Lam] [Pin] in
theorem v5{i:Nat}{ρ : Rho}{o:Str×Flds}(h:yg i ρ = some o): ρ[i]? = some (some (.od o)):=by
 unfold yg at h
 split at h
 ·rename_i e;rw [e,mi h]
 ·cases h
def putD(f:Str)(d:D): Flds->Flds
 | []=>[(f,d)]
 | (g,x) :: r=>if g=f then(g,d) :: r else(g,x) :: putD f d r
section
omit [Lam] [Pin]
variable{K:Frag}{F:Hp}
theorem FsR.get{f:Str}{d:D}: ∀ {fs:Flds} {vs:List (Str×V)},FsR K F fs vs->fs.lookup f=some d->∃v,vs.lookup f=some v/\Rep K F d v
 | [],_,_,h=>by cases h
 | p :: fs,_,⟨v,r,rfl,h1,h2⟩,h=>by
  rw [mf] at h ⊢;cases e:f==p.1 with
  | true=>rw [e] at h;cases h;exact⟨v,rfl,h1⟩
  | false=>rw [e] at h;exact FsR.get h2 h
theorem FsR.miss{f:Str}: ∀ {fs:Flds} {vs:List (Str×V)},FsR K F fs vs->fs.lookup f=none->vs.lookup f=none
 | [],_,h,_=>by cases h;rfl
 | p :: fs,_,⟨v,r,rfl,h1,h2⟩,h=>by
  rw [mf] at h ⊢;cases e:f==p.1 with
  | true=>rw [e] at h;cases h
  | false=>rw [e] at h;exact FsR.miss h2 h
theorem FsR.len:∀ {fs:Flds} {vs:List (Str×V)},FsR K F fs vs->vs.length=fs.length
 | [],_,h=>by cases h;rfl
 | p :: fs,_,⟨v,r,rfl,h1,h2⟩=>by rw [m3,m3,FsR.len h2]
theorem FsR.put{f:Str}{d:D}{v:V}(hv:Rep K F d v): ∀ {fs:Flds} {vs:List (Str×V)},FsR K F fs vs->FsR K F (putD f d fs) (wq f v vs)
 | [],_,h=>by cases h;exact⟨v,[],rfl,hv,rfl⟩
 | (g,x) :: fs,_,⟨u,r,rfl,h1,h2⟩=>by
  unfold putD wq
  by_cases e:g=f
  ·rw [gr e]
   show FsR K F _ (if g=f then _ else _);rw [gr e];exact⟨v,r,rfl,hv,h2⟩
  ·rw [gy e]
   show FsR K F _ (if g=f then _ else _);rw [gy e];exact⟨u,_,rfl,h1,FsR.put hv h2⟩
end
def less(H:Hp)(a:Addr): Hp:=fun b=>if b=a then none else H b
section
omit [Lam] [Pin]
theorem vq{H:Hp}{a b:Addr}{o:HO}(h:less H a b=some o): H b=some o/\b≠a:=by
 unfold less at h
 split at h
 ·cases h
 ·exact⟨h,by assumption⟩
theorem yo{H:Hp}{a:Addr}: less H a a=none:=gr rfl
theorem q06{H:Hp}{a b:Addr}(h:b≠a): less H a b=H b:=gy h
end
structure OB0(K:Frag)(F H H0:Hp)(a:Addr)(o:Str×Flds): Prop where
 ex:∃C dx vs,H a=some (.ins C dx vs)/\PySem.W.nsIn K mainGlobals o.1=some (some (.ref C))/\FsR K F o.2 vs
 f:F a=none
 z:H0 a=none
theorem OB0.to{K:Frag}{F H H0:Hp}{a:Addr}{o:Str×Flds}(x:OB0 K F H H0 a o)(hp:∀p,Pin.pin=some p->a=p): ODt K F H H0 a [] o:=⟨rfl,x.ex,x.f,x.z,hp⟩
theorem ODt.ob{K:Frag}{F H H0:Hp}{a:Addr}{bs:List Addr}{o:Str×Flds}(x:ODt K F H H0 a bs o): OB0 K F H H0 a o:=⟨x.ex,x.f,x.z⟩
omit [Lam] [Pin] in
theorem OB0.at{K:Frag}{F H H0 H1:Hp}{a:Addr}{o:Str×Flds}(x:OB0 K F H H0 a o)(hz:H1 a=none): OB0 K F H H1 a o:=⟨x.ex,x.f,hz⟩
theorem Tab.less{H:Hp}{a C dx:Addr}{vs:List (Str×V)}(t:Tab H)(e0:H a=some (.ins C dx vs)): Tab (less H a):=fun q hq=>by
 obtain⟨ps,e,ht,k⟩:=t q hq;have nn:∀ {b:Addr} {u:HO},H b=some u->(∀C dx vs,u ≠ .ins C dx vs)->DL.less H a b=some u:=fun {b u} e1 e2=>by
  rw [q06,e1];intro z;subst z;rw [e0] at e1;cases e1;exact e2 _ _ _ rfl
 refine⟨ps,nn e nofun,ht,fun pos cv z=>?_⟩;obtain⟨c, φ,e1,e2,e3⟩:=k pos cv z;exact⟨c, φ,e1,nn e2 nofun,e3⟩
def q14(K:Frag)(x:Str)(ar:Nat)(op:Flds->List D->Option (Flds×D)): Sp:=fun vs H Q _=>∃F a fs fs' ds d vs',vs=.ref a :: vs'/\SameT F H/\RepL K F ds vs'/\ds.length=ar/\OB0 K F H (less H a) a (x,fs)/\op fs ds=some (fs',d) /\
 ∀v F' H',Grow F (less H a) F' H'->OB0 K F' H' (less H a) a (x,fs')->Rep K F' d v->Q v H'
def yc(n:Nat)(x:Str)(fs:Flds)(ds:List D): Rho:=some (.od (x,fs)) :: (ds.map (fun d=>some (B.fz d))++List.replicate (n-(ds.length+1)) none)
def ko(n:Nat)(x:Str)(u:FS)(fs:Flds)(ds:List D): Option (Flds×D):=match u (yc n x fs ds) with
 | some (.nx, ρ')=>(yg 0 ρ').bind fun o=>if o.1=x then some (o.2,.non) else none
 | some (.rt d, ρ')=>(yg 0 ρ').bind fun o=>if o.1=x then some (o.2,d) else none
 | _=>none
omit [Lam] [Pin] in
theorem q20{n:Nat}{x:Str}{fs:Flds}{ds:List D}{i:Nat}{b:B}(h:(yc n x fs ds)[i]? = some (some b)): (i=0/\b=.od (x,fs))\/∃j d,i=j+1/\ds[j]? = some d/\b=.fz d:=by
 unfold yc at h
 match i,h with
 | 0,h=>cases h;exact .inl ⟨rfl,rfl⟩
 | j+1,h=>
  rw [uk] at h
  by_cases hj:j<ds.length
  ·rw [mm (by simpa using hj),md] at h
   cases z:ds[j]? with
   | none=>rw [z] at h;cases h
   | some d=>rw [z] at h;cases h;exact .inr ⟨j,d,rfl,z,rfl⟩
  ·rw [nh (by simpa using hj),nt] at h
   split at h <;> cases h
theorem qdi{K:Frag}{F H:Hp}{N:List Str}{vs':List V}{a:Addr}{x:Str}{fs:Flds}{ds:List D}(hn:ds.length+1<=N.length)(hp:∀p,Pin.pin=some p->a=p)(s:SameT F H)(r:RepL K F ds vs')(o:OB0 K F H (less H a) a (x,fs)):
  RS K F (less H a) F H (L2.start N (.ref a :: vs')) (yc N.length x fs ds) where
 t0:=by
  obtain⟨C,dx,vs,e,_⟩:=o.ex;exact⟨s.t.less e,s.f⟩
 g:=⟨.refl _,⟨fun b xs e=>(vq e).1,fun b xs e=>(vq e).1,fun {b} e=>by unfold less;split <;> first|rfl|exact e,fun _=>s.t,fun b xs e=>(vq e).1⟩,s.s,fun _ z=>.inl z⟩
 len:=by
  unfold L2.start yc;have:=r.length;simp only [mv,m6,m3,g0o];omega
 fz:=fun i e h=>by
  rcases q20 h with⟨rfl,z⟩|⟨j,d,rfl,hd,z⟩
  ·cases z
  ·cases z
   obtain⟨v,ev,rv⟩:=r.get hd;refine⟨v,?_,rv⟩;unfold L2.start;have hj:=(n8.mp ev).1;rw [m9,List.cons_append,uk,mm (by simpa using hj),md,ev]
   rfl
 ow:=fun i e h=>by rcases q20 h with⟨rfl,z⟩|⟨j,d,rfl,hd,z⟩ <;> cases z
 dj:=fun i j e1 e2 a' _ h=>by rcases q20 h with⟨rfl,z⟩|⟨j,d,rfl,hd,z⟩ <;> cases z
 od:=fun i ks h=>by
  rcases q20 h with⟨rfl,z⟩|⟨j,d,rfl,hd,z⟩
  ·cases z
   exact⟨a,[],rfl,o.to hp,fun j es b _ hb=>by cases hb⟩
  ·cases z
 o1:=fun i j k1 k2 h1 h2=>by
  rcases q20 h1 with⟨rfl,z⟩|⟨j',d,rfl,hd,z⟩
  ·rcases q20 h2 with⟨rfl,z2⟩|⟨j',d,rfl,hd,z2⟩
   ·rfl
   ·cases z2
  ·cases z
theorem qdj{K:Frag}{F0 H0 F H:Hp}{σ : St}{ρ : Rho}{a:Addr}{o:Str×Flds}(hp:Pin.pin=some a)(r:RS K F0 H0 F H σ ρ)(h:yg 0 ρ = some o): Grow F0 H0 F H/\OB0 K F H H0 a o:=by
 obtain⟨a',bs,e1,t,_⟩:=r.od 0 o (v5 h);obtain rfl:a'=a:=t.pn a hp;exact⟨r.g,t.ob⟩
omit [Pin] in
theorem Fun2.okOB{P:Program}{w:World}{K:Frag}{mg:Str->Option Value}{base:Heap}{x c qual:Str}{st:Stmt}{dV:Value}{f:Addr}{fd:FuncData}{N ps:List Str}{k n k1 ar:Nat}{u:FS}(F:Fun2 K x qual st dV f fd)(S:FnScope N ps (qg st))(hn:N.length=n)(ha:ps.length=ar+1)(hk:k+1=k1)
  (hb:∀(Pn:Pin) (cdv:Value) (A:Around) (outer:List Env) (s:Shared) (H:Hp) (E:XK),Room k (A.deeper (envOfC qual (qg st) s.heap.objs.size f cdv))->PSs (qx CX0 P w K mg base N qual (qg st) f cdv A outer s H E).nox (qr st) (letI:Pin:=Pn;tDS K u)) :
  FnOk P w K mg base CX0 k1 f fd ps (q14 K c ar (ko n c u)):=by
 subst hn hk;obtain⟨oc,od,kV,doc,pm,an,cdv,ct,osl,rfl,lk,hcd⟩:=F.ex;have hpl:ps.length<=N.length:=by have:=tf List.length S.pre;rw [uf] at this;omega
 refine qc6 lk hcd S (fun vs H Q E h=>?_) fun A outer s H vs Q E hr hsp=>?_
 ·obtain⟨F,a,fs,fs',ds,d,vs',rfl,_,hR,hl,_⟩:=h
  rw [m3, <- hR.length,hl,ha]
 ·obtain⟨F,a,fs,fs',ds,d,vs',rfl,sT,hR,hl,o,hop,q⟩:=hsp
  refine⟨_,(hb ⟨some a⟩ cdv A outer s H E hr).nox,?_⟩
  letI:Pin:=⟨some a⟩
  have r:=qdi (x:=c) (N:=N) (by omega) (fun p h=>mi h) sT hR o;unfold ko at hop
  split at hop
  ·rename_i ρ' hu
   obtain⟨o',ho',hif⟩:=g6.mp hop
   split at hif
   ·rename_i hx
    cases hif;refine⟨F,_,F,_,.nx, ρ',r,hu,fun σ' F' H' s' r'=>?_⟩;obtain⟨g',t'⟩:=qdj rfl r' ho';exact q .non F' H' g' (by rw [<- hx];exact t') (rep_non.mpr rfl)
   ·cases hif
  ·rename_i d' ρ' hu
   obtain⟨o',ho',hif⟩:=g6.mp hop
   split at hif
   ·rename_i hx
    cases hif;refine⟨F,_,F,_,.rt _, ρ',r,hu,fun v σ' F' H' r' rv=>?_⟩;obtain⟨g',t'⟩:=qdj rfl r' ho';exact q v F' H' g' (by rw [<- hx];exact t') rv
   ·cases hif
  ·cases hop
section
variable{K:Frag}{F0 H0 F H F' H':Hp}{σ : St}{ρ : Rho}
theorem RS.callOB(r:RS K F0 H0 F H σ ρ){i:Nat}{a:Addr}{o o':Str×Flds}(h1 : ρ[i]? = some (some (.od o)))(h2 : σ[i]? = some (some (.ref a)))(ot:ODt K F H H0 a [] o)
  (g:Grow F (less H a) F' H') (o0:OB0 K F' H' (less H a) a o'):RS K F0 H0 F' H' σ (ρ.set i (some (.od o'))):=by
 have kp:∀b u,H0 b=some u->less H a b=H b:=fun b u e=>q06 fun z=>by subst z;rw [ot.z] at e;cases e
 have ln:∀b,less H a b=none->H0 b=none:=fun b e=>by
  by_cases z:b=a
  ·subst z;exact ot.z
  ·rw [q06 z] at e;exact r.g.hh.free e
 obtain⟨C,dx,vs,e0,_⟩:=ot.ex;have back:∀(l:Nat) (us:List D),(ρ.set i (some (.od o')))[l]? = some (some (.ow us))->l≠i /\ ρ[l]? = some (some (.ow us)):=fun l us z=>by
  by_cases q:l=i
  ·subst q
   obtain⟨z',_⟩:=qs z;cases z'
  ·rw [gf (gu q)] at z;exact⟨q,z⟩
 have only:∀(l:Nat) (us),(ρ.set i (some (.od o')))[l]? = some (some (.od us))->l=i/\us=o':=fun l us z=>by
  by_cases q:l=i
  ·subst q
   obtain⟨z',_⟩:=qs z;cases z';exact⟨rfl,rfl⟩
  ·rw [gf (gu q)] at z
   exact absurd (r.o1 l i us o z h1) q
 have owl:∀(b:Addr) (xs:List V),H b=some (.lst xs)->less H a b=some (.lst xs):=fun b xs e3=>by
  rw [q06,e3];intro z;subst z;rw [e3] at e0;cases e0
 exact {
  t0:=r.t0
  g:=⟨r.g.ff.trans g.ff,⟨fun b u e=>g.hh.lst b u (by rw [kp b _ e];exact r.g.hh.lst b u e),fun b u e=>g.hh.ext b u (by rw [kp b _ e];exact r.g.hh.ext b u e),fun {b} e=>ln b (g.hh.free e),fun t=>g.hh.tb ((r.g.hh.tb t).less e0),fun b u e=>g.hh.dk b u (by rw [kp b _ e];exact r.g.hh.dk b u e)⟩,g.fh,fun b hb=>by
   rcases g.nw b hb with z|z
   ·exact r.g.nw b z
   ·exact .inr (ln b z)⟩
  len:=by rw [ni];exact r.len
  fz:=fun j e q1=>by
   by_cases q:j=i
   ·subst q
    obtain⟨z,l⟩:=qs q1;cases z
   ·rw [gf (gu q)] at q1
    obtain⟨v,z1,z2⟩:=r.fz j e q1;exact⟨v,z1,z2.mono g.ff⟩
  ow:=fun j es q1=>by
   obtain⟨_,q1⟩:=back j es q1;obtain⟨b,zs,f1,f2,f3,f4,f5⟩:=r.ow j es q1;have hl:=owl b zs f2;exact⟨b,zs,f1,g.hh.lst _ _ hl,qf5 g f3 hl,f4,f5.mono g.ff⟩
  dj:=fun j k ds' es' b hjk q1 q2 q3=>r.dj j k ds' es' b hjk (back _ _ q1).2 (back _ _ q2).2 q3
  od:=fun j us q1=>by
   obtain⟨rfl,rfl⟩:=only j us q1;exact⟨a,[],h2,(o0.at ot.z).to ot.pn,fun k es b _ p2=>by cases p2⟩
  o1:=fun j k k1 k2 p1 p2=>by rw [(only j k1 p1).1,(only k k2 p2).1]}
theorem Grow.put{a:Addr}{u:HO}(fh:Same F H)(hf:F a=none): Grow F (less H a) F (upd H a u):=
 ⟨.refl _,⟨fun b xs e=>by rw [qo (vq e).2];exact(vq e).1,fun b xs e=>by rw [qo (vq e).2];exact(vq e).1,fun {b} e=>by
   by_cases z:b=a
   ·subst z;exact yo
   ·rw [qo z] at e;rw [q06 z];exact e,fun t=>by
   have:upd H a u=upd (less H a) a u:=by
    funext b
    by_cases z:b=a
    ·subst z;rw [qy,qy]
    ·rw [qo z,qo z,q06 z]
   rw [this];exact t.upd (.inl yo),fun b xs e=>by rw [qo (vq e).2];exact(vq e).1⟩,fun b o e=>by
   rw [qo (fun z=>by subst z;rw [hf] at e;cases e)];exact fh b o e,fun _ z=>.inl z⟩
end
structure ClsF(K:Frag)(x:Str)(C:Addr)(fl:List Str): Prop where
 ns:PySem.W.nsIn K mainGlobals x=some (some (.ref C))
 cls:Cls K C
 no:∀f∈fl,NoAttr K C f
structure CalF(P:Program)(w:World)(K:Frag)(mg:Str->Option Value)(base:Heap)(x m:Str)(C:Addr)(k:Nat)(ps:List Str)(ar:Nat)(op:Flds->List D->Option (Flds×D))(fn:Addr)(fd:FuncData): Prop where
 ok:FnOk P w K mg base CX0 k fn fd ps (q14 K x ar op)
 me:Meth K C m fn
def qla:FS:=fun _=>none
section
variable{X:Cx}{st:Stmt}{e o:Expr}{es:List Expr}{pos apos p px:Pos}{f g:FE}{fa:FA}
theorem qm9:PS X st (tDS X.K qla):=fun pins s σ H D I h=>by
 obtain⟨F0,H0,F, ρ,fl, ρ',r,hf,q⟩:=h;cases hf
def kr(c:Str)(i:Nat)(f:Str): FE:=fun ρ =>(yg i ρ).bind fun o=>if o.1=c then o.2.lookup f else none
theorem k7{c x nm:Str}{C:Addr}{i:Nat}{fl:List Str}(O:ClsF X.K c C fl)(hf:nm∈fl)(hv:PE X (.Name x px) (wo i))(hb:attributeBase (.Name x px) nm X.env (eval (.Name x px) X.env)=eval (.Name x px) X.env:=by rfl): PE X (.Attribute (.Name x px) nm pos) (tD X.K (kr c i nm)):=
 zl (qnl hv hb) fun σ H Q ⟨F0,H0,F, ρ,d,r,hf',q⟩=>by
  obtain⟨ob,h1,h2⟩:=g6.mp hf'
  split at h2
  ·rename_i hc
   obtain⟨a,bs,e1,t,_⟩:=r.od i ob (v5 h1);obtain⟨C',dx,vs,e2,e3,e4⟩:=t.ex;have hC:C'=C:=by
    have:=e3.symm.trans (hc ▸ O.ns);cases this;rfl
   subst hC;obtain⟨v,l,rv⟩:=e4.get h2;exact⟨.ref a,e1,a,C',dx,vs,v,rfl,e2,O.cls,O.no _ hf,l,q v F H (.refl r.fh) rv⟩
  ·cases h2
def q44(c:Str)(i:Nat)(nm:Str)(f:FE): FS:=fun ρ =>(f ρ).bind fun d=>(yg i ρ).bind fun o=>if o.1=c/\o.2.length<100 then some (.nx, ρ.set i (some (.od (c,putD nm d o.2)))) else none
theorem q6h{c x nm:Str}{C:Addr}{i:Nat}{fl:List Str}(O:ClsF X.K c C fl)(hf:nm∈fl)(hv:PE X (.Name x px) (wo i))(he:PE X e (tD X.K f))(hs:swapsWith e (some (.Attribute (.Name x px) nm apos)) pos.line X.env=pure false:=by rfl): PS X (.Assign [.Attribute (.Name x px) nm apos] e pos) (tDS X.K (q44 c i nm f)):=
 xq (qnm hv he hs) fun D σ H ⟨F0,H0,F, ρ,flw, ρ',r,hf',q⟩=>by
  obtain⟨d,h1,hf'⟩:=g6.mp hf';obtain⟨ob,h2,h3⟩:=g6.mp hf'
  split at h3
  ·rename_i hc
   cases h3;refine⟨F0,H0,F, ρ,d,r,h1,fun v F1 H1 g1 r1=>?_⟩;have r':=r.grow g1;obtain⟨a,bs,e1,t,_⟩:=r'.od i ob (v5 h2);obtain rfl:=t.nb;obtain⟨C',dx,vs,e2,e3,e4⟩:=t.ex;have hC:C'=C:=by
    have:=e3.symm.trans (hc.1 ▸ O.ns);cases this;rfl
   subst hC;refine⟨.ref a,e1,a,C',dx,vs,rfl,e2,O.cls,O.no _ hf,by rw [e4.len];omega,?_⟩;refine q σ F1 _ g1.ff (r'.callOB (v5 h2) e1 t (Grow.put r'.fh t.f) ⟨⟨C',dx,_,qy,O.ns,e4.put r1⟩,t.f,yo⟩)
  ·cases h3
abbrev FM:=Rho->Option (D×Rho)
abbrev FAM:=Rho->Option (List D×Rho)
abbrev FTM:=Rho->Option (Bool×Rho)
def tDM(K:Frag)(f:FM): TE:=fun σ H Q=>∃F0 H0 F ρ d ρ',RS K F0 H0 F H σ ρ /\ f ρ = some (d, ρ')/\∀v F' H',Same F F'->RS K F0 H0 F' H' σ ρ'->Rep K F' d v->Q v H'
def q8g(K:Frag)(f:FAM): TA:=fun σ H Q=>∃F0 H0 F ρ ds ρ',RS K F0 H0 F H σ ρ /\ f ρ = some (ds, ρ')/\∀vs F' H',Same F F'->RS K F0 H0 F' H' σ ρ'->RepL K F' ds vs->Q vs H'
def q0n(K:Frag)(f:FTM): TT:=fun σ H Q=>∃F0 H0 F ρ b ρ',RS K F0 H0 F H σ ρ /\ f ρ = some (b, ρ')/\∀F' H',Same F F'->RS K F0 H0 F' H' σ ρ'->Q b H'
def mP(f:FE): FM:=fun ρ =>(f ρ).map fun d=>(d, ρ)
def amP(f:FA): FAM:=fun ρ =>(f ρ).map fun d=>(d, ρ)
def bmP(f:FT): FTM:=fun ρ =>(f ρ).map fun d=>(d, ρ)
theorem vv(h:PE X e (tD X.K f)): PE X e (tDM X.K (mP f)):=zl h fun σ H Q ⟨F0,H0,F, ρ,d, ρ',r,hf,q⟩=>by
 obtain⟨d',h1,h2⟩:=gi.mp hf;cases h2;exact⟨F0,H0,F, ρ,d,r,h1,fun v F' H' g' rv=>q v F' H' g'.ff (r.grow g') rv⟩
theorem q21(h:PA X es (tDA X.K fa)): PA X es (q8g X.K (amP fa)):=q91 h fun σ H Q ⟨F0,H0,F, ρ,d, ρ',r,hf,q⟩=>by
 obtain⟨d',h1,h2⟩:=gi.mp hf;cases h2;exact⟨F0,H0,F, ρ,d,r,h1,fun v F' H' g' rv=>q v F' H' g'.ff (r.grow g') rv⟩
theorem qma{t:FT}(h:PT X e (tDT X.K t)): PT X e (q0n X.K (bmP t)):=q3e h fun σ H Q ⟨F0,H0,F, ρ,d, ρ',r,hf,q⟩=>by
 obtain⟨d',h1,h2⟩:=gi.mp hf;cases h2;exact⟨F0,H0,F, ρ,d,r,h1,fun F' H' g'=>q F' H' g'.ff (r.grow g')⟩
def w9(f:FM)(fa:FAM): FAM:=fun ρ =>(f ρ).bind fun p=>(fa p.2).map fun q=>(p.1 :: q.1,q.2)
theorem q1e{f:FM}{fa:FAM}(ha:PE X e (tDM X.K f))(hr:PA X es (q8g X.K fa))(hs:starEach (e :: es) X.env=(false,eval e X.env) :: starEach es X.env:=by first|exact q1b rfl|rfl): PA X (e :: es) (q8g X.K (w9 f fa)):=
 q91 (zm ha hr hs) fun σ H Q ⟨F0,H0,F, ρ,ds, ρ',r,hf,q⟩=>by
  obtain⟨⟨d, ρ1⟩,h1,hf⟩:=g6.mp hf;obtain⟨⟨ds', ρ2⟩,h2,h3⟩:=gi.mp hf;cases h3;refine⟨F0,H0,F, ρ,d, ρ1,r,h1,fun v F1 H1 s1 r1 rv=>⟨F0,H0,F1, ρ1,ds',_,r1,h2,fun vs F2 H2 s2 r2 rl=>?_⟩⟩;exact q _ F2 H2 (s1.trans s2) r2 (.cons (rv.mono s2) rl)
def yr(op:List D->Option D)(fa:FAM): FM:=fun ρ =>(fa ρ).bind fun p=>(op p.1).map fun d=>(d,p.2)
theorem q6i{k k' ar:Nat}{fn:Addr}{fd:FuncData}{ps:List Str}{op:List D->Option D}{x:Str}{fa:FAM}(C:Cal X.prog X.w X.K X.mg X.base x k ps ar op fn fd)(b:Binds X.K fd ps [])(hr:Room k' X.A)(hk:k<=k')(hg:Gl X x)(ha:PA X (e :: es) (q8g X.K fa))(hdb:(x==("__debug__" : Str))=false:=by decide)
  (he:starEach (e :: es) X.env=(false,eval e X.env) :: starEach es X.env:=by rfl) (hpl:(backTo pos (starEach es X.env)).any (·.1)=false:=by rfl):PE X (.Call (.Name x p) (e :: es) [] pos) (tDM X.K (yr (qq ar [] op) fa)):=
 zl (q77 C.ok (hr.mono hk) hg C.mg C.kp b .nil q59 ha hdb he hpl) fun σ H Q ⟨F0,H0,F, ρ,d, ρ',r,hf,q⟩=>by
  obtain⟨⟨ds, ρ1⟩,h1,hf⟩:=g6.mp hf;obtain⟨d',h2,h3⟩:=gi.mp hf;cases h3;unfold qq at h2
  split at h2
  ·rename_i hl
   refine⟨F0,H0,F, ρ,ds, ρ1,r,h1,fun vs F1 H1 s1 r1 rl=>⟨F1,ds++[],d,r1.sameT (.refl r1.fh),rl.append .nil,hl,h2,fun v F2 H2 g2 rv=>q v F2 H2 (s1.trans g2.ff) (r1.grow g2) rv⟩⟩
  ·cases h2
theorem qmb{k k' ar:Nat}{fn:Addr}{fd:FuncData}{ps:List Str}{op:List D->Option D}{x:Str}{fa:FAM}{dvs:List V}{dds:List D}{dv:List Value}(C:Cal X.prog X.w X.K X.mg X.base x k ps ar op fn fd)(b:Binds X.K fd ps dv)(hd:Vals dvs dv)(hdd:∀H,RepL X.K H dds dvs)(hr:Room k' X.A)(hk:k<=k')(hg:Gl X x)(ha:PA X (e :: es) (q8g X.K fa))(hdb:(x==("__debug__" : Str))=false:=by decide)
  (he:starEach (e :: es) X.env=(false,eval e X.env) :: starEach es X.env:=by rfl) (hpl:(backTo pos (starEach es X.env)).any (·.1)=false:=by rfl):PE X (.Call (.Name x p) (e :: es) [] pos) (tDM X.K (yr (qq ar dds op) fa)):=
 zl (q77 C.ok (hr.mono hk) hg C.mg C.kp b hd q59 ha hdb he hpl) fun σ H Q ⟨F0,H0,F, ρ,d, ρ',r,hf,q⟩=>by
  obtain⟨⟨ds, ρ1⟩,h1,hf⟩:=g6.mp hf;obtain⟨d',h2,h3⟩:=gi.mp hf;cases h3;unfold qq at h2
  split at h2
  ·rename_i hl
   refine⟨F0,H0,F, ρ,ds, ρ1,r,h1,fun vs F1 H1 s1 r1 rl=>⟨F1,ds++dds,d,r1.sameT (.refl r1.fh),rl.append (hdd F1),hl,h2,fun v F2 H2 g2 rv=>q v F2 H2 (s1.trans g2.ff) (r1.grow g2) rv⟩⟩
  ·cases h2
def xn(c:Str)(m:Str)(i ar:Nat)(op:Flds->List D->Option (Flds×D))(fa:FA): FM:=fun ρ =>(yg i ρ).bind fun o=>(fa ρ).bind fun ds=>if o.1=c/\ds.length=ar/\(o.2.lookup m).isNone=true then(op o.2 ds).map fun p=>(p.2, ρ.set i (some (.od (c,p.1)))) else none
theorem qi9{K:Frag}{c m:Str}{C:Addr}{fl:List Str}{i ar:Nat}{op:Flds->List D->Option (Flds×D)}{σ : St}{H:Hp}{Q:VK}(O:ClsF K c C fl)(h:tDM K (xn c m i ar op fa) σ H Q):
  q8y C m (q14 K c ar op) [] E0 (wo i) (tDA K fa) σ H Q:=by
 obtain⟨F0,H0,F, ρ,d, ρ',r,hf,q⟩:=h;obtain⟨ob,h1,hf⟩:=g6.mp hf;obtain⟨ds,h2,h3⟩:=g6.mp hf
 split at h3
 ·rename_i hc
  obtain⟨⟨fs',d'⟩,h4,h5⟩:=gi.mp h3;cases h5;obtain⟨x,fs⟩:=ob;obtain⟨rfl,hl,hn⟩:=hc;obtain⟨a,bs,e1,t,_⟩:=r.od i _ (v5 h1);obtain rfl:=t.nb;obtain⟨C',dx,vs,e2,e3,e4⟩:=t.ex;have hC:C'=C:=by
   have:=e3.symm.trans O.ns;cases this;rfl
  subst hC;refine⟨.ref a,e1,a,dx,vs,rfl,e2,e4.miss (g07.mp hn),F0,H0,F, ρ,ds,r,h2,fun ws F1 H1 g1 r1=>?_⟩;have r':=r.grow g1;have t':=t.grow g1;refine⟨F1,a,fs,fs',ds,d',ws,by rw [mn],r.sameT g1,r1,hl,t'.ob.at yo,h4,fun v F2 H2 g2 o2 rv=>?_⟩;exact q v F2 H2 (g1.ff.trans g2.ff) (r'.callOB (v5 h1) e1 t' g2 o2) rv
 ·cases h3
theorem k8{c x m:Str}{C:Addr}{k k' ar i:Nat}{fn:Addr}{fd:FuncData}{ps fl:List Str}{op:Flds->List D->Option (Flds×D)}{pl:Sem Bool}(O:ClsF X.K c C fl)
  (M:CalF X.prog X.w X.K X.mg X.base c m C k ps ar op fn fd) (b:Binds X.K fd ps []) (hr:Room k' X.A) (hk:k<=k') (hv:PE X (.Name x px) (wo i)) (ha:PA X (e :: es) (tDA X.K fa))
  (hst:starEach (e :: es) X.env=(false,eval e X.env) :: starEach es X.env:=by rfl) (hpl:(backTo pos (starEach es X.env)).any (·.1)=false:=by rfl)
  (ht:eval (.Call (.Attribute (.Name x px) m apos) (e :: es) [] pos) X.env=(do
   let ov <- eval (.Name x px) X.env
   standAt apos.atName
   let(f,first) <- holding [ov] (getMethod ov m pl)
   callWith pos f first (backTo pos (starEach (e :: es) X.env)) (backToKw pos (keywordEach [] X.env))):=by rfl) :
  PE X (.Call (.Attribute (.Name x px) m apos) (e :: es) [] pos) (tDM X.K (xn c m i ar op fa)):=
 zl (qf3 (pl:=pl) hv O.cls M.me M.ok (hr.mono hk) b .nil q59 ha hst hpl ht) fun σ H Q h=>qi9 O h
theorem wa{c x m:Str}{C:Addr}{k k' i:Nat}{fn:Addr}{fd:FuncData}{ps fl:List Str}{op:Flds->List D->Option (Flds×D)}{pl:Sem Bool}(O:ClsF X.K c C fl)
  (M:CalF X.prog X.w X.K X.mg X.base c m C k ps 0 op fn fd) (b:Binds X.K fd ps []) (hr:Room k' X.A) (hk:k<=k') (hv:PE X (.Name x px) (wo i))
  (ht:eval (.Call (.Attribute (.Name x px) m apos) [] [] pos) X.env=(do
   let ov <- eval (.Name x px) X.env
   standAt apos.atName
   let(f,first) <- holding [ov] (getMethod ov m pl)
   callWith pos f first (backTo pos (starEach [] X.env)) (backToKw pos (keywordEach [] X.env))):=by rfl) :
  PE X (.Call (.Attribute (.Name x px) m apos) [] [] pos) (tDM X.K (xn c m i 0 op qh)):=
 zl (qjd (pl:=pl) hv O.cls M.me M.ok (hr.mono hk) b .nil q59 ht) fun σ H Q h=>by
  obtain⟨v,e1,a,dx,fs,h1,h2,h3,F0,H0,F, ρ,ds,r,hf,q⟩:=qi9 O h;cases hf;exact⟨v,e1,a,dx,fs,h1,h2,h3,q [] F H (.refl r.fh) .nil⟩
structure CalO(P:Program)(w:World)(K:Frag)(mg:Str->Option Value)(base:Heap)(x c:Str)(k:Nat)(ps:List Str)(ar:Nat)(op:Flds->List D->Option (Flds×D))(fn:Addr)(fd:FuncData): Prop where
 ok:FnOk P w K mg base CX0 k fn fd ps (q14 K c ar op)
 mg:mg x=some (.ref fn)
 kp:PySem.W.keepIn K (.ref fn)=true
def ku(c:Str)(i ar:Nat)(op:Flds->List D->Option (Flds×D))(fa:FA): FM:=fun ρ =>(yg i ρ).bind fun o=>(fa ρ).bind fun ds=>if o.1=c/\ds.length=ar then(op o.2 ds).map fun p=>(p.2, ρ.set i (some (.od (c,p.1)))) else none
theorem k9{c x g:Str}{k k' ar i:Nat}{fn:Addr}{fd:FuncData}{ps:List Str}{op:Flds->List D->Option (Flds×D)}(C:CalO X.prog X.w X.K X.mg X.base g c k ps ar op fn fd)(b:Binds X.K fd ps [])(hr:Room k' X.A)(hk:k<=k')(hg:Gl X g)(hv:PE X (.Name x px) (wo i))(ha:PA X es (tDA X.K fa))(hdb:(g==("__debug__" : Str))=false:=by decide)
  (he:starEach (.Name x px :: es) X.env=(false,eval (.Name x px) X.env) :: starEach es X.env:=by rfl) (hpl:(backTo pos (starEach es X.env)).any (·.1)=false:=by rfl):PE X (.Call (.Name g p) (.Name x px :: es) [] pos) (tDM X.K (ku c i ar op fa)):=
 zl (q77 C.ok (hr.mono hk) hg C.mg C.kp b .nil q59 (zm hv ha he) hdb he hpl) fun σ H Q ⟨F0,H0,F, ρ,d, ρ',r,hf,q⟩=>by
  obtain⟨ob,h1,hf⟩:=g6.mp hf;obtain⟨ds,h2,h3⟩:=g6.mp hf
  split at h3
  ·rename_i hc
   obtain⟨⟨fs',d'⟩,h4,h5⟩:=gi.mp h3;cases h5;obtain⟨y,fs⟩:=ob;obtain⟨rfl,hl⟩:=hc;obtain⟨a,bs,e1,t,_⟩:=r.od i _ (v5 h1);obtain rfl:=t.nb;refine⟨.ref a,e1,F0,H0,F, ρ,ds,r,h2,fun ws F1 H1 g1 r1=>?_⟩;have r':=r.grow g1;have t':=t.grow g1;refine⟨F1,a,fs,fs',ds,d',ws,by rw [mn],r.sameT g1,r1,hl,t'.ob.at yo,h4,fun v F2 H2 g2 o2 rv=>?_⟩;exact q v F2 H2 (g1.ff.trans g2.ff) (r'.callOB (v5 h1) e1 t' g2 o2) rv
  ·cases h3
def mbT(f:FM): FTM:=fun ρ =>(f ρ).bind fun p=>(q8b p.1).map fun b=>(b,p.2)
theorem q1l{f:FM}(ha:PE X e (tDM X.K f))(he:∀whole,isTrue e X.env whole=(do let v <- whole;standAt e.pos;holding [v] (truthy v)):=by intro _;rfl): PT X e (q0n X.K (mbT f)):=
 q3e (qcj ha he) fun σ H Q ⟨F0,H0,F, ρ,b, ρ',r,hf,q⟩=>by
  obtain⟨⟨d, ρ1⟩,h1,hf⟩:=g6.mp hf;obtain⟨b',h2,h3⟩:=gi.mp hf;cases h3;exact⟨F0,H0,F, ρ,d,_,r,h1,fun v F' H' s' r' rv=>⟨b,qhq h2 r'.fh rv,q F' H' s' r'⟩⟩
def q0c(t:FTM): FTM:=fun ρ =>(t ρ).map fun p=>(!p.1,p.2)
theorem q1m{t:FTM}(ha:PT X e (q0n X.K t)): PT X (.UnaryOp .Not e pos) (q0n X.K (q0c t)):=q3e (qh5 ha) fun σ H Q ⟨F0,H0,F, ρ,c, ρ',r,hf,q⟩=>by
 obtain⟨⟨d, ρ1⟩,h1,h2⟩:=gi.mp hf;cases h2;exact⟨F0,H0,F, ρ,d,_,r,h1,fun F' H' s' r'=>q F' H' s' r'⟩
def q0d(o:D->D->Option D)(f g:FM): FTM:=fun ρ =>(f ρ).bind fun p=>(g p.2).bind fun q=>(o p.1 q.1).bind fun d=>(isB d).map fun b=>(b,q.2)
theorem q0t{a b:Expr}{f g:FM}{op:CmpOp}{o:D->D->Option D}(ho:OpR X (compareOp op) (rD X.K o))(ha:PE X a (tDM X.K f))(hb:PE X b (tDM X.K g))(hm:behindInMarks op b=false:=by first|exact q57 _ (by decide) (by decide)|rfl):
  PT X (.Compare a [op] [b] pos) (q0n X.K (q0d o f g)):=q3e (qf1 ho ha hb hm) fun σ H Q ⟨F0,H0,F, ρ,c, ρ',r,hf,q⟩=>by
 obtain⟨⟨d1, ρ1⟩,h1,hf⟩:=g6.mp hf;obtain⟨⟨d2, ρ2⟩,h2,hf⟩:=g6.mp hf;obtain⟨d,h3,hf⟩:=g6.mp hf;obtain⟨b',h4,h5⟩:=gi.mp hf;cases h5;refine⟨F0,H0,F, ρ,d1, ρ1,r,h1,fun v F1 H1 s1 r1 rv=>⟨F0,H0,F1, ρ1,d2,_,r1,h2,fun u F2 H2 s2 r2 ru=>?_⟩⟩;refine⟨F2,d1,d2,d,r2.fh,rv.mono s2,ru,h3,fun w F3 H3 g3 r3=>?_⟩;cases d <;> simp only [isB] at h4 <;> first|(cases h4;done)|skip
 cases h4;exact⟨_,rep_bl.mp r3,q F3 H3 (s1.trans (s2.trans g3.ff)) (r2.grow g3)⟩
def q5j(t u:FTM): FTM:=fun ρ =>(t ρ).bind fun p=>if p.1 then u p.2 else some (false,p.2)
def q3n(t u:FTM): FTM:=fun ρ =>(t ρ).bind fun p=>if p.1 then some (true,p.2) else u p.2
variable{rest:List Expr}{a b:Expr}{t u:FTM}
theorem qmc(ha:PT X a (q0n X.K t)): PW X (.BoolOp .And [a] pos) (q0n X.K t):=qew ha
theorem q3o(ha:PT X a (q0n X.K t)): PW X (.BoolOp .Or [a] pos) (q0n X.K t):=qh3 ha
theorem qol(ha:PT X a (q0n X.K t))(hb:PW X (.BoolOp .And (b :: rest) pos) (q0n X.K u)): PW X (.BoolOp .And (a :: b :: rest) pos) (q0n X.K (q5j t u)):=q93 (qh4 ha hb) fun σ H Q ⟨F0,H0,F, ρ,c, ρ',r,hf,q⟩=>by
 obtain⟨⟨d, ρ1⟩,h1,h2⟩:=g6.mp hf;refine⟨F0,H0,F, ρ,d, ρ1,r,h1,fun F' H' s' r'=>?_⟩;cases d with
 | true=>rw [gr rfl] at h2 ⊢;exact⟨F0,H0,F', ρ1,c, ρ',r',h2,fun F2 H2 s2 r2=>q F2 H2 (s'.trans s2) r2⟩
 | false=>rw [gy gp] at h2 ⊢;cases h2;exact q F' H' s' r'
theorem q45(ha:PT X a (q0n X.K t))(hb:PW X (.BoolOp .Or (b :: rest) pos) (q0n X.K u)): PW X (.BoolOp .Or (a :: b :: rest) pos) (q0n X.K (q3n t u)):=q93 (ql1 ha hb) fun σ H Q ⟨F0,H0,F, ρ,c, ρ',r,hf,q⟩=>by
 obtain⟨⟨d, ρ1⟩,h1,h2⟩:=g6.mp hf;refine⟨F0,H0,F, ρ,d, ρ1,r,h1,fun F' H' s' r'=>?_⟩;cases d with
 | false=>rw [gy gp] at h2 ⊢;exact⟨F0,H0,F', ρ1,c, ρ',r',h2,fun F2 H2 s2 r2=>q F2 H2 (s'.trans s2) r2⟩
 | true=>rw [gr rfl] at h2 ⊢;cases h2;exact q F' H' s' r'
def q15(t:FTM)(u w:FS): FS:=fun ρ =>(t ρ).bind fun p=>if p.1 then u p.2 else w p.2
theorem q07{c:Expr}{a b:List Stmt}{u w:FS}(hc:PT X c (q0n X.K t))(ha:PSs X a (tDS X.K u))(hb:PSs X b (tDS X.K w)): PS X (.If c a b pos) (tDS X.K (q15 t u w)):=xq (qc4 hc ha hb) fun D σ H ⟨F0,H0,F, ρ,fl, ρ',r,hf,q⟩=>by
 obtain⟨⟨c, ρ1⟩,h1,h2⟩:=g6.mp hf;refine⟨F0,H0,F, ρ,c, ρ1,r,h1,fun F' H' s' r'=>?_⟩;cases c with
 | true=>rw [gr rfl] at h2 ⊢;exact⟨F0,H0,F', ρ1,fl, ρ',r',h2,q0z s' q⟩
 | false=>rw [gy gp] at h2 ⊢;exact⟨F0,H0,F', ρ1,fl, ρ',r',h2,q0z s' q⟩
def q9b(f:FM): FS:=fun ρ =>(f ρ).map fun p=>(.rt p.1,p.2)
theorem qfh{f:FM}(he:PE X e (tDM X.K f)): PS X (.Return (some e) pos) (tDS X.K (q9b f)):=xq (qh6 he) fun D σ H ⟨F0,H0,F, ρ,fl, ρ',r,hf,q⟩=>by
 obtain⟨⟨d, ρ1⟩,h1,h2⟩:=gi.mp hf;cases h2;exact⟨F0,H0,F, ρ,d,_,r,h1,fun v F' H' s' r' rv=>q v σ F' H' r' rv⟩
def y0(f:FM): FS:=fun ρ =>(f ρ).map fun p=>(.nx,p.2)
theorem yp{f:FM}(he:PE X e (tDM X.K f))(hs:swapsWith e none pos.line X.env=pure false:=by rfl): PS X (.Expr e pos) (tDS X.K (y0 f)):=xq (q75 he hs) fun D σ H ⟨F0,H0,F, ρ,fl, ρ',r,hf,q⟩=>by
 obtain⟨⟨d, ρ1⟩,h1,h2⟩:=gi.mp hf;cases h2;exact⟨F0,H0,F, ρ,d,_,r,h1,fun v F' H' s' r' rv=>q σ F' H' s' r'⟩
def q7k(i:Nat)(f:FM): FS:=fun ρ =>(f ρ).map fun p=>(.nx,p.2.set i (some (.fz p.1)))
theorem qa7{i:Nat}{x:Str}{px:Pos}{f:FM}(hN:X.N.Nodup)(hi:X.N[i]? = some x)(hx:Loc X.env.scope x)(he:PE X e (tDM X.K f))(hs:swapsWith e (some (.Name x px)) pos.line X.env=pure false:=by rfl)(hf:X.fn x=true\/X.env.scope.names.lookup x=some .local:=by first|exact .inl rfl|exact .inr rfl|assumption):
  PS X (.Assign [.Name x px] e pos) (tDS X.K (q7k i f)):=xq (q8w hN hi hx he hs hf) fun D σ H ⟨F0,H0,F, ρ,fl, ρ',r,hf,q⟩=>by
 obtain⟨⟨d, ρ1⟩,h1,h2⟩:=gi.mp hf;cases h2;exact⟨F0,H0,F, ρ,d, ρ1,r,h1,fun v F' H' s' r' rv=>q _ F' H' s' (r'.set i rv)⟩
end
end DL
namespace L2
open PySem PySem.Spec PyProof.Rows
section
variable{X:Cx}{CX:CXT}{k:Nat}{f C:Addr}{fd:FuncData}{ps ks:List Str}{sp:Sp}{E:XK}{x:Str}{p pos:Pos}{e:Expr}{es:List Expr}{kws:List Keyword}{t tk:TA}{g:List Value->List Value->List Value}{gV:List V->List V->List V}
end
end L2
namespace DL
open PySem PySem.Spec PyProof.Rows L2
variable[Lam][Pin]
def q6j(i:Nat)(ρ : Rho): Bool:=(ρ.set i none).all fun b=>match b with
 | some (.od _)=>false
 | _=>true
omit [Lam] [Pin] in
theorem qfi{i j:Nat}{ρ : Rho}{o}(h:q6j i ρ = true)(h2 : ρ[j]? = some (some (.od o))): j=i:=by
 by_cases q:j=i
 ·exact q
 ·unfold q6j at h
  rw [g1v] at h;have:=h (some (.od o)) (List.mem_of_getElem? (i:=j) (by rw [gf (gu q)];exact h2));cases this
section
variable{K:Frag}{F0 H0 F H F' H':Hp}{σ : St}{ρ : Rho}
theorem RS.setOB(r:RS K F0 H0 F H σ ρ){i:Nat}{a:Addr}{o:Str×Flds}(hp:Pin.pin=none)(no:q6j i ρ = true)(o0:OB0 K F H H0 a o): RS K F0 H0 F H (σ.set i (some (.ref a))) (ρ.set i (some (.od o))) where
 t0:=r.t0
 g:=r.g
 len:=by rw [ni,ni];exact r.len
 fz:=fun j e h1=>by
  by_cases q:j=i
  ·subst q
   obtain⟨z,l⟩:=qs h1;cases z
  ·rw [gf (gu q)] at h1 ⊢
   exact r.fz j e h1
 ow:=fun j ds h1=>by
  by_cases q:j=i
  ·subst q
   obtain⟨z,l⟩:=qs h1;cases z
  ·rw [gf (gu q)] at h1 ⊢
   exact r.ow j ds h1
 dj :=fun j k ds es a hjk h1 h2 h3=>by
  by_cases q:j=i
  ·subst q
   obtain⟨z,l⟩:=qs h1;cases z
  ·by_cases q2:k=i
   ·subst q2
    obtain⟨z,l⟩:=qs h2;cases z
   ·rw [gf (gu q)] at h1 h3
    rw [gf (gu q2)] at h2 ⊢;exact r.dj j k ds es a hjk h1 h2 h3
 od:=fun j kvs h1=>by
  by_cases q:j=i
  ·subst q
   obtain⟨z,l⟩:=qs h1;cases z;exact⟨a,[],by rw [um];simp [r.len,l],o0.to (fun p z=>by rw [hp] at z;cases z),fun k es b _ hb=>by cases hb⟩
  ·rw [gf (gu q)] at h1
   exact absurd (qfi no h1) q
 o1 :=fun j k k1 k2 h1 h2=>by
  have only:∀(l:Nat) us,(ρ.set i (some (.od o)))[l]? = some (some (.od us))->l=i:=fun l us z=>by
   by_cases q:l=i
   ·exact q
   ·rw [gf (gu q)] at z
    exact qfi no z
  rw [only j k1 h1,only k k2 h2]
end
structure MkF(P:Program)(w:World)(K:Frag)(mg:Str->Option Value)(base:Heap)(x:Str)(C:Addr)(k:Nat)(ps:List Str)(ar:Nat)(op:Flds->List D->Option (Flds×D))(fn:Addr)(fd:FuncData): Prop where
 ok:FnOk P w K mg base CX0 k fn fd ps (q14 K x ar op)
 mks:Mk K C fn
 mg:mg x=some (.ref C)
 ns:PySem.W.nsIn K mainGlobals x=some (some (.ref C))
def qlb:D->Bool
 | .non=>true
 | _=>false
def qa8(c:Str)(i ar:Nat)(dds:List D)(op:Flds->List D->Option (Flds×D))(fa:FA): FS:=fun ρ =>(fa ρ).bind fun ds=>if q6j i ρ = true/\(ds++dds).length=ar then(op [] (ds++dds)).bind fun p=>if qlb p.2 then some (.nx, ρ.set i (some (.od (c,p.1)))) else none else none
section
variable{X:Cx}{e:Expr}{es:List Expr}{kws:List Keyword}{pos p px spos:Pos}{fa fk:FA}
theorem qom{c:Str}{C:Addr}{i ar:Nat}{op:Flds->List D->Option (Flds×D)}{F0 H0 F H:Hp}{σ : St}{ρ : Rho}{Dn:Ends}{ds:List D}{vs:List V}{fs':Flds}{d:D}{x dx:Addr}(hp:Pin.pin=none)(hns:PySem.W.nsIn X.K mainGlobals c=some (some (.ref C)))
  (r:RS X.K F0 H0 F H σ ρ) (no:q6j i ρ = true) (h4:op [] ds=some (fs',d)) (hd:qlb d=true) (hl:ds.length=ar) (rl:RepL X.K F ds vs) (n1:H x=none) (n2:H dx=none) (n3:dx≠x)
  (q:∀ σ' F' H',Same F F'->RS X.K F0 H0 F' H' σ' (ρ.set i (some (.od (c,fs'))))->Dn.nx σ' H') :
  q14 X.K c ar op (.ref x :: vs) (upd (upd H dx (.own x)) x (.ins C dx [])) (fun v H3=>v=.non/\Dn.nx (σ.set i (some (.ref x))) H3) E0:=by
 obtain rfl:d=.non:=by cases d <;> first|rfl|cases hd
 have hF:F x=none:=r.fh.free n1;have gd:Grow F H F (upd H dx (.own x)):=Grow.own r.fh n2;have hx':upd H dx (.own x) x=none:=by rw [qo (gu n3)];exact n1
 have lx:less (upd (upd H dx (.own x)) x (.ins C dx [])) x=upd H dx (.own x):=by
  funext b
  by_cases z:b=x
  ·subst z;rw [yo,hx']
  ·rw [q06 z,qo z]
 have g2:Grow F H F (upd (upd H dx (.own x)) x (.ins C dx [])):=gd.trans (Grow.own gd.fh hx');refine⟨F,x,[],fs',ds,.non,vs,rfl,r.sameT g2,rl,hl,⟨⟨C,dx,[],qy,hns,rfl⟩,hF,yo⟩,h4,fun v F2 H2 g3 o3 rv=>⟨rep_non.mp rv,?_⟩⟩;rw [lx] at g3;exact q _ F2 H2 g3.ff ((r.grow (gd.trans g3)).setOB hp no (o3.at (r.g.hh.free n1)))
theorem qdk{c x:Str}{C:Addr}{i k k' ar:Nat}{fn:Addr}{fd:FuncData}{ps:List Str}{op:Flds->List D->Option (Flds×D)}{dvs:List V}{dds:List D}{dv:List Value}(hp:Pin.pin=none)(M:MkF X.prog X.w X.K X.mg X.base c C k ps ar op fn fd)(hr:Room k' X.A)(hk:k+1<=k')(hg:Gl X c)
  (hb:Binds X.K fd ps dv) (hd:Vals dvs dv) (hdd:∀H,RepL X.K H dds dvs) (ha:PA X (e :: es) (tDA X.K fa)) (hN:X.N.Nodup) (hi:X.N[i]? = some x) (hx:Loc X.env.scope x)
  (hs:swapsWith (.Call (.Name c p) (e :: es) [] pos) (some (.Name x px)) spos.line X.env=pure false:=by rfl) (hf:X.fn x=true\/X.env.scope.names.lookup x=some .local:=by first|exact .inl rfl|exact .inr rfl|assumption)
  (hdb:(c==("__debug__" : Str))=false:=by decide) (he:starEach (e :: es) X.env=(false,eval e X.env) :: starEach es X.env:=by rfl) (hpl:(backTo pos (starEach es X.env)).any (·.1)=false:=by rfl) :
  PS X (.Assign [.Name x px] (.Call (.Name c p) (e :: es) [] pos) spos) (tDS X.K (qa8 c i ar dds op fa)):=
 xq (q8w hN hi hx (qls M.mks M.ok (hr.mono hk) hg M.mg hb hd q59 ha hdb he hpl) hs hf) fun D σ H ⟨F0,H0,F, ρ,fl, ρ',r,hf',q⟩=>by
  obtain⟨ds,h1,h2⟩:=g6.mp hf'
  split at h2
  ·rename_i hc
   obtain⟨⟨fs',d⟩,h4,h5⟩:=g6.mp h2
   split at h5
   ·rename_i hn
    cases h5;refine⟨F0,H0,F, ρ,ds,r,h1,fun vs F1 H1 g1 r1 x dx n1 n2 n3=>?_⟩;exact qom (Dn:=D) hp M.ns (r.grow g1) hc.1 h4 hn hc.2 (r1.append (hdd F1)) n1 n2 n3 fun σ' F' H' s' r'=>q σ' F' H' (g1.ff.trans s') r'
   ·cases h5
  ·cases h2
end
abbrev XV:=Str×Option (Str×Int)
abbrev FX:=Rho->Option (XV×Rho)
def xOk(K:Frag)(F0 H0:Hp)(C:Addr)(p:XV)(ρ':Rho)(E:XK): Prop:=∀F' H' σ' od,RS K F0 H0 F' H' σ' ρ'->XF F' od p.2->E (.ref C) od H'
def tXS(K:Frag)(v:FX)(E:XK): TS:=fun _ σ H=>∃F0 H0 F ρ p ρ' C,RS K F0 H0 F H σ ρ /\ v ρ = some (p, ρ')/\PySem.W.nsIn K mainGlobals p.1=some (some (.ref C))/\xOk K F0 H0 C p ρ' E
def tXE(K:Frag)(v:FX)(E:XK): TE:=fun σ H _=>∃F0 H0 F ρ p ρ' C,RS K F0 H0 F H σ ρ /\ v ρ = some (p, ρ')/\PySem.W.nsIn K mainGlobals p.1=some (some (.ref C))/\xOk K F0 H0 C p ρ' E
def kb(K:Frag)(c:Str)(ar:Nat)(op:Flds->List D->Option (XV×Flds)): Sp:=fun vs H _ E=>∃F a fs fs' ds p C vs',vs=.ref a :: vs'/\SameT F H/\RepL K F ds vs'/\ds.length=ar/\OB0 K F H (less H a) a (c,fs)/\op fs ds=some (p,fs')/\PySem.W.nsIn K mainGlobals p.1=some (some (.ref C)) /\
 ∀F' H' od,Grow F (less H a) F' H'->OB0 K F' H' (less H a) a (c,fs')->XF F' od p.2->E (.ref C) od H'
def kc:FX:=fun _=>none
def q9c(x:Str): FX:=fun ρ =>some ((x,none), ρ)
def xIf(t:FT)(a b:FX): FX:=fun ρ =>(t ρ).bind fun c=>if c then a ρ else b ρ
def q16(u:FS)(a b:FX): FX:=fun ρ =>(a ρ).or (match u ρ with|some (.nx, ρ')=>b ρ'|_=>none)
def q1n(c:Str)(m:Str)(i ar:Nat)(op:Flds->List D->Option (XV×Flds))(fa:FA): FX:=fun ρ =>(yg i ρ).bind fun o=>(fa ρ).bind fun ds=>if o.1=c/\ds.length=ar/\(o.2.lookup m).isNone=true then(op o.2 ds).map fun p=>(p.1, ρ.set i (some (.od (c,p.2)))) else none
theorem PS.nox{X:Cx}{st:Stmt}{t:TS}(h:PS X.nox st t): PS X st t:=fun pins s σ H D I hw=>
 mw (h pins s σ H D (I.wish _) hw) (fun _ _ q=>q.unwish) fun _ _ z=>False.elim z
theorem PA.nox'{X:Cx}{es:List Expr}{t:TA}(h:PA X.nox es t): PA X es t:=fun pos pins s σ H Q I hw=>
 mw (h pos pins s σ H Q (I.wish _) hw) (fun _ _ ⟨v,H',I',r,q⟩=>⟨v,H',I'.unwish,r,q⟩) fun _ _ z=>False.elim z
theorem PE.nox'{X:Cx}{e:Expr}{t:TE}(h:PE X.nox e t): PE X e t:=fun pins s σ H Q I hw=>
 mw (h pins s σ H Q (I.wish _) hw) (fun _ _ ⟨v,H',I',r,q⟩=>⟨v,H',I'.unwish,r,q⟩) fun _ _ z=>False.elim z
section
variable{P:Program}{w:World}{K:Frag}{mg:Str->Option Value}{base:Heap}{N:List Str}{qual:Str}{scope:Scope}{f:Addr}{cd:Value}{A:Around}{outer:List Env}{s0:Shared}{H0:Hp}{E:XK}
variable{st:Stmt}{rest:List Stmt}{u:FS}{v v':FX}{t:FT}{pos:Pos}
theorem qkb{X:Cx}: PS X st (tXS K kc E):=fun _ _ _ _ _ _ ⟨_,_,_,_,_,_,_,_,h,_⟩=>by cases h
theorem km{X:Cx}{sts:List Stmt}: PSs X sts (tXS K kc E):=fun _ _ _ _ _ _ ⟨_,_,_,_,_,_,_,_,h,_⟩=>by cases h
theorem q8h{C:Addr}{x m:Str}{np p2 cpos:Pos}{j}(hC:q6g K C)(hg:Gl (qx (CXR P w) P w K mg base N qual scope f cd A outer s0 H0 E) x)(hm:mg x=some (.ref C))(hns:PySem.W.nsIn K mainGlobals x=some (some (.ref C)))(hd:(x==("__debug__" : Str))=false:=by decide):
  PS (qx (CXR P w) P w K mg base N qual scope f cd A outer s0 H0 E) (.Raise (some (.Call (.Name x np) [.Constant (.str m) j p2] [] cpos)) none pos) (tXS K (q9c x) E):=xq (qk9 hC hg hm hd) fun D σ H ⟨F0,H0,F, ρ,y, ρ',C',r,hv,hn,hE⟩=>by
 cases hv;rw [hns] at hn;cases hn;exact hE _ _ _ none r trivial
theorem q4w{X:Cx}(h:PS X st (tXS K v E)): PSs X [st] (tXS K v E):=q9v h
theorem q3p{X:Cx}(h1:PS X st (tDS K u))(h1x:PS X st (tXS K v E))(h2x:PSs X rest (tXS K v' E)): PSs X (st :: rest) (tXS K (q16 u v v') E):=by
 intro pins s σ H D I ⟨F0,H0,F, ρ,x, ρ',C,r,hv,hn,hE⟩;unfold q16 at hv;cases h:v ρ with
 | some y=>
  rw [h,g0e] at hv;cases hv;refine uz (thn (h1x pins s σ H {nx:=fun _ _=>False,rt:=fun _ _=>False} I ⟨F0,H0,F, ρ,x, ρ',C,r,h,hn,hE⟩) fun fl s1 q=>?_);cases fl with
  | next=>obtain⟨_,_,_,q⟩:=q;exact q.elim
  | brk=>obtain⟨_,_,_,q⟩:=q;exact q.elim
  | cont=>obtain⟨_,_,_,q⟩:=q;exact q.elim
  | ret z=>obtain⟨_,_,_,_,_,q⟩:=q;exact q.elim
 | none=>
  rw [h,g1b] at hv
  split at hv
  ·rename_i ρ1 hu
   refine uz (thn (h1 pins s σ H {D with nx:=fun σ' H'=>tXS K v' E D σ' H'} I ⟨F0,H0,F, ρ,.nx, ρ1,r,hu,fun σ' F' H' s' r'=>⟨F0,H0,F', ρ1,x, ρ',C,r',hv,hn,hE⟩⟩) fun fl s1 q=>?_);cases fl with
   | next=>obtain⟨σ',H',I',q⟩:=q;exact h2x pins s1 σ' H' D I' q
   | brk=>exact q
   | cont=>exact q
   | ret z=>exact q
  ·cases hv
theorem q9d{X:Cx}{c:Expr}{a b:List Stmt}(hc:PT X c (tDT K t))(ha:PSs X a (tXS K v E))(hb:PSs X b (tXS K v' E)): PS X (.If c a b pos) (tXS K (xIf t v v') E):=xq (qc4 hc ha hb) fun D σ H ⟨F0,H0,F, ρ,x, ρ',C,r,hv,hn,hE⟩=>by
 obtain⟨d,h1,h2⟩:=g6.mp hv;refine⟨F0,H0,F, ρ,d,r,h1,fun F' H' g=>?_⟩;cases d with
 | true=>exact qjk ⟨F0,H0,F', ρ,x, ρ',C,r.grow g,h2,hn,hE⟩
 | false=>exact qjj ⟨F0,H0,F', ρ,x, ρ',C,r.grow g,h2,hn,hE⟩
theorem qmd{C0:Addr}{c m:Str}{fl:List Str}{i ar:Nat}{op:Flds->List D->Option (XV×Flds)}{fa:FA}{σ : St}{H:Hp}{Q:VK}(O:ClsF K c C0 fl)(h:tXE K (q1n c m i ar op fa) E σ H Q):
  q8y C0 m (kb K c ar op) [] E (wo i) (tDA K fa) σ H Q:=by
 obtain⟨F0,H0,F, ρ,p, ρ',C,r,hv,hn,hE⟩:=h;obtain⟨ob,h1,hv⟩:=g6.mp hv;obtain⟨ds,h2,h3⟩:=g6.mp hv
 split at h3
 ·rename_i hc
  obtain⟨⟨p',fs'⟩,h4,h5⟩:=gi.mp h3;cases h5;obtain⟨x,fs⟩:=ob;obtain⟨rfl,hl,hnn⟩:=hc;obtain⟨a,bs,e1,t,_⟩:=r.od i _ (v5 h1);obtain rfl:=t.nb;obtain⟨C',dx,vs,e2,e3,e4⟩:=t.ex;have hC:C'=C0:=by
   have:=e3.symm.trans O.ns;cases this;rfl
  subst hC;refine⟨.ref a,e1,a,dx,vs,rfl,e2,e4.miss (g07.mp hnn),F0,H0,F, ρ,ds,r,h2,fun ws F1 H1 g1 r1=>?_⟩;have r':=r.grow g1;have t':=t.grow g1;exact⟨F1,a,fs,fs',ds,_,C,ws,by rw [mn],r.sameT g1,r1,hl,t'.ob.at yo,h4,hn,fun F2 H2 od g2 o2 xf=>hE F2 H2 σ od (r'.callOB (v5 h1) e1 t' g2 o2) xf⟩
 ·cases h3
theorem qfj{C0:Addr}{c x m:Str}{k k' ar i:Nat}{fn:Addr}{fd:FuncData}{ps fl:List Str}{op:Flds->List D->Option (XV×Flds)}{e:Expr}{es:List Expr}{fa:FA}{px apos:Pos}{pl:Sem Bool}(O:ClsF K c C0 fl)(G:FnOk P w K mg base (CXR P w) k fn fd ps (kb K c ar op))(me:Meth K C0 m fn)(b:Binds K fd ps [])(hr:Room k' (qx (CXR P w) P w K mg base N qual scope f cd A outer s0 H0 E).A)(hk:k<=k')
  (hv:PE (qx (CXR P w) P w K mg base N qual scope f cd A outer s0 H0 E) (.Name x px) (wo i)) (ha:PA (qx (CXR P w) P w K mg base N qual scope f cd A outer s0 H0 E).nox (e :: es) (tDA K fa))
  (hst:starEach (e :: es) (qx (CXR P w) P w K mg base N qual scope f cd A outer s0 H0 E).env=(false,eval e (qx (CXR P w) P w K mg base N qual scope f cd A outer s0 H0 E).env) :: starEach es (qx (CXR P w) P w K mg base N qual scope f cd A outer s0 H0 E).env:=by rfl) (hpl:(backTo pos (starEach es (qx (CXR P w) P w K mg base N qual scope f cd A outer s0 H0 E).env)).any (·.1)=false:=by rfl)
  (ht:eval (.Call (.Attribute (.Name x px) m apos) (e :: es) [] pos) (qx (CXR P w) P w K mg base N qual scope f cd A outer s0 H0 E).env=(do
   let ov <- eval (.Name x px) (qx (CXR P w) P w K mg base N qual scope f cd A outer s0 H0 E).env
   standAt apos.atName
   let(fv,first) <- holding [ov] (getMethod ov m pl)
   callWith pos fv first (backTo pos (starEach (e :: es) (qx (CXR P w) P w K mg base N qual scope f cd A outer s0 H0 E).env)) (backToKw pos (keywordEach [] (qx (CXR P w) P w K mg base N qual scope f cd A outer s0 H0 E).env))):=by rfl) :
  PE (qx (CXR P w) P w K mg base N qual scope f cd A outer s0 H0 E) (.Call (.Attribute (.Name x px) m apos) (e :: es) [] pos) (tXE K (q1n c m i ar op fa) E):=
 zl (qf3 (X:=(qx (CXR P w) P w K mg base N qual scope f cd A outer s0 H0 E)) (pl:=pl) hv O.cls me G (hr.mono hk) b .nil qq8 (PA.nox' ha) hst hpl ht) fun σ H Q h=>qmd O h
theorem qfk{X:Cx}{e:Expr}(h:PE X e (tXE K v E))(hs:swapsWith e none pos.line X.env=pure false:=by rfl): PS X (.Expr e pos) (tXS K v E):=xq (q75 h hs) fun D σ H q=>q
end
section
variable{P:Program}{w:World}{K:Frag}{mg:Str->Option Value}{base:Heap}{x qual:Str}{st:Stmt}{dV:Value}{f:Addr}{fd:FuncData}{N ps:List Str}
omit [Pin] in
theorem q46{c:Str}{k n ar k1:Nat}{v:FX}(F:Fun2 K x qual st dV f fd)(S:FnScope N ps (qg st))(hn:N.length=n)(ha:ps.length=ar+1)(hk:k+1=k1)
  (hb:∀(Pn:Pin) (cdv:Value) (A:Around) (outer:List Env) (s:Shared) (H:Hp) (E:XK),Room k (A.deeper (envOfC qual (qg st) s.heap.objs.size f cdv))->PSs (qx (CXR P w) P w K mg base N qual (qg st) f cdv A outer s H E) (qr st) (letI:Pin:=Pn;tXS K v E)) :
  FnOk P w K mg base (CXR P w) k1 f fd ps (kb K c ar fun fs ds=>(v (yc n c fs ds)).bind fun p=>(yg 0 p.2).bind fun o=>if o.1=c then some (p.1,o.2) else none):=by
 subst hn hk;obtain⟨oc,od,kV,doc,pm,an,cdv,ct,osl,rfl,lk,hcd⟩:=F.ex;have hpl:ps.length<=N.length:=by have:=tf List.length S.pre;rw [uf] at this;lia
 refine qc6 lk hcd S (fun vs H Q E h=>?_) fun A outer s H vs Q E hr hsp=>?_
 ·obtain⟨F,a,fs,fs',ds,p,C,vs',rfl,_,hR,hl,_⟩:=h
  rw [m3, <- hR.length,hl,ha]
 ·obtain⟨F,a,fs,fs',ds,p,C,vs',rfl,sT,hR,hl,o,hop,hn,q⟩:=hsp
  obtain⟨⟨p', ρ'⟩,h1,hop⟩:=g6.mp hop;obtain⟨o',h2,h3⟩:=g6.mp hop
  split at h3
  ·rename_i hx
   cases h3
   letI:Pin:=⟨some a⟩
   have r:=qdi (x:=c) (N:=N) (by omega) (fun p h=>mi h) sT hR o;refine⟨_,hb ⟨some a⟩ cdv A outer s H E hr,⟨_,_,_,_,_, ρ',C,r,h1,hn,fun F' H' σ' od r' xf=>?_⟩⟩;obtain⟨g',t'⟩:=qdj rfl r' h2;exact q F' H' od g' (by rw [<- hx];exact t') xf
  ·cases h3
end
section
variable{P:Program}{w:World}{K:Frag}{mg:Str->Option Value}{base:Heap}{CX:CXT}{k:Nat}{f:Addr}{fd:FuncData}{ps:List Str}{sp sp':Sp}
end
section
variable{M:Model}{A:Around}{E:Value->Shared->Prop}{s:Shared}{K:Frag}{a C C2:Addr}{od:Option Addr}
open PySem.W in
theorem qel{b:Bool}{Q:Bool->Shared->Prop}(X:K.In s.heap)(e:XE a C od s.heap)(c2:ExcC K C2)(ht:typeIn K (.ref C2)=some (.type "type"))(hs:mroIn K C (.ref C2)=some b)(hq:Q b s): wpAny M A (excMatches (.ref a) (.ref C2)) Q E s:=by
 obtain⟨hh,g,d,t,os⟩:=s;have L0:Looks M hh (isInstance (.ref C2) (.type "tuple")) false:=(looks_typeIn X ht).andThen (Looks.of_pure tc_notTuple);have L1:Looks M hh (isType (.ref C2)) true:=by
  obtain⟨cdD,hcD⟩:=ue.mp (qa0 c2);unfold PySem.W.clsIn at hcD
  split at hcD
  ·rename_i c' d' cd' sl' ho
   intro A' Q' E' s' k q;unfold isType loadHead;exact g9 (g19 (k _ _ (X _ _ ho)) (gh q))
  ·cases hcD
 have L2:Looks M hh (isExcClass (.ref C2)) true:=by
  refine L1.andThen ?_;rw [gr rfl];exact looks_mroIn X c2.cb
 have L3:=q35 (M:=M) e;have L4:=looks_mroIn (M:=M) X hs;unfold excMatches;refine g9 (L0.at ?_);simp only [p7,g01];refine g9 (gh ?_);simp only [g06,g29,bind_assoc,pure_bind];refine g9 (L2.at ?_);simp only [g2c,p7,g01,pure_bind];refine g9 (L3.at ?_);refine g9 (L4.at ?_);cases b with
 | true=>
  simp only [p5,pure_bind];exact gh hq
 | false=>
  simp only [p7,g01,pure_bind];exact gh hq
end
section
variable{X:Cx}
def Handles(X:Cx)(C:Addr)(hs:List ExceptHandler)(th:Addr->Option Addr->TS): Prop:=∀(pins:List (Addr×Obj)) (σ : St) (H H2:Hp) (s s':Shared) (B:Heap) (a:Addr) (od:Option Addr) (D:Ends),Inv X pins σ H s->s.heap.get? a=none->H2 a=none ->
 (∀h6,B.StaysIn h6->s'.heap.UpToSlots h6->Inv X pins σ H2 {s' with heap:=h6})->Fl.Fly B (X.env :: X.outer) a (PX C od) .none s'.heap->th a od D σ H2 ->
 wpAny (model X.prog X.w) X.A (handleBy (.ref a) X.env hs) (SP X pins D) X.xe s'
theorem qme{pins:List (Addr×Obj)}{σ : St}{H2:Hp}{s':Shared}{B:Heap}(inv:∀h6,B.StaysIn h6->s'.heap.UpToSlots h6->Inv X pins σ H2 {s' with heap:=h6})(st:B.StaysIn s'.heap): Inv X pins σ H2 s':=inv s'.heap st (Heap.UpToSlots.refl _)
variable{C C2:Addr}{cx n:Str}{np hpos:Pos}{b₀:Stmt}{suite:List Stmt}{rest:List ExceptHandler}{ts:TS}{th:Addr->Option Addr->TS}{i:Nat}
theorem qlc{B h:Heap}{l:List Env}{a:Addr}{od:Option Addr}{fl:Value}(x:Fl.Fly B l a (PX C od) fl h): XE a C od h:=by
 obtain⟨oe,ws,hoe,hoec,hoed⟩:=x.there;exact⟨oe,ws,hoe,hoec.1,hoec.2,hoed⟩
theorem qgq(c2:ExcC X.K C2)(ht:PySem.W.typeIn X.K (.ref C2)=some (.type "type"))(hs:PySem.W.mroIn X.K C (.ref C2)=some true)(hg:Gl X cx)(hm:X.mg cx=some (.ref C2))(hN:X.N.Nodup)(hi:X.N[i]? = some n)(hx:X.env.scope.names.lookup n=some .local)
  (hb:∀a,PSs (inX X a) (b₀ :: suite) ts) (hdb:(cx==("__debug__" : Str))=false:=by decide) :
  Handles X C (.ExceptHandler (some (.Name cx np)) (some n) (b₀ :: suite) hpos :: rest) (fun a od D σ H2=>ts (qka i D) (σ.set i (some (.ref a))) (upd H2 a (.ext (XE a C od)))):=by
 intro pins σ H H2 s s' B a od D I hna hH2 inv hfl q;have I5:=qme inv hfl.1;refine wpAny_handleBy_cons (codeAny_handlers_test (q1a (qfg (a:=a) I5) hg hm ?_ hdb)) (by intro q;cases q);refine qel I5.kIn (qlc hfl) c2 ht hs ?_;refine codeAny_handlers_suite_as (Fl.off hfl fun h6 fl6 sm6=>?_);have I6:=inv h6 fl6.1 sm6;obtain⟨oe,ws,hoe,hoec,hodd,hoed⟩:=qlc fl6;have I7:Inv X pins σ (upd H2 a (.ext (XE a C od))) {s' with heap:=h6}:=qdg I hna I6 hH2 ⟨⟨oe,ws,hoe,hoec,hodd,hoed⟩,⟨oe,hoe⟩,fun h1 h2 ⟨o,vs,e1,e2,e3⟩ k=>⟨o,vs,k o e1,e2,e3⟩⟩;refine q56 (X:=X) I7 hN hi (Or.inl hx) (v:=.ref a) rfl (fun s8 I8=>?_) (.inr hx);exact mw (hb a pins s8 _ _ (qka i D) (qfg I8) q) (fun f s9 z=>qok I.ok hN hi hx z) fun _ _ z=>z.elim
end
section
variable{X:Cx}
abbrev pnX(X:Cx)(pins:List (Addr×Obj)): Cx:={X with pn:=X.pn++pins}
abbrev XT(X:Cx)(pins:List (Addr×Obj))(σ0:St)(Ex:XK): Cx:=(pnX X pins).wish fun e s1=>∃p H1 s,Inv (pnX X pins) p σ0 H1 s/\CXR X.prog X.w X.stack H1 s Ex e s1
theorem qq9{pins:List (Addr×Obj)}(ok:X.Ok): (pnX X pins).Ok:=
 ⟨ok.mod,ok.kind,ok.glob,ok.blt,ok.above,ok.inj,ok.has,ok.cab,ok.hd,ok.frames,ok.stk,ok.exf,ok.bs,ok.bsz,ok.noex,ok.exfs,ok.funs,ok.frf⟩
theorem qmf{pins:List (Addr×Obj)}(ok:(pnX X pins).Ok): X.Ok:=
 ⟨ok.mod,ok.kind,ok.glob,ok.blt,ok.above,ok.inj,ok.has,ok.cab,ok.hd,ok.frames,ok.stk,ok.exf,ok.bs,ok.bsz,ok.noex,ok.exfs,ok.funs,ok.frf⟩
theorem qon{pins:List (Addr×Obj)}{σ : St}{H:Hp}{s:Shared}(I:Inv X pins σ H s): Inv (pnX X pins) [] σ H s:=
 ⟨qq9 I.ok,I.os,I.bare,I.base,I.loc,I.cell,I.free,I.freeC,fun p hp=>I.pin p (by rw [mn] at hp;exact hp),I.hok,I.len⟩
theorem q3q{pins p:List (Addr×Obj)}{σ : St}{H:Hp}{s:Shared}(I:Inv (pnX X pins) p σ H s): Inv X pins σ H s:=
 ⟨qmf I.ok,I.os,I.bare,I.base,I.loc,I.cell,I.free,I.freeC,fun q hq=>I.pin q (g0r _ hq),I.hok,I.len⟩
theorem qmg{pins p:List (Addr×Obj)}{D:Ends}{f:Flow}{s':Shared}(h:SP (pnX X pins) p D f s'): SP X pins D f s':=by
 cases f with
 | next=>obtain⟨σ',H',I,q⟩:=h;exact⟨σ',H',q3q I,q⟩
 | brk=>obtain⟨σ',H',I,q⟩:=h;exact⟨σ',H',q3q I,q⟩
 | cont=>obtain⟨σ',H',I,q⟩:=h;exact⟨σ',H',q3q I,q⟩
 | ret u=>obtain⟨v, σ',H',I,r,q⟩:=h;exact⟨v, σ',H',q3q I,r,q⟩
def exT(okC:Addr->Prop)(th:Addr->Addr->Option Addr->TS)(D:Ends)(σ : St): XK:=fun c od H2=>∃C,c=.ref C/\okC C/\∀a,H2 a=none->th C a od D σ H2
theorem qmh{body:List Stmt}{h0:ExceptHandler}{hs:List ExceptHandler}{pos:Pos}{tb:St->XK->TS}{okC:Addr->Prop}{th:Addr->Addr->Option Addr->TS}(hst:X.stack=X.env :: X.outer/\X.env.frame=some X.env.locals)
  (hbody:∀(pins:List (Addr×Obj)) (σ0:St) (Ex:XK),PSs (XT X pins σ0 Ex) body (tb σ0 Ex)) (hh:∀C,okC C->Handles X C (h0 :: hs) (th C)):PS X (.Try body (h0 :: hs) [] [] pos) (fun D σ H=>tb σ (exT okC th D σ) D σ H):=by
 intro pins s σ H D I h;refine wpAny_Try_except ?_;refine mw (hbody pins σ (exT okC th D σ) [] s σ H D ((qon I).wish _) h) (fun f s1 q=>?_) fun e s1 q=>?_
 ·have q':SP X pins D f s1:=qmg (SP.unwish q)
  cases f with
  | next=>exact g0s q'
  | brk=>exact q'
  | cont=>exact q'
  | ret u=>exact q'
 ·obtain⟨p,H1,s2,I2,os,bare,B,H2,a,C',od,rfl,hfl,hun,hna,hH2,C,hc,hok,hq⟩:=q
  cases hc;have I3:Inv X pins σ H1 s2:=q3q I2;rw [hst.1] at hfl;have hfr:X.A.frames=some (X.env :: X.outer):=by rw [I.ok.frames,hst.1]
  refine Fl.note PX.st hfr hst.2 hfl fun h4 held4 sm4=>?_;refine Fl.off held4 fun h5 held sm5=>?_;exact hh C' hok pins σ H1 H2 s2 {s1 with heap:=h5} B a od D I3 hna hH2 (fun h6 st u=>I3.call' (s':={s1 with heap:=h6}) (ch:=[]) os (hun h6 st ((sm4.trans sm5).trans u)).1 (hun h6 st ((sm4.trans sm5).trans u)).2 bare fun b z=>absurd z (by simp)) held (hq a hH2)
end
def qoo(K:Frag)(F0 H0 F:Hp)(C:Addr)(p:XV)(σ0:St)(ρ':Rho)(E:XK): Prop:=∀F' H' od,Same F F'->RS K F0 H0 F' H' σ0 ρ'->XF F' od p.2->E (.ref C) od H'
def tXC(K:Frag)(v:FX)(σ0:St)(E:XK): TS:=fun _ σ H=> σ = σ0/\∃F0 H0 F ρ p ρ' C,RS K F0 H0 F H σ ρ /\ v ρ = some (p, ρ')/\PySem.W.nsIn K mainGlobals p.1=some (some (.ref C))/\qoo K F0 H0 F C p σ0 ρ' E
def qkc(K:Frag)(v:FX)(σ0:St)(E:XK): TE:=fun σ H _=> σ = σ0/\∃F0 H0 F ρ p ρ' C,RS K F0 H0 F H σ ρ /\ v ρ = some (p, ρ')/\PySem.W.nsIn K mainGlobals p.1=some (some (.ref C))/\qoo K F0 H0 F C p σ0 ρ' E
section
variable{X:Cx}{K:Frag}{st:Stmt}{v v':FX}{t:FT}{pos:Pos}{σ0:St}{E:XK}{pins:List (Addr×Obj)}
theorem qqa{c:Expr}{a b:List Stmt}(hc:PT X c (tDT K t))(ha:PSs X a (tXC K v σ0 E))(hb:PSs X b (tXC K v' σ0 E)): PS X (.If c a b pos) (tXC K (xIf t v v') σ0 E):=xq (qc4 hc ha hb) fun D σ H ⟨e0,F0,H0,F, ρ,x, ρ',C,r,hv,hn,hE⟩=>by
 obtain⟨d,h1,h2⟩:=g6.mp hv;refine⟨F0,H0,F, ρ,d,r,h1,fun F' H' g=>?_⟩;cases d with
 | true=>exact qjk ⟨e0,F0,H0,F', ρ,x, ρ',C,r.grow g,h2,hn,fun F2 H2 od s2 r2 xf=>hE F2 H2 od (g.ff.trans s2) r2 xf⟩
 | false=>exact qjj ⟨e0,F0,H0,F', ρ,x, ρ',C,r.grow g,h2,hn,fun F2 H2 od s2 r2 xf=>hE F2 H2 od (g.ff.trans s2) r2 xf⟩
theorem qa9{e:Expr}(h:PE X e (qkc K v σ0 E))(hs:swapsWith e none pos.line X.env=pure false:=by rfl): PS X (.Expr e pos) (tXC K v σ0 E):=xq (q75 h hs) fun D σ H q=>q
theorem qmi{k:Nat}{fn:Addr}{fd:FuncData}{ps:List Str}{sp:Sp}{p0:List (Addr×Obj)}{H:Hp}{s:Shared}{Q:VK}{us:List Value}{vs:List V}(G:FnOk X.prog X.w X.K X.mg X.base (CXR X.prog X.w) k fn fd ps sp)(hr:Room k X.A)(hb:Binds X.K fd ps [])
  (I:Inv (XT X pins σ0 E) p0 σ0 H s) (rv:Vals vs us) (q:sp vs H Q E):wpAny (model X.prog X.w) X.A (call (.ref fn) us) (EP (XT X pins σ0 E) p0 σ0 Q) (XT X pins σ0 E).xe s:=by
 have hlu:us.length=ps.length:=by rw [<- rv.length];exact G.len _ _ _ _ q
 have hl':(us++[]).length=ps.length:=by rw [mn];exact hlu
 have hb':=hb s us I.kIn hl';rw [mn] at hb';refine ua (uu (G.run X.A X.stack s H ⟨us,[]⟩ us vs _ _ hr I.env0 hb' rv q) fun rr s' hq=>?_);cases rr with
 | error e1=>exact⟨p0,H,s,I.unwish,hq⟩
 | ok fl=>
  cases fl with
  | ret u=>exact I.after hq
  | next=>exact False.elim hq
  | brk=>exact False.elim hq
  | cont=>exact False.elim hq
theorem qfl{C0:Addr}{c x m:Str}{k k' ar i:Nat}{fn:Addr}{fd:FuncData}{ps fl:List Str}{op:Flds->List D->Option (XV×Flds)}{e:Expr}{es:List Expr}{fa:FA}{px apos:Pos}{pl:Sem Bool}(O:ClsF X.K c C0 fl)(G:FnOk X.prog X.w X.K X.mg X.base (CXR X.prog X.w) k fn fd ps (kb X.K c ar op))(me:Meth X.K C0 m fn)(hb:Binds X.K fd ps [])(hr:Room k' X.A)(hk:k<=k')
  (hv:PE (XT X pins σ0 E) (.Name x px) (wo i)) (ha:PA (XT X pins σ0 E).nox (e :: es) (tDA X.K fa))
  (hst:starEach (e :: es) X.env=(false,eval e X.env) :: starEach es X.env:=by rfl) (hpl:(backTo pos (starEach es X.env)).any (·.1)=false:=by rfl)
  (ht:eval (.Call (.Attribute (.Name x px) m apos) (e :: es) [] pos) X.env=(do
   let ov <- eval (.Name x px) X.env
   standAt apos.atName
   let(fv,first) <- holding [ov] (getMethod ov m pl)
   callWith pos fv first (backTo pos (starEach (e :: es) X.env)) (backToKw pos (keywordEach [] X.env))):=by rfl) :
  PE (XT X pins σ0 E) (.Call (.Attribute (.Name x px) m apos) (e :: es) [] pos) (qkc X.K (q1n c m i ar op fa) σ0 E):=by
 intro q0 s σ H Q I ⟨e0,F0,H0,F, ρ,y, ρ',C,r,hv',hn,hE⟩;subst e0;have tm:q8y C0 m (kb X.K c ar op) [] E (wo i) (tDA X.K fa) σ H Q:=by
  obtain⟨ob,h1,hv'⟩:=g6.mp hv';obtain⟨ds,h2,h3⟩:=g6.mp hv'
  split at h3
  ·rename_i hc
   obtain⟨⟨p',fs'⟩,h4,h5⟩:=gi.mp h3;cases h5;obtain⟨x,fs⟩:=ob;obtain⟨rfl,hl,hnn⟩:=hc;obtain⟨a,bs,e1,t,_⟩:=r.od i _ (v5 h1);obtain rfl:=t.nb;obtain⟨C',dx,vs,e2,e3,e4⟩:=t.ex;have hC:C'=C0:=by
    have:=e3.symm.trans O.ns;cases this;rfl
   subst hC;refine⟨.ref a,e1,a,dx,vs,rfl,e2,e4.miss (g07.mp hnn),F0,H0,F, ρ,ds,r,h2,fun ws F1 H1 g1 r1=>?_⟩;have r':=r.grow g1;have t':=t.grow g1;exact⟨F1,a,fs,fs',ds,_,C,ws,by rw [mn],r.sameT g1,r1,hl,t'.ob.at yo,h4,hn,fun F2 H2 od g2 o2 xf=>hE F2 H2 od (g1.ff.trans g2.ff) (r'.callOB (v5 h1) e1 t' g2 o2) xf⟩
  ·cases h3
 refine uv (pl:=pl) (thn (hv q0 s σ H _ I tm) fun u s1 ⟨x',H1,I1,rx,a,dx,fs,ex,ea,l,q⟩=>?_) ht;subst ex;obtain rfl:u=Value.ref a:=rx;refine q58 I1 ea O.cls me l ?_;refine t5 (first:=[.ref a]) (h₀:=X.base) I.ok.mod.kin me.kp (mw (ha pos q0 s1 σ H1 _ (I1.wish _) q) (fun us s2 ⟨vs,H2,I2,rv,q2⟩=>⟨I2.kIn,?_⟩) fun _ _ z=>False.elim z) hst hpl;dsimp only at q2;rw [mn] at q2;exact qmi (us:=.ref a :: us) (vs:=.ref a :: vs) G (hr.mono hk) hb (I2.unwish) (.cons rfl rv) q2
end
def sAs(i:Nat)(x:Str)(us:FS)(f:Option (Str×Int)): FS:=fun ρ =>(us (ρ.set i (some (.fz (.exc x f))))).map fun r=>(r.1,r.2.set i none)
def q1o(ub:FS)(vb:FX)(xs:List Str)(hd:Str->Option (Str×Int)->FS): FS:=fun ρ =>match vb ρ with
 | some (p, ρ')=>if p.1∈xs then hd p.1 p.2 ρ' else none
 | none=>ub ρ
def qkd(K:Frag)(hd:Option (Str×Int)->FS)(od:Option Addr): TS:=fun D σ H=>∃F0 H0 F ρ f fl ρ',RS K F0 H0 F H σ ρ /\ XF F od f/\hd f ρ = some (fl, ρ')/\qc8 K F0 H0 F D fl ρ'
section
variable{X:Cx}
theorem Handles.imp{C:Addr}{hs:List ExceptHandler}{th th':Addr->Option Addr->TS}(k:Handles X C hs th)(i:∀a od D σ H,H a=none->th' a od D σ H->th a od D σ H): Handles X C hs th':=
 fun pins σ H H2 s s' B a od D I hna hH2 inv hfl q=>k pins σ H H2 s s' B a od D I hna hH2 inv hfl (i a od D σ H2 hH2 q)
variable{C C2:Addr}{cx n x:Str}{np hpos:Pos}{b₀:Stmt}{suite:List Stmt}{rest:List ExceptHandler}{us:FS}{i:Nat}
theorem qcd(c2:ExcC X.K C2)(ht:PySem.W.typeIn X.K (.ref C2)=some (.type "type"))(hs:PySem.W.mroIn X.K C (.ref C2)=some true)(hns:PySem.W.nsIn X.K mainGlobals x=some (some (.ref C)))(hcx:v7 X.K C)(hg:Gl X cx)(hm:X.mg cx=some (.ref C2))(hN:X.N.Nodup)(hi:X.N[i]? = some n)(hx:X.env.scope.names.lookup n=some .local)
  (hb:∀a,PSs (inX X a) (b₀ :: suite) (tDS X.K us)) (hdb:(cx==("__debug__" : Str))=false:=by decide) :
  Handles X C (.ExceptHandler (some (.Name cx np)) (some n) (b₀ :: suite) hpos :: rest) (fun _ od=>qkd X.K (sAs i x us) od):=
 (qgq c2 ht hs hg hm hN hi hx hb hdb).imp fun a od D σ H hna ⟨F0,H0,F, ρ,f,fl, ρ',r,xf,hf,q⟩=>by
  obtain⟨⟨fl1, ρ1⟩,h5,h6⟩:=gi.mp hf;cases h6;have g3:Grow F H (upd F a (.ext (XE a C od))) (upd H a (.ext (XE a C od))):=Grow.new r.fh hna;have r4:=(r.grow g3).set i (rep_exc.mpr ⟨a,C,rfl,⟨od,qy,xf.mono g3.ff⟩,hns,hcx⟩:Rep X.K (upd F a (.ext (XE a C od))) (.exc x f) (.ref a));refine⟨F0,H0,_,_,_, ρ1,r4,h5,?_⟩;cases fl1 with
  | nx=>exact fun σ' F' H' s' r'=>q _ F' H' (g3.ff.trans s') (r'.unset i)
  | bk=>exact fun σ' F' H' s' r'=>q _ F' H' (g3.ff.trans s') (r'.unset i)
  | ct=>exact fun σ' F' H' s' r'=>q _ F' H' (g3.ff.trans s') (r'.unset i)
  | rt d=>exact fun v σ' F' H' r' rv=>q v _ F' H' (r'.unset i) rv
theorem qfm{body:List Stmt}{h0:ExceptHandler}{hs:List ExceptHandler}{pos:Pos}{ub:FS}{vb:FX}{xs:List Str}{hd:Str->Option (Str×Int)->FS}(hst:X.stack=X.env :: X.outer/\X.env.frame=some X.env.locals)
  (hb:∀(pins:List (Addr×Obj)) (σ0:St) (Ex:XK),PSs (XT X pins σ0 Ex) body (tDS X.K ub)) (hx:∀(pins:List (Addr×Obj)) (σ0:St) (Ex:XK),PSs (XT X pins σ0 Ex) body (tXC X.K vb σ0 Ex))
  (hh:∀x C,x∈xs->PySem.W.nsIn X.K mainGlobals x=some (some (.ref C))->Handles X C (h0 :: hs) (fun _ od=>qkd X.K (hd x) od)) (hn:∀x,x∈xs->∃C,PySem.W.nsIn X.K mainGlobals x=some (some (.ref C))) :
  PS X (.Try body (h0 :: hs) [] [] pos) (tDS X.K (q1o ub vb xs hd)):=by
 refine xq (qmh (tb:=fun σ0 Ex D σ H=>tXC X.K vb σ0 Ex D σ H\/tDS X.K ub D σ H) (okC:=fun C=>∃x,x∈xs/\PySem.W.nsIn X.K mainGlobals x=some (some (.ref C)))
  (th:=fun C _ od D σ H=>∃x,x∈xs/\PySem.W.nsIn X.K mainGlobals x=some (some (.ref C))/\qkd X.K (hd x) od D σ H) hst (fun pins σ0 Ex p s σ H D I h=>h.elim (hx pins σ0 Ex p s σ H D I) (hb pins σ0 Ex p s σ H D I))
  fun C _ pins σ H H2 s s' B a od D I hna hH2 inv hfl ⟨x,h1,h2,q⟩=>hh x C h1 h2 pins σ H H2 s s' B a od D I hna hH2 inv hfl q) fun D σ H ⟨F0,H0,F, ρ,fl, ρ',r,hf,q⟩=>?_
 unfold q1o at hf
 split at hf
 ·rename_i p ρ1 hv
  split at hf
  ·rename_i hxs
   obtain⟨C,hC⟩:=hn p.1 hxs;refine .inl ⟨rfl,F0,H0,F, ρ,p, ρ1,C,r,hv,hC,fun F' H' od s' r' xf=>⟨C,rfl,⟨p.1,hxs,hC⟩,fun a _=>⟨p.1,hxs,hC,F0,H0,F', ρ1,p.2,fl, ρ',r',xf,hf,q0z s' q⟩⟩⟩
  ·cases hf
 ·exact .inr ⟨F0,H0,F, ρ,fl, ρ',r,hf,q⟩
end
theorem q5k{X:Cx}{K:Frag}{st:Stmt}{rest:List Stmt}{v:FX}{σ0:St}{E:XK}(h:PS X st (tXC K v σ0 E)): PSs X (st :: rest) (tXC K v σ0 E):=by
 intro pins s σ H D I q;refine uz (thn (h pins s σ H {nx:=fun _ _=>False,rt:=fun _ _=>False} I q) fun fl s1 q=>?_);cases fl with
 | next=>obtain⟨_,_,_,q⟩:=q;exact q.elim
 | brk=>obtain⟨_,_,_,q⟩:=q;exact q.elim
 | cont=>obtain⟨_,_,_,q⟩:=q;exact q.elim
 | ret z=>obtain⟨_,_,_,_,_,q⟩:=q;exact q.elim
def qke(l:List (Str×(Option (Str×Int)->FS)))(x:Str): Option (Str×Int)->FS:=(l.lookup x).getD fun _=>q05
end DL
namespace DL
open PySem PySem.Spec PyProof.Rows L2
section
variable{prog:Program}{w:World}{A:Around}{E:Value->Shared->Prop}{h:Heap}{g:Array GenState}{d:Drawn}{t:Nat}{os:OsState}
variable{nm q:Str}{C N:Addr}{bs bm:List Value}{hdct:Bool}{sn:List Str}{sub:List Value}{ab:Bool}{col:Option Bool}{dd:Option Addr}{k0 k1 k2 k3 k5:Option Value}
theorem qia{mN:Str->Option Value}{rest:List Value}{fI:Addr}{oI:Obj}{Q:Fin->Shared->Prop}(T:OwnTail h vB bm)(hC:h.get? C=some (excClassObj nm q C N bs bm hdct sn sub ab col dd k0 k1 k2 k3 k5 "ValueError.__new__"))(hn:h.Ns N mN)(hi:mN "__init__" = some (.ref fI))
  (hfI:h.get? fI=some oI) (hfc:oI.cls=.type "function") (hrest:rest.length<=sizeLine)
  (hq:∀h' e,Heap.MadeExcOf h h' e (.ref C) rest->wpAny (model prog w) A (call (.ref fI) (.ref e :: rest)) (fun r s'=>r=.none/\Q (.done (.ret (.ref e))) s') E ⟨h',g,d,t,os⟩) :
  wpAny (model prog w) A (Builtin.«type.__call__» ⟨.ref C :: rest,[]⟩) Q E ⟨h,g,d,t,os⟩:=by
 have F:=tw
 repeat (first|with_reducible refine uq hC ?_|with_reducible refine wpAny_madeBy_exc hC ?_|wp_step)
 refine codeAny_call_builtin_code (g1g _ F.quiet) (wpAny_check_new_subT F T hC (codeAny_exc_new_subT F T hC ?_ hrest));show wpAny _ _ _ _ _ _;obtain⟨h2,eh⟩:∃h2,h2=(h.push {cls:=.type "tuple",data:=.seq rest.toArray}).push {cls:=.ref C,data:=.fields #[.ref h.objs.size,.none,.none,.none,.bool false,.none]}:=⟨_,rfl⟩
 have keep:∀b o,h.get? b=some o->h2.get? b=some o:=fun b o e=>by rw [eh];exact gc _ (gc _ e)
 have hget:h2.get? (h.objs.size+1)=some {cls:=.ref C,data:=.fields #[.ref h.objs.size,.none,.none,.none,.bool false,.none]}:=by rw [eh];heap_get
 have hm:Heap.MadeExcOf h h2 (h.objs.size+1) (.ref C) rest:=⟨keep,u9 (g23 _),h.objs.size,hget,u9 (gv _),by rw [eh];exact gc _ (Heap.get?_push_at rfl rfl)⟩
 rw [<- eh];have hcC:(Value.ref C :: bm).contains (.ref C)=true:=by simp
 unfold isInstance
 repeat (first|with_reducible refine uq hget ?_|(with_reducible refine wpAny_isSubtype_exc (keep _ _ hC) ?_;rw [hcC])|wp_step)
 show wpAny _ _ (typeLookup (.ref C) _) _ _ _;refine wpAny_typeLookup_tail (keep _ _ hC) (hn.keeps keep) (T.keeps keep) F.mroIs F.init.lookup ?_;rw [hi];refine tj (g9 ?_);unfold bindSpecial;refine g9 (g0v (T:="function") ⟨_,keep _ _ hfI,hfc⟩ ?_);rw [gr (by decide)];refine gh (g9 (mw (hq h2 _ hm) (fun r s' hr=>?_) fun _ _ x=>x));obtain⟨rfl,hQ⟩:=hr
 wp_walk
 exact hQ
theorem qib{mN:Str->Option Value}{rest:List Value}{fI:Addr}{oI:Obj}{Q:Value->Shared->Prop}(T:OwnTail h vB bm)(hC:h.get? C=some (excClassObj nm q C N bs bm hdct sn sub ab col dd k0 k1 k2 k3 k5 "ValueError.__new__"))(hn:h.Ns N mN)(hi:mN "__init__" = some (.ref fI))
  (hfI:h.get? fI=some oI) (hfc:oI.cls=.type "function") (hrest:rest.length<=sizeLine)
  (hq:∀h' e,Heap.MadeExcOf h h' e (.ref C) rest->wpAny (model prog w) (A.under (.builtin "type.__call__" ⟨.ref C :: rest,[]⟩)) (call (.ref fI) (.ref e :: rest)) (fun r s'=>r=.none/\Q (.ref e) s') E ⟨h',g,d,t,os⟩) :
  wpAny (model prog w) A (call (.ref C) rest) Q E ⟨h,g,d,t,os⟩:=by
 have f1:=tc_lookup;have f2:=tc_bind (.ref C);have hT:(⟨h,g,d,t,os⟩:Shared).TypeIs (.ref C) "type" :=⟨_,hC,rfl⟩
 refine ua (codeAny_of_tree ?_);show wpAny _ _ (callAny (.ref C) _) _ _ _
 repeat (any_goals (first|assumption|with_reducible refine uq hC ?_|wp_step))
 exact⟨rfl,codeAny_call_builtin_at (g1g _ (by decide +kernel)) entry_typeCall (wpAny_check_type_call_sub hC (qia T hC hn hi hfI hfc hrest fun h' e hm=>hq h' e hm))⟩
theorem qic{e:Addr}{oe:Obj}{vs:Array Value}{x:Value}{Q:Value->Shared->Prop}(T:OwnTail h vB bm)(hC:h.get? C=some (excClassObj nm q C N bs bm hdct sn sub ab col dd k0 k1 k2 k3 k5 "ValueError.__new__"))(he:h.get? e=some oe)(hcls:oe.cls=.ref C)(hd:oe.data=.fields vs){t1:Addr}(h0:vs[0]? = some (.ref t1))
  (hq:∀h' t0,(∀b o,b≠e->h.get? b=some o->h'.get? b=some o)->h.get? t0=none->t0≠e->h'.get? t0=some {cls:=.type "tuple",data:=.seq #[x]}->h'.get? e=some {oe with data:=.fields (vs.setIfInBounds 0 (.ref t0))}->Q .none ⟨h',g,d,t,os⟩) :
  wpAny (model prog w) A (call (.builtin "ValueError.__init__") [.ref e,x]) Q E ⟨h,g,d,t,os⟩:=by
 have F:=tw;refine ua (uc F.init.plain F.initEntry (wpAny_check_init_subT F T hC he hcls ?_))
 wp_walk
 rw [hd];refine gh ?_;rw [h0];refine gh ?_;have he2:=gc (h:=h) {cls:=.type "tuple",data:=.seq #[x]} he;have hsz:0<vs.size:=(nu.mp h0).1;refine g9 (ux he2 hd hsz ?_);have ne:h.objs.size≠e:=ur (gq he);have hd3:=t7 hd (·.setIfInBounds 0 (Value.ref h.objs.size));have fin:=hq ((h.push {cls:=.type "tuple",data:=.seq #[x]}).update e (Obj.mapFields (·.setIfInBounds 0 (Value.ref h.objs.size)))) h.objs.size (fun b o hb e1=>by rw [mr _ _ (gu hb)];exact gc _ e1) (u9 (gv _)) ne
  (by rw [mr _ _ (gu ne)];exact m4 _ rfl)
  (by
   rw [td _ he2 (uy hd3)];obtain⟨oc,od,dt,sl⟩:=oe;cases hd
   rfl)
 wp_walk
 exact fin
end
abbrev vBx:List Value:=[.type "ValueError",.type "Exception",.type "BaseException",.type "object"]
theorem qop(self:Value): refuseLoop self "__setattr__" vBx=pure ():=by kernel_rfl
def qgr:List Value->Bool
 | .ref _ :: r=>qgr r
 | r=>r==vBx
theorem qb6(self:Value): ∀l:List Value,qgr l=true->refuseLoop self "__setattr__" l=pure ()
 | [],e=>by cases e
 | c :: r,e=>by
  cases c with
  | ref a=>rw [refuseLoop_ref];exact qb6 self r e
  | type n=>
   have:(Value.type n :: r)=vBx:=nk.mp e;rw [this];exact qop self
  | _=>exact absurd (nk.mp e) (by intro z;cases z)
theorem qdl:∀l:List Value,qgr l=true->l.contains (.type "object")=true
 | [],e=>by cases e
 | c :: r,e=>by
  cases c with
  | ref a=>rw [List.contains_cons,qdl r e,g2h]
  | type n=>
   have:(Value.type n :: r)=vBx:=nk.mp e;rw [this];decide
  | _=>exact absurd (nk.mp e) (by intro z;cases z)
def qce(K:PySem.W.Frag)(C:Addr): Bool:=(PySem.W.clsIn K C).any fun cd=>qgr cd.mro
section
variable{prog:Program}{w:World}{A:Around}{E:Value->Shared->Prop}{K:PySem.W.Frag}{s:Shared}{x D:Addr}{ox:Obj}{name:Str}{v:Value}
open PySem.W Builtin Builtin.ObjectAttr
theorem qkf{od:Obj}{ws:Array Value}{expr:Bool}{Q:Value->Shared->Prop}(c:ExcC K D)(X:K.In s.heap)(J:PySem.W.InstAt s.heap x ox D (some od))(hd:ox.data=.fields ws)
  (hf:findObj K D (some od) name=some (.value v)) (hh:handedIn v=true) (h:Q v {s with toks:=s.toks+1}):wpAny (model prog w) A (getAttr (.ref x) name expr) Q E s:=by
 have I:XE x D ox.dict s.heap:=⟨ox,ws,J.at_,J.cls,rfl,hd⟩
 obtain⟨hp,g,dr,t,os⟩:=s;have L0:=J.type (M:=model prog w);have L1:=looks_findIn (M:=model prog w) X c.ga;have L2:=looks_findIn (M:=model prog w) X c.gk;have L3:=looks_find (M:=model prog w) X J hf;have f3:=t6.ga.bind (.ref x);unfold getAttr getAttrBy;refine g9 (wpAny_mkText (tj (g9 (L0.at (g9 (L1.at ?_))))));show wpAny _ _ (getAttrByItsOwn _ _ _ _ _ _) _ _ _;unfold getAttrByItsOwn hookBefore;rw [gr (show onTheHeap (Value.ref D)=true from rfl)];refine g9 (L2.at ?_);refine g9 (g0m (tj ?_));unfold callGetattribute boundAndCalled;rw [gy (by cases expr <;> decide)];rw [f3];refine g9 (gh ?_);refine ua (uc t6.ga.plain F.entry_bexc_ga (qco c X I ?_));unfold Builtin.«object.__getattribute__»;refine g9 (gh (g9 (gh (g9 (L0.at (g9 (L3.at ?_)))))));refine gh ?_;dsimp only;exact handed_on hh h
theorem qkg{ws:Array Value}{Q:Unit->Shared->Prop}(X:K.In s.heap)(hx:s.heap.get? x=some ox)(hcls:ox.cls=.ref D)(hdn:ox.dict=none)(hd:ox.data=.fields ws)
  (hs:findIn K (.ref D) "__setattr__" = some (some (.builtin "object.__setattr__"))) (ho:qce K D=true) (ha:findIn K (.ref D) name=some none) (hh:hasDictIn K D=true)
  (h:∀h' dx,(∀b o,b≠x->s.heap.get? b=some o->h'.get? b=some o)->s.heap.get? dx=none->h'.get? x=some {ox with dict:=some dx}->h'.Ns1 dx (fun y=>if y=name then some v else none)->Q () {s with heap:=h',toks:=s.toks+2}) :
  wpAny (model prog w) A (setAttr (.ref x) name v) Q E s:=by
 obtain⟨oc,odd,odt,osl⟩:=ox;dsimp only at hcls hdn hd;subst hcls hdn hd;have J:PySem.W.InstAt s.heap x ⟨.ref D,none,.fields ws,osl⟩ D none:=⟨hx,rfl,rfl,trivial⟩
 have SF:=PySem.F.store_object;obtain⟨cd,hc,hom⟩:=any_some ho;have ne:cd.mro.isEmpty=false:=by cases q:cd.mro with|nil=>rw [q] at hom;cases hom|cons _ _=>rfl
 have sub:Looks (model prog w) s.heap (isInstance (.ref x) (.type "object")) true:=J.type.andThen (looks_mroIn X (by unfold mroIn;rw [hc,gb,gy (by rw [ne];decide),qdl _ hom]));refine set_plain X J hs ?_;refine uc SF.slot.plain SF.entry (@check_slot (model prog w) _ _ {s with toks:=s.toks+1} "object.__setattr__" "object" "__setattr__" (.ref x) [.str name s.toks,v] [] _ SF.kind SF.split sub (SF.args (.ref x) (.str name s.toks) v) ?_);have hm:Looks (model prog w) s.heap (mroOf (.ref D)) cd.mro:=(looks_clsIn X hc).andThen .now;rw [osa_eq,refuse_eq];refine g9 (g9 (pz (s:={s with toks:=s.toks+1}) J.type (g9 (pz (s:={s with toks:=s.toks+1}) hm ?_))));rw [qb6 _ _ hom];refine gh (g9 (pz (s:={s with toks:=s.toks+1}) J.type (g9 (pz (s:={s with toks:=s.toks+1}) (looks_findIn X ha) (g9 (gh ?_))))));dsimp only;obtain⟨cd',hc',hd'⟩:=any_some hh;unfold storeInOwnDict;refine g9 (gh ?_);show wpAny _ _ (ownDictForStores (.ref x) >>= _) _ _ _;unfold ownDictForStores instanceDict;refine g9 (g9 (g19 hx (g9 (pz (s:={s with toks:=s.toks+1}) (PySem.W.looks_clsIn X hc') ?_))));rw [hd'];have hdx:s.heap.get? s.heap.objs.size=none:=u9 (gv _);have hxd:x≠s.heap.objs.size:=ma (gq hx);show wpAny _ _ (alloc {cls:=Value.type "dict",data:=Data.dict #[]} >>= fun d=>update x (fun o=>{o with dict:=some d}) >>= fun _=>dictMade (.ref D) x d) _ _ _;refine g9 (wpAny_alloc (g9 (wpAny_update (gc _ hx) ?_)));obtain⟨h2,eh⟩:∃h2,h2=(s.heap.push {cls:=Value.type "dict",data:=Data.dict #[]}).update x (fun o=>{o with dict:=some s.heap.objs.size}):=⟨_,rfl⟩
 have ex:h2.get? x=some ⟨.ref D,some s.heap.objs.size,.fields ws,osl⟩:=by
  rw [eh];exact td (fun o=>{o with dict:=some s.heap.objs.size}) (gc _ hx) rfl
 have ed:h2.get? s.heap.objs.size=some {cls:=Value.type "dict",data:=Data.dict #[]}:=by
  rw [eh,mr _ _ hxd];exact m4 _ rfl
 have kp:∀b o,b≠x->s.heap.get? b=some o->h2.get? b=some o:=fun b o ne e=>by
  rw [eh,mr _ _ (gu ne)];exact gc _ e
 dsimp only;rw [<- eh];have n0:h2.Ns s.heap.objs.size (fun _=>none):=⟨_, #[],_,ed,rfl,(fun e he=>absurd he (by simp)),fun _=>rfl⟩
 refine gh (a:=some s.heap.objs.size) ?_;show wpAny _ _ (storeInDict s.heap.objs.size (.str name s.toks) name v) _ _ _;unfold storeInDict;refine g9 (gh (g9 ?_));refine wpAny_nsSet1 (s:={s with heap:=h2,toks:=s.toks+1}) (Heap.Ns1.of_empty n0) fun h' hn2 hs2=>?_;obtain⟨oD,esD,epD,hoD,hdD,hcD⟩:=hn2.count (PySem.Within.cons name v (ns:=[]) (fun y hy=>absurd rfl hy));refine g9 (wpAny_lookBehind hoD (by rw [hdD];exact pastItsLine_dict (mj hcD (by rw [m3];decide))) ?_);exact gh (h h' s.heap.objs.size (fun b o ne e=>by
  have nb:b≠s.heap.objs.size:=fun z=>by rw [z,hdx] at e;cases e
  exact(hs2.2 b nb).trans (kp b o ne e)) hdx ((hs2.2 x hxd).trans ex) hn2)
end
def XG(e C:Addr)(h:Heap): Prop:=∃o ws t,h.get? e=some o/\o.cls=.ref C/\o.dict=none/\o.data=.fields ws/\ws[0]? = some (.ref t)/\ws[1]? = some .none
def XH(e C dx:Addr)(h:Heap): Prop:=∃o ws,h.get? e=some o/\o.cls=.ref C/\o.dict=some dx/\o.data=.fields ws/\ws[1]? = some .none
section
variable{X:Cx}{e:Expr}{pos jp p1 p2 fp:Pos}{j1 j2:Nat}
theorem qmj{s1 s2:Str}{te:TE}(he:PE X e te)(h1:s1.length<=1000)(h2:s2.length<=1000): PE X (.JoinedStr [.Constant (.str s1) j1 p1,.FormattedValue e (-1) none fp,.Constant (.str s2) j2 p2] jp)
  (fun σ H Q=>te σ H fun x H1=>∃i,x=.int i/\i.natAbs.log2<1920/\∀y,Q (.str y) H1):=by
 intro pins s σ H Q I h;have l0:(Str.empty++s1).length=s1.length:=by rw [strLen_append];show 0+_=_;omega
 refine JoinedStr_many (joinParts_cons (g09 ⟨by rw [l0,p9];omega,joinParts_cons (FormattedValue_plain (thn (he pins _ σ H _ (I.tok _) h) fun u s2 ⟨x,H1,I1,rx,i,ex,hd,q⟩=>?_))⟩));subst ex;obtain⟨t,rfl⟩:=(show ∃t,u=Value.int i t from rx)
 have li:=int_text_length_le (k:=1920) (by decide) hd;have l3:(Str.empty++s1++Str.ofString (toString i)).length<=1000+1922:=by rw [strLen_append,l0,PySem.ofString_length];omega
 refine formatField_int_small hd ⟨by rw [p9];omega,joinParts_cons (g09 ⟨?_,joinParts_nil ⟨.str _,H1,I1.tok _,⟨_,rfl⟩,q _⟩ ?_⟩)⟩ <;> (rw [strLen_append,p9];omega)
def y6(K:Frag)(C f:Addr): Bool:=match K.lookup C with
 | some ⟨.type "type",_,.cls cd,sl⟩=>(match cd.mro,sl.toList with
  | .ref C' :: bm,[_,_,_,_,some (.builtin n),_]=>C'==C&&n=="ValueError.__new__" && !cd.hasDel&&PySem.W.tailIn K vB bm&&PySem.W.nsOkIn K cd.ns&&PySem.W.nsIn K cd.ns "__init__" == some (some (.ref f))
  | _,_=>false)
 | _=>false
open PySem.W in
theorem qqb{K:Frag}{h:Heap}{N:Addr}{mN:Str->Option Value}{y:Str}{v:Value}(X:K.In h)(G:h.Ns N mN)(hy:nsIn K N y=some (some v)): mN y=some v:=by
 obtain⟨ob,es,ep,g1,g2,_,g3⟩:=G;unfold nsIn at hy
 split at hy
 ·rename_i q
  cases g1.symm.trans (X _ _ q);cases g2
  split at hy
  ·rename_i he
   cases hy;refine(g3 y).symm.trans ?_;unfold nsFind findBy;rw [<- Array.find?_toList,he]
   rfl
  ·split at hy <;> cases hy
 ·cases hy
theorem q8i{K:Frag}{h:Heap}{C f:Addr}(X:K.In h)(q:y6 K C f=true): ∃bm N nm q bs hdct sn sub ab col dd k0 k1 k2 k3 k5 mN,h.get? C=some (excClassObj nm q C N bs bm hdct sn sub ab col dd k0 k1 k2 k3 k5 "ValueError.__new__")/\h.Ns N mN/\mN "__init__" = some (.ref f)/\OwnTail h vB bm:=by
 unfold y6 at q
 split at q
 ·rename_i dd cd sl ho
  split at q
  ·rename_i C' bm k0 k1 k2 k3 n k5 hm hs
   simp only [mh,nk,Bool.not_eq_true'] at q;obtain⟨⟨⟨⟨⟨rfl,rfl⟩,hdel⟩,ht⟩,hok⟩,hni⟩:=q;obtain⟨nm,bs,mro,ns,qn,hd,sn,sub,ab,col,del⟩:=cd;dsimp only at hm hdel hok hni;subst hm hdel;have hsl:sl = #[k0,k1,k2,k3,some (.builtin "ValueError.__new__"),k5]:=by
    obtain⟨l⟩:=sl;simp only at hs;rw [hs]
   subst hsl;have hN:=Heap.Ns.of_isNs (PySem.W.isNs_of_in X hok);exact⟨bm,ns,nm,qn,bs,hd,sn,sub,ab,col,dd,k0,k1,k2,k3,k5,_,X _ _ ho,hN,qqb X hN hni,PySem.W.tail_of_in X ht⟩
  ·cases q
 ·cases q
variable{pins:List (Addr×Obj)}{σ : St}{H:Hp}{s:Shared}
theorem qoq{H:Hp}{a:Addr}{o:HO}(h:H a=some o): upd H a o=H:=by
 funext b
 by_cases z:b=a
 ·subst z;rw [qy,h]
 ·rw [qo z]
theorem qfn{B0 C f:Addr}{b slf m s1 s2:Str}{bp apos sp mp cpos epos:Pos}{pl:Sem Bool}(hg:Gl X b)(hm:X.mg b=some (.ref B0))(hsp:PySem.W.specialIn X.K (.ref B0) "__getattribute__" = some (some (.builtin "type.__getattribute__")))(hr:PySem.W.readsIn X.K B0 (.type "type")=true)
  (hf:PySem.W.findCls X.K (.ref B0) (.type "type") "__init__" = some (.val (.builtin "ValueError.__init__"))) (hC:y6 X.K C f=true) (hv0:PE X (.Name slf sp) (wo 0)) (hv1:PE X (.Name m mp) (wo 1)) (h1:s1.length<=1000) (h2:s2.length<=1000)
  (hdb:(b==("__debug__" : Str))=false:=by decide) (hst:starEach [.Name slf sp,.JoinedStr [.Constant (.str s1) j1 p1,.FormattedValue (.Name m mp) (-1) none fp,.Constant (.str s2) j2 p2] jp] X.env=(false,eval (.Name slf sp) X.env) :: starEach [.JoinedStr [.Constant (.str s1) j1 p1,.FormattedValue (.Name m mp) (-1) none fp,.Constant (.str s2) j2 p2] jp] X.env:=by rfl)
  (hpl:(backTo cpos (starEach [.JoinedStr [.Constant (.str s1) j1 p1,.FormattedValue (.Name m mp) (-1) none fp,.Constant (.str s2) j2 p2] jp] X.env)).any (·.1)=false:=by rfl)
  (hsw:swapsWith (.Call (.Attribute (.Name b bp) "__init__" apos) [.Name slf sp,.JoinedStr [.Constant (.str s1) j1 p1,.FormattedValue (.Name m mp) (-1) none fp,.Constant (.str s2) j2 p2] jp] [] cpos) none epos.line X.env=pure false:=by rfl)
  (ht:eval (.Call (.Attribute (.Name b bp) "__init__" apos) [.Name slf sp,.JoinedStr [.Constant (.str s1) j1 p1,.FormattedValue (.Name m mp) (-1) none fp,.Constant (.str s2) j2 p2] jp] [] cpos) X.env=(do
   let ov <- eval (.Name b bp) X.env
   standAt apos.atName
   let(fv,first) <- holding [ov] (getMethod ov "__init__" pl)
   callWith cpos fv first (backTo cpos (starEach [.Name slf sp,.JoinedStr [.Constant (.str s1) j1 p1,.FormattedValue (.Name m mp) (-1) none fp,.Constant (.str s2) j2 p2] jp] X.env)) (backToKw cpos (keywordEach [] X.env))):=by rfl) :
  PS X (.Expr (.Call (.Attribute (.Name b bp) "__init__" apos) [.Name slf sp,.JoinedStr [.Constant (.str s1) j1 p1,.FormattedValue (.Name m mp) (-1) none fp,.Constant (.str s2) j2 p2] jp] [] cpos) epos)
   (fun D σ H=>∃e i, σ[0]? = some (some (.ref e)) /\ σ[1]? = some (some (.int i))/\H e=some (.ext (XG e C))/\i.natAbs.log2<1920/\D.nx σ H):=by
 intro pins s σ H D I ⟨e,i,g1,g2,g3,hd,q⟩;refine wpAny_Expr_any ?_ I.quiet hsw;refine uv (pl:=pl) (q1a I hg hm ?_ hdb) ht;refine PySem.W.method_cls I.kIn hsp (PySem.W.cls_value I.kIn hr hf rfl ?_);refine g0u (thn ((zm hv0 (zm (qmj hv1 h1 h2) w8) hst) cpos pins _ σ H (fun vs H1=>∃y,vs=[.ref e,.str y]/\H1=H) (I.tok _) ⟨.ref e,g1,.int i,g2,i,rfl,hd,fun y=>⟨y,rfl,rfl⟩⟩) fun us s1 ⟨vs,H1,I1,rv,y,ev,eH⟩=>?_) hst hpl;subst ev eH;obtain⟨u1,u2,rfl,r1,r2⟩:=rv.two;obtain rfl:u1=Value.ref e:=r1;obtain⟨tl,N,nm,qn,bs,hdct,sn,sub,ab,col,dd,k0,k1,k2,k3,k5,mN,hCo,hNs,hni,T⟩:=q8i I1.kIn hC;obtain⟨⟨o,ws,t1,e1,e2,e3,e4,e5,e6⟩,_,_⟩:=(show ObjOk X.prog X.w H1 s1.heap e _ from I1.hok e _ g3)
 obtain⟨hp,gg,dr,tk,os⟩:=s1;refine qic T hCo e1 e2 e4 e5 fun h' t0 k1' n1 n2 x1 x2=>?_;have hz:0<ws.size:=(nu.mp e5).1;refine⟨σ,H1,?_,q⟩;have I2:=I1.write (x:=e) (e:=e) (o:=.ext (XG e C)) (h':=h') (t':=tk) (by rw [g3];exact True.intro) (.inl rfl) k1' ⟨_,x2⟩ ⟨⟨_,_,t0,x2,e2,e3,rfl,by simp [hz],by rw [Array.getElem?_setIfInBounds_ne (by decide)];exact e6⟩,⟨_,x2⟩,fun ha hb ⟨o',ws',t',f1,fr⟩ kk=>⟨o',ws',t',kk o' f1,fr⟩⟩;rw [qoq g3] at I2;exact I2
structure ClsI(K:Frag)(C:Addr)(nm:Str): Prop where
 sa:PySem.W.findIn K (.ref C) "__setattr__" = some (some (.builtin "object.__setattr__"))
 ov:qce K C=true
 na:PySem.W.findIn K (.ref C) nm=some none
 hd:PySem.W.hasDictIn K C=true
theorem qfo{C:Addr}{slf m nm:Str}{sp mp apos:Pos}(c:ClsI X.K C nm)(hv0:PE X (.Name slf sp) (wo 0))(hv1:PE X (.Name m mp) (wo 1))(hs:swapsWith (.Name m mp) (some (.Attribute (.Name slf sp) nm apos)) pos.line X.env=pure false:=by rfl):
  PS X (.Assign [.Attribute (.Name slf sp) nm apos] (.Name m mp) pos) (fun D σ H=>∃e i, σ[0]? = some (some (.ref e)) /\ σ[1]? = some (some (.int i))/\H e=some (.ext (XG e C))/\∀dx,H dx=none->dx≠e->D.nx σ (upd (upd H e (.ext (XH e C dx))) dx (.xd [(nm,.int i)]))):=by
 intro pins s σ H D I ⟨e,i,g1,g2,g3,q⟩;refine g0p (thn (hv1 pins s σ H (fun x H1=>x=.int i/\H1=H) I ⟨.int i,g2,rfl,rfl⟩) fun u s1 ⟨y,H1,I1,ry,ey,eH⟩=>thn (hv0 pins s1 σ H1 (fun x H2=>x=.ref e/\H2=H) I1 ⟨.ref e,g1,rfl,eH⟩) fun ov s2 ⟨x,H2,I2,rx,ex,eH2⟩=>?_) hs;subst ey ex eH2;obtain rfl:ov=Value.ref e:=rx;obtain⟨tu,rfl⟩:=(show ∃t,u=Value.int i t from ry)
 obtain⟨⟨o,ws,t1,e1,e2,e3,e4,e5,e6⟩,_,_⟩:=(show ObjOk X.prog X.w H2 s2.heap e _ from I2.hok e _ g3)
 refine qkg I2.kIn e1 e2 e3 e4 c.sa c.ov c.na c.hd fun h' dx k n x2 ns=>?_;have hdx:H2 dx=none:=by
  cases z:H2 dx with
  | none=>rfl
  | some o'=>
   obtain⟨ob,z1⟩:=has_obj (I2.hok dx o' z);rw [n] at z1;cases z1
 have ne:dx≠e:=fun z=>by rw [z,e1] at n;cases n
 refine⟨σ,_,?_,q dx hdx ne⟩;have I3:=I2.write (x:=e) (e:=e) (o:=.ext (XH e C dx)) (h':=h') (t':=s2.toks+2) (by rw [g3];exact True.intro) (.inl rfl) k ⟨_,x2⟩ ⟨⟨_,ws,x2,e2,rfl,e4,e6⟩,⟨_,x2⟩,fun ha hb ⟨o',ws',f1,fr⟩ kk=>⟨o',ws',kk o' f1,fr⟩⟩;refine qdg I2 n I3 (by rw [qo ne];exact hdx) ⟨_,ns,fun f=>?_⟩;show RelO (List.lookup f [(nm,V.int i)]) (if f=nm then some (Value.int i tu) else none);rw [mf]
 by_cases z:f=nm
 ·subst z
  rw [gr rfl,show(f==f)=true from pq f];exact⟨tu,rfl⟩
 ·rw [gy z,show(f==nm)=false from pf.mpr z]
  exact True.intro
end
end DL
namespace DL
open PySem PySem.Spec PyProof.Rows L2
variable[Lam][Pin]
def tIn(C:Addr)(nm:Str): TS:=fun D σ H=>∃e i, σ[0]? = some (some (.ref e)) /\ σ[1]? = some (some (.int i))/\H e=some (.ext (XG e C))/\i.natAbs.log2<1920/\∀dx,H dx=none->dx≠e->D.nx σ (upd (upd H e (.ext (XH e C dx))) dx (.xd [(nm,.int i)]))
def spI(C:Addr)(nm:Str): Sp:=fun vs H Q _=>∃e i,vs=[.ref e,.int i]/\H e=some (.ext (XG e C))/\i.natAbs.log2<1920/\∀dx,H dx=none->dx≠e->Q .non (upd (upd H e (.ext (XH e C dx))) dx (.xd [(nm,.int i)]))
section
variable{X:Cx}
omit [Pin] in
theorem qdm{C:Addr}{nm:Str}{st1 st2:Stmt}(h1:PS X st1 (fun D σ H=>∃e i, σ[0]? = some (some (.ref e)) /\ σ[1]? = some (some (.int i))/\H e=some (.ext (XG e C))/\i.natAbs.log2<1920/\D.nx σ H))
  (h2:PS X st2 (fun D σ H=>∃e i, σ[0]? = some (some (.ref e)) /\ σ[1]? = some (some (.int i))/\H e=some (.ext (XG e C))/\∀dx,H dx=none->dx≠e->D.nx σ (upd (upd H e (.ext (XH e C dx))) dx (.xd [(nm,.int i)])))):PSs X [st1,st2] (tIn C nm):=
 q78 (qci h1 (q9v h2)) fun D σ H ⟨e,i,a1,a2,a3,a4,a5⟩=>⟨e,i,a1,a2,a3,a4,⟨e,i,a1,a2,a3,a5⟩⟩
end
section
variable{P:Program}{w:World}{K:Frag}{mg:Str->Option Value}{base:Heap}{x qual:Str}{st:Stmt}{dV:Value}{f:Addr}{fd:FuncData}{N ps:List Str}
omit [Pin] in
theorem Fun2.okI{C:Addr}{nm:Str}{k k1:Nat}(F:Fun2 K x qual st dV f fd)(S:FnScope N ps (qg st))(hn:N.length=2)(ha:ps.length=2)(hk:k+1=k1)
  (hb:∀(cdv:Value) (A:Around) (outer:List Env) (s:Shared) (H:Hp) (E:XK),Room k (A.deeper (envOfC qual (qg st) s.heap.objs.size f cdv))->PSs (qx CX0 P w K mg base N qual (qg st) f cdv A outer s H E).nox (qr st) (tIn C nm)) :
  FnOk P w K mg base CX0 k1 f fd ps (spI C nm):=by
 subst hk;obtain⟨oc,od,kV,doc,pm,an,cdv,ct,osl,rfl,lk,hcd⟩:=F.ex;refine qc6 lk hcd S (fun vs H Q E h=>?_) fun A outer s H vs Q E hr hsp=>?_
 ·obtain⟨e,i,rfl,_⟩:=h
  exact ha.symm
 ·obtain⟨e,i,rfl,h1,h2,h3⟩:=hsp
  refine⟨_,(hb cdv A outer s H E hr).nox,e,i,?_,?_,h1,h2,fun dx a b=>h3 dx a b⟩ <;> (unfold L2.start;rw [hn];rfl)
end
def q4x(x nm:Str)(f:FE): FX:=fun ρ =>(f ρ).bind fun d=>match d with
 | .int i=>if i.natAbs.log2<1920 then some ((x,some (nm,i)), ρ) else none
 | _=>none
omit [Lam] [Pin] in
theorem Inv.dropX{X:Cx}{pins:List (Addr×Obj)}{σ : St}{H:Hp}{s:Shared}{e:Addr}{φ : Heap->Prop}(I:Inv X pins σ H s)(he:H e=some (.ext φ)): Inv X pins σ (less H e) s:=by
 have nn:∀ {b:Addr} {u:HO},H b=some u->(∀ φ,u ≠ .ext φ)->less H e b=some u:=fun {b u} e1 e2=>by
  rw [q06,e1];intro z;subst z;rw [he] at e1;cases e1;exact e2 _ rfl
 have nz:∀ {b:Addr},H b=none->less H e b=none:=fun {b} e1=>by unfold less;split <;> first|rfl|exact e1
 refine⟨I.ok,I.os,I.bare,⟨I.base.keep,I.base.slot,fun b o e1 n hx=>nz (I.base.free b o e1 n hx),I.base.there,fun b xs e1=>nn (I.base.tups b xs e1) nofun,fun b o xs e1=>nn (I.base.frzs b o xs e1) nofun,fun b ps e1=>?_⟩,I.loc,I.cell,nz I.free,fun y c e1=>nz (I.freeC y c e1),fun p hp=>?_,fun b u e1=>?_,I.len⟩
 ·obtain⟨more,e2⟩:=I.base.tbls b ps e1
  exact⟨more,nn e2 nofun⟩
 ·obtain⟨a1,a2,a3⟩:=I.pin p hp
  exact⟨a1,nz a2,a3⟩
 ·obtain⟨e2,ne⟩:=vq e1
  exact(I.hok b u e2).stay (fun c v _ q=>q) (fun c q=>nn q nofun) fun c xs q=>nn q nofun
def qor(s0:Heap)(C:Addr)(nm:Str)(te:TE): TE:=fun σ H Q=>te σ H fun x H1=>∃i,[x]=[V.int i]/\i.natAbs.log2<1920/\∀e dx,s0.get? e=none->H1 e=none->H1 dx=none->dx≠e->Q (.ref e) (upd (upd H1 e (.ext (XH e C dx))) dx (.xd [(nm,.int i)]))
section
variable{X:Cx}{pos:Pos}
omit [Lam] [Pin] in
theorem qra{H:Hp}{a:Addr}{o o':HO}: upd (upd H a o) a o'=upd H a o':=by
 funext b
 unfold upd
 split <;> rfl
omit [Lam] [Pin] in
theorem qkh{C fI:Addr}{fdI:FuncData}{psI:List Str}{kI k':Nat}{x nm:Str}{np:Pos}{ea:Expr}{te:TE}(hC:y6 X.K C fI=true)(G:FnOk X.prog X.w X.K X.mg X.base CX0 kI fI fdI psI (spI C nm))(hbI:Binds X.K fdI psI [])(hfn:PySem.W.typeIn X.K (.ref fI)=some (.type "function"))(hkp:PySem.W.keepIn X.K (.ref C)=true)
  (hr:Room k' X.A) (hk:kI+1<=k') (hex:X.ex=[]) (hg:Gl X x) (hm:X.mg x=some (.ref C)) (ha:PE X ea te) (hd:(x==("__debug__" : Str))=false:=by decide)
  (hs:starEach [ea] X.env=(false,eval ea X.env) :: starEach [] X.env:=by rfl) (hpl:(backTo pos (starEach [] X.env)).any (·.1)=false:=by rfl) :
  PE X (.Call (.Name x np) [ea] [] pos) (qor X.s₀.heap C nm te):=by
 intro pins s σ H Q I h;refine t4 (q1a I hg hm ?_ hd);refine t5 (h₀:=X.base) I.ok.mod.kin hkp (thn ((zm ha w8 hs) pos pins s σ H (fun vs H1=>∃i,vs=[.int i]/\i.natAbs.log2<1920/\∀e dx,X.s₀.heap.get? e=none->H1 e=none->H1 dx=none->dx≠e->Q (.ref e) (upd (upd H1 e (.ext (XH e C dx))) dx (.xd [(nm,.int i)]))) I ?_) fun us s1 ⟨vs,H1,I1,r,i,ev,hi,q⟩=>⟨I1.kIn,?_⟩) hs hpl
 ·exact h
 subst ev;obtain⟨tl,N,nm',qn,bs,hdct,sn,sub,ab,col,dd,k0,k1,k2,k3,k5,mN,hCo,hNs,hni,T⟩:=q8i I1.kIn hC;obtain⟨oI,f1,f2⟩:∃oI,s1.heap.get? fI=some oI/\oI.cls=.type "function" :=by
  obtain⟨o,ho,e⟩:=gi.mp hfn;exact⟨o,I1.kIn _ _ ho,e⟩
 obtain⟨u,rfl,ru⟩:=r.one;obtain⟨hp,g,dr,tk,os⟩:=s1;refine qib (rest:=[u]) T hCo hNs hni f1 f2 (by show 1<=sizeLine;decide) fun h' e hx=>?_;obtain⟨t,he,_,_⟩:=hx.there;have hH:H1 e=none:=by
  cases z:H1 e with
  | none=>rfl
  | some o=>
   obtain⟨ob,e1⟩:=has_obj (I1.hok e o z);rw [hx.new] at e1;cases e1
 have h0:X.s₀.heap.get? e=none:=by
  cases z:X.s₀.heap.get? e with
  | none=>rfl
  | some o=>
   obtain⟨o',e1⟩:=I1.base.there e o z (by rw [hex];intro z;cases z);rw [hx.new] at e1;cases e1
 have I2:Inv X pins σ (upd H1 e (.ext (XG e C))) ⟨h',g,dr,tk,os⟩:=qdg I1 hx.new (I1.kept (t':=tk) hx.keeps) hH ⟨⟨_,_,t,he,rfl,rfl,rfl,rfl,rfl⟩,⟨_,he⟩,fun ha hb ⟨o',ws',t',e1,er⟩ kk=>⟨o',ws',t',kk o' e1,er⟩⟩;have hq:spI C nm [.ref e,.int i] (upd H1 e (.ext (XG e C))) (fun v H'=>v=.non/\Q (.ref e) H') E0:=⟨e,i,rfl,qy,hi,fun dx a b=>⟨rfl,by rw [qra];exact q e dx h0 hH (by rw [qo b] at a;exact a) b⟩⟩
 have r2:Vals [.ref e,.int i] [Value.ref e,u]:=.cons rfl (.cons ru .nil);have hl:([Value.ref e,u]++([]:List Value)).length=psI.length:=by rw [<- G.len _ _ _ _ hq];rfl
 refine ua (uu (G.run _ X.stack _ _ ⟨[Value.ref e,u],[]⟩ [Value.ref e,u] _ _ E0 ((hr.mono hk).make C [u] []) (I2.env0.make C [u] []) (hbI _ [Value.ref e,u] I2.kIn hl) r2 hq) fun r s' hq'=>?_)
 ·cases r with
  | error e=>exact hq'.elim
  | ok fl=>
   cases fl with
   | ret v=>
    obtain⟨v',H',I',rv,rfl,q'⟩:=I2.after hq';exact⟨rv,.ref e,H',I',(rfl:RelV (.ref e) (Value.ref e)),q'⟩
   | next=>exact False.elim hq'
   | brk=>exact False.elim hq'
   | cont=>exact False.elim hq'
end
section
variable{M:Model}{A:Around}{Ex:Value->Shared->Prop}{env:Env}{nm q:Str}{C N:Addr}{bs bm:List Value}{hdct:Bool}{sn:List Str}{sub:List Value}{ab:Bool}{col:Option Bool}{dd:Option Addr}{k0 k1 k2 k3 k5:Option Value}{newId:String}
omit [Lam] [Pin] in
theorem qgs{s:Shared}{x:Sem Value}{Q:Flow->Shared->Prop}(hh:A.handled=none)
  (h:wpAny M A x (fun v s₁=>∃nm q N bs bm hdct sn sub ab col dd k0 k1 k2 k3 k5 newId e o ws,bm.contains (.type "BaseException")=true/\v=.ref e/\s₁.heap.get? C=some (excClassObj nm q C N bs bm hdct sn sub ab col dd k0 k1 k2 k3 k5 newId)/\s₁.heap.get? e=some o/\o.cls=.ref C/\o.data=.fields ws/\ws[1]? = some .none/\Ex (.ref e) s₁) Ex s) :
  wpAny M A (raiseStmt env (some x) none) Q Ex s:=by
 unfold raiseStmt;refine g9 (mw h (fun v s₁ h₁=>?_) fun _ _ x=>x);obtain⟨nm,q,N,bs,bm,hdct,sn,sub,ab,col,dd,k0,k1,k2,k3,k5,newId,e,o,ws,hbase,rfl,hC,he,hc,hdt,hw,hE⟩:=h₁;have hcB:(Value.ref C :: bm).contains (.type "BaseException")=true:=by rw [List.contains_cons,hbase,g2h]
 obtain⟨hp,g,d,tk,os⟩:=s₁;obtain⟨oc,odd,odt,osl⟩:=o;dsimp only at hc hdt;subst hc hdt
 repeat (first|with_reducible refine uq he ?_|with_reducible refine uq hC ?_|(with_reducible refine wpAny_isSubtype_exc hC ?_;rw [hcB])|wp_step)
 rw [hw];refine gh ?_;rw [gy (by decide)];exact gh (wpAny_raiseNew_none hh hE)
end
section
variable{P:Program}{w:World}{K:Frag}{mg:Str->Option Value}{base:Heap}{N:List Str}{qual:Str}{scope:Scope}{f:Addr}{cd:Value}{A:Around}{outer:List Env}{s0:Shared}{H0:Hp}{E:XK}{pos:Pos}
theorem qb7{C fI:Addr}{fdI:FuncData}{psI:List Str}{kI k':Nat}{x nm:Str}{np cpos:Pos}{ea:Expr}{fe:FE}(hC:y6 K C fI=true)(G:FnOk P w K mg base CX0 kI fI fdI psI (spI C nm))(hbI:Binds K fdI psI [])(hfn:PySem.W.typeIn K (.ref fI)=some (.type "function"))(hkp:PySem.W.keepIn K (.ref C)=true)
  (hr:Room k' (qx (CXR P w) P w K mg base N qual scope f cd A outer s0 H0 E).A) (hk:kI+1<=k') (hg:Gl (qx (CXR P w) P w K mg base N qual scope f cd A outer s0 H0 E) x) (hm:mg x=some (.ref C)) (hns:PySem.W.nsIn K mainGlobals x=some (some (.ref C)))
  (ha:PE (qx (CXR P w) P w K mg base N qual scope f cd A outer s0 H0 E).nox ea (tD K fe)) (hd:(x==("__debug__" : Str))=false:=by decide)
  (hs:starEach [ea] (qx (CXR P w) P w K mg base N qual scope f cd A outer s0 H0 E).env=(false,eval ea (qx (CXR P w) P w K mg base N qual scope f cd A outer s0 H0 E).env) :: starEach [] (qx (CXR P w) P w K mg base N qual scope f cd A outer s0 H0 E).env:=by rfl) :
  PS (qx (CXR P w) P w K mg base N qual scope f cd A outer s0 H0 E) (.Raise (some (.Call (.Name x np) [ea] [] cpos)) none pos) (tXS K (q4x x nm fe) E):=by
 intro pins s σ H D I ⟨F0,H0',F, ρ,p, ρ',C',r,hv,hn,hE⟩;obtain⟨d,h1,h2⟩:=g6.mp hv
 split at h2
 ·rename_i i
  split at h2
  ·rename_i hi
   cases h2;rw [hns] at hn;cases hn;rw [arm_exec_Raise];refine g9 (wpAny_standAt ?_);refine qgs (C:=C) (I.ok.hd rfl) (g9 (thn ((qkh hC G hbI hfn hkp hr hk rfl hg hm (PE.nox' ha) hd hs) pins s σ H (fun v H'=>∃e dx F1 H1,s0.heap.get? e=none/\v=.ref e/\H1 e=none/\H1 dx=none/\dx≠e/\Grow F H F1 H1/\H'=upd (upd H1 e (.ext (XH e C dx))) dx (.xd [(nm,.int i)])) I ?_) fun v s1 ⟨v',H',I1,rv,e,dx,F1,H1,q0,ev,qe,qd,ne,g,eH⟩=>g9 (wpAny_standAt (gh ?_))))
   ·refine⟨F0,H0',F, ρ,_,r,h1,fun v F1 H1 g rp=>?_⟩
    obtain rfl:v=V.int i:=rp;exact⟨i,rfl,hi,fun e dx q0 qe qd ne=>⟨e,dx,F1,H1,q0,rfl,qe,qd,ne,g,rfl⟩⟩
   subst ev eH;obtain rfl:v=Value.ref e:=rv;obtain⟨tl,N,nm',qn,bs,hdct,sn,sub,ab,col,dd,k0,k1,k2,k3,k5,mN,hCo,hNs,hni,T⟩:=q8i I1.kIn hC;have he':upd (upd H1 e (.ext (XH e C dx))) dx (.xd [(nm,.int i)]) e=some (.ext (XH e C dx)):=by rw [qo (gu ne),qy]
   obtain⟨⟨o,ws,e1,e2,e3,e4,e5⟩,_,_⟩:=(show ObjOk _ _ _ s1.heap e _ from I1.hok e _ he')
   refine⟨_,_,_,_,_,_,_,_,_,_,_,_,_,_,_,_,_,e,o,ws,T.hasType qff,rfl,hCo,e1,e2,e4,e5,?_⟩;have hl:less (upd (upd H1 e (.ext (XH e C dx))) dx (.xd [(nm,.int i)])) e=upd H1 dx (.xd [(nm,.int i)]):=by
    funext b
    unfold less upd
    split
    ·rename_i z;subst z;rw [gy (gu ne)];exact qe.symm
    ·rfl
   have I2:=Inv.dropX I1 he';rw [hl] at I2;refine qb4 I2 e1 ⟨e2,e3⟩ e4 e5 (by rw [qo (gu ne)];exact qe) q0 ?_;exact hE (upd F1 dx (.xd [(nm,.int i)])) _ σ (some dx) ((r.grow g).grow (Grow.new g.fh qd)) (qy)
  ·cases h2
 ·cases h2
end
def eXF(x nm:Str)(f:FE): FE:=fun ρ =>(f ρ).bind fun d=>match d with
 | .exc y (some p)=>if y=x/\p.1=nm then some (.int p.2) else none
 | _=>none
section
variable{X:Cx}{pos:Pos}
theorem qfp{x nm:Str}{C:Addr}{e:Expr}{f:FE}(hns:PySem.W.nsIn X.K mainGlobals x=some (some (.ref C)))(c:ClsI X.K C nm)(he:PE X e (tD X.K f))(hb:attributeBase e nm X.env (eval e X.env)=eval e X.env:=by rfl): PE X (.Attribute e nm pos) (tD X.K (eXF x nm f)):=by
 intro pins s σ H Q I ⟨F0,H0,F, ρ,d',r,hf,q⟩;obtain⟨d,h1,h2⟩:=g6.mp hf
 split at h2
 ·rename_i y p
  split at h2
  ·rename_i hc
   obtain⟨rfl,rfl⟩:=hc;cases h2;refine qf2 hb (thn (he pins s σ H (fun v H1=>∃F1,Grow F H F1 H1/\Rep X.K F1 (.exc y (some p)) v) I ⟨F0,H0,F, ρ,_,r,h1,fun v F1 H1 g rv=>⟨F1,g,rv⟩⟩) fun u s1 ⟨v,H1,I1,rv,F1,g,rp⟩=>?_);obtain⟨a,C',rfl,⟨od,ea,xf⟩,hn,cx⟩:=rep_exc.mp rp;obtain rfl:u=Value.ref a:=rv;cases hns.symm.trans hn;cases od with
   | none=>exact xf.elim
   | some dx=>
    obtain⟨⟨o,vs,e1,e2,e3,e4⟩,_,_⟩:=(show ObjOk X.prog X.w H1 s1.heap a _ from I1.hok a _ (g.fh _ _ ea))
    obtain⟨mA,ns1,rl⟩:=(show ObjOk X.prog X.w H1 s1.heap dx _ from I1.hok dx _ (g.fh _ _ xf))
    have rl1:=rl p.1;rw [mf,show(p.1==p.1)=true from pq p.1] at rl1;obtain⟨ob,ho,hl⟩:=qar ns1;cases hm:mA p.1 with
    | none=>rw [hm] at rl1;exact rl1.elim
    | some u=>
     rw [hm] at rl1;obtain⟨t,rfl⟩:=(show ∃t,u=Value.int p.2 t from rl1)
     exact qkf cx.1 I1.kIn ⟨e1,e2,by unfold PySem.W.notCls;rw [e4],by rw [e3];exact ho⟩ e4 (PySem.W.findObj_own c.hd c.na rfl (by rw [hl,hm])) rfl ⟨.int p.2,H1,I1.tok _,⟨t,rfl⟩,q _ F1 H1 g (by simp only [Rep])⟩
  ·cases h2
 ·cases h2
end
end DL
namespace DL
open PySem PySem.Spec PyProof.Rows L2
section
variable{K:Frag}{F:Hp}{a:Addr}{xs0:List V}{ds:List D}
end
variable[Lam][Pin]
open Classical in
section
variable{K:Frag}{F0 H0 F H F' H':Hp}{σ : St}{ρ ρ1:Rho}{i:Nat}{ds:List D}{a:Addr}{xs:List V}
end
section
variable{X:Cx}{e:Expr}{f:FE}{m:FM}
end
end DL
namespace DL
open PySem PySem.Spec PyProof.Rows L2
variable[Lam][Pin]
section
variable{X:Cx}{K:Frag}{st:Stmt}{rest:List Stmt}{u u1 u2:FS}{i:Nat}{pos p px:Pos}{x:Str}
end
section
variable{P:Program}{w:World}{K:Frag}{mg:Str->Option Value}{base:Heap}{x qual:Str}{st:Stmt}{dV:Value}{f:Addr}{fd:FuncData}{N ps:List Str}
end
def q4h(t:List (Str×Bool)): D->Option D
 | .exc y _=>(t.lookup y).map .bl
 | _=>none
section
variable{X:Cx}{e e':Expr}{f:FE}{y:Str}{b:Bool}{t:List (Str×Bool)}
theorem q37:PE X e (tD X.K (eUn (q4h []) f)):=fun pins s σ H Q I ⟨F0,H0,F, ρ,d,r,hf,q⟩=>by
 obtain⟨d',h1,h2⟩:=g6.mp hf;cases d' <;> cases h2
theorem zu(h1:PE X e (tD X.K (eUn (isX y b) f)))(h2:PE X e (tD X.K (eUn (q4h t) f))): PE X e (tD X.K (eUn (q4h ((y,b) :: t)) f)):=fun pins s σ H Q I ⟨F0,H0,F, ρ,d,r,hf,q⟩=>by
 obtain⟨d',k1,k2⟩:=g6.mp hf;cases d' <;> first|(cases k2;done)|skip
 rename_i z fz;simp only [q4h,mf] at k2
 split at k2
 ·rename_i hz
  have hz:=nk.mp hz;subst hz;exact h1 pins s σ H Q I ⟨F0,H0,F, ρ,d,r,by unfold eUn;rw [k1,gb];simp only [isX,p5];exact k2,q⟩
 ·exact h2 pins s σ H Q I ⟨F0,H0,F, ρ,d,r,by unfold eUn;rw [k1,gb];exact k2,q⟩
end
def qgt(ar:Nat)(op:Flds->List D->Option (XV×Flds))(fa:FA): FX:=fun ρ =>(fa ρ).bind fun ds=>if ds.length=ar then(op [] ds).map fun p=>(p.1, ρ) else none
section
variable{X:Cx}{pos p:Pos}{σ0:St}{E:XK}{pins:List (Addr×Obj)}
theorem qid{C f:Addr}{k:Nat}{fd:FuncData}{ps:List Str}{sp:Sp}{p0:List (Addr×Obj)}{H:Hp}{s:Shared}{Q:VK}{us:List Value}{vs:List V}(M:Mk X.K C f)(F:FnOk X.prog X.w X.K X.mg X.base (CXR X.prog X.w) k f fd ps sp)(hr:Room (k+1) X.A)(hb:Binds X.K fd ps [])
  (I:Inv (XT X pins σ0 E) p0 σ0 H s) (r:Vals vs us)
  (h:∀x dx,H x=none->H dx=none->dx≠x->sp (.ref x :: vs) (upd (upd H dx (.own x)) x (.ins C dx [])) (fun v H2=>v=.non/\Q (.ref x) H2) E) :
  wpAny (model X.prog X.w) X.A (call (.ref C) us) (EP (XT X pins σ0 E) p0 σ0 Q) (XT X pins σ0 E).xe s:=by
 have hq:=h (s.heap.objs.size+1) s.heap.objs.size (I.hok.fresh (g23 _)) (I.hok.fresh (gv _)) (ma (g00 _));have I2:=Inv.made (C:=C) I;have r2:Vals (V.ref (s.heap.objs.size+1) :: vs) (Value.ref (s.heap.objs.size+1) :: us):=.cons rfl r;have hl:(Value.ref (s.heap.objs.size+1) :: us++[]).length=ps.length:=by
  have e:=r2.length;rw [F.len _ _ _ _ hq] at e;rw [mn];exact e.symm
 have hb':=hb _ (Value.ref (s.heap.objs.size+1) :: us) I2.kIn hl;rw [mn] at hb';refine ua (qck (f:=f) I.kIn M.makes M.init (nk.mp M.fn) (uu (F.run _ X.stack _ _ ⟨Value.ref (s.heap.objs.size+1) :: us,[]⟩ (Value.ref (s.heap.objs.size+1) :: us) _ _ E (hr.make C us [])
  (I2.env0.make C us []) hb' r2 hq) fun r s' hq'=>?_))
 cases r with
 | error e=>exact⟨p0,_,_,I2.unwish,hq'⟩
 | ok fl=>
  cases fl with
  | ret u=>
   obtain⟨v,H',I3,rv,ev,q3⟩:=I2.after hq';subst ev;exact⟨rv,⟨V.ref (s.heap.objs.size+1),H',I3,rfl,q3⟩⟩
  | next=>exact False.elim hq'
  | brk=>exact False.elim hq'
  | cont=>exact False.elim hq'
theorem qos{C:Addr}{c:Str}{k k' ar:Nat}{fn:Addr}{fd:FuncData}{ps:List Str}{op:Flds->List D->Option (XV×Flds)}{e:Expr}{es:List Expr}{fa:FA}(M:Mk X.K C fn)(hns:PySem.W.nsIn X.K mainGlobals c=some (some (.ref C)))(G:FnOk X.prog X.w X.K X.mg X.base (CXR X.prog X.w) k fn fd ps (kb X.K c ar op))(hb:Binds X.K fd ps [])(hr:Room k' X.A)(hk:k+1<=k')(hg:Gl X c)(hm:X.mg c=some (.ref C))
  (ha:PA (XT X pins σ0 E).nox (e :: es) (tDA X.K fa)) (hdb:(c==("__debug__" : Str))=false:=by decide) (he:starEach (e :: es) X.env=(false,eval e X.env) :: starEach es X.env:=by rfl) (hpl:(backTo pos (starEach es X.env)).any (·.1)=false:=by rfl) :
  PE (XT X pins σ0 E) (.Call (.Name c p) (e :: es) [] pos) (qkc X.K (qgt ar op fa) σ0 E):=by
 intro q0 s σ H Q I ⟨e0,F0,H0,F, ρ,y, ρ',C',r,hv,hn,hE⟩;subst e0;obtain⟨ds,h1,h2⟩:=g6.mp hv
 split at h2
 ·rename_i hl
  obtain⟨⟨p',fs'⟩,h3,h4⟩:=gi.mp h2;cases h4;refine t4 (q1a I hg hm ?_ hdb);refine t5 (h₀:=X.base) I.ok.mod.kin M.kp (mw (ha pos q0 s σ H (fun vs H1=>∃F1,Grow F H F1 H1/\RepL X.K F1 ds vs) (I.wish _) ⟨F0,H0,F, ρ,ds,r,h1,fun vs F1 H1 g rl=>⟨F1,g,rl⟩⟩) (fun us s1 ⟨vs,H1,I1,rv,F1,g,rl⟩=>⟨I1.kIn,?_⟩) fun _ _ z=>False.elim z) he hpl;refine qid M G (hr.mono hk) hb I1.unwish rv fun x dx n1 n2 n3=>?_;have r':=r.grow g;have hF:F1 x=none:=g.fh.free n1;have hx':upd H1 dx (.own x) x=none:=by rw [qo (gu n3)];exact n1
  have gd:Grow F1 H1 F1 (upd H1 dx (.own x)):=Grow.own g.fh n2;have g2:Grow F1 H1 F1 (upd (upd H1 dx (.own x)) x (.ins C dx [])):=gd.trans (Grow.own gd.fh hx');have lx:less (upd (upd H1 dx (.own x)) x (.ins C dx [])) x=upd H1 dx (.own x):=by
   funext b
   unfold less
   split
   ·rename_i z;subst z;exact hx'.symm
   ·rename_i z;rw [qo z]
  refine⟨F1,x,[],fs',ds,_,C',vs,rfl,r'.sameT g2,rl,hl,⟨⟨C,dx,[],qy,hns,rfl⟩,hF,yo⟩,h3,hn,fun F2 H2 od g3 o3 xf=>?_⟩;rw [lx] at g3;exact hE F2 H2 od (g.ff.trans g3.ff) (r'.grow (gd.trans g3)) xf
 ·cases h2
end
def mOp(o:D->D->Option D)(f g:FM): FM:=fun ρ =>(f ρ).bind fun p=>(g p.2).bind fun q=>(o p.1 q.1).map fun d=>(d,q.2)
section
variable{X:Cx}{a b e:Expr}{es:List Expr}{pos p:Pos}{f g:FM}{fa:FAM}
theorem qqc(ha:PE X a (tDM X.K f))(hb:PE X b (tDM X.K g))(hs:q9y b:=by intro _ _;rfl): PE X (.Subscript a b pos) (tDM X.K (mOp oIx f g)):=zl (ql2 qhi ha hb hs) fun σ H Q ⟨F0,H0,F, ρ,d, ρ',r,hf,q⟩=>by
 obtain⟨⟨d1, ρ1⟩,h1,hf⟩:=g6.mp hf;obtain⟨⟨d2, ρ2⟩,h2,hf⟩:=g6.mp hf;obtain⟨d3,k3,h4⟩:=gi.mp hf;cases h4;refine⟨F0,H0,F, ρ,d1, ρ1,r,h1,fun v F1 H1 s1 r1 rv=>⟨F0,H0,F1, ρ1,d2,_,r1,h2,fun u F2 H2 s2 r2 ru=>?_⟩⟩;have k1:=rv.mono s2;dsimp only at k3 k1;unfold oIx at k3
 split at k3
 ·obtain⟨p,ys,rfl,z1,z2⟩:=rep_tup.mp k1
  obtain⟨y,z3,z4⟩:=q7f z2 k3;exact .inr (.inl ⟨p,ys,_,y,rfl,rep_int.mp ru,qz r2.fh z1,z3,q y F2 H2 (s1.trans s2) r2 z4⟩)
 ·obtain⟨p,ys,rfl,z1,z2⟩:=rep_lst.mp k1
  obtain⟨y,z3,z4⟩:=q7f z2 k3;exact .inl ⟨p,ys,_,y,rfl,rep_int.mp ru,r2.fh.seq z1,z3,q y F2 H2 (s1.trans s2) r2 z4⟩
 ·cases k3
theorem qot{op:CmpOp}{o:D->D->Option D}(ho:OpR X (compareOp op) (rD X.K o))(ha:PE X a (tDM X.K f))(hb:PE X b (tDM X.K g))(hm:behindInMarks op b=false:=by first|exact q57 _ (by decide) (by decide)|rfl):
  PE X (.Compare a [op] [b] pos) (tDM X.K (mOp o f g)):=zl (qf0 ho ha hb hm) fun σ H Q ⟨F0,H0,F, ρ,c, ρ',r,hf,q⟩=>by
 obtain⟨⟨d1, ρ1⟩,h1,hf⟩:=g6.mp hf;obtain⟨⟨d2, ρ2⟩,h2,hf⟩:=g6.mp hf;obtain⟨d,h3,h4⟩:=gi.mp hf;cases h4;refine⟨F0,H0,F, ρ,d1, ρ1,r,h1,fun v F1 H1 s1 r1 rv=>⟨F0,H0,F1, ρ1,d2,_,r1,h2,fun u F2 H2 s2 r2 ru=>?_⟩⟩;exact⟨F2,d1,d2,_,r2.fh,rv.mono s2,ru,h3,fun w F3 H3 g3 r3=>q w F3 H3 (s1.trans (s2.trans g3.ff)) (r2.grow g3) r3⟩
theorem qmk{op:List D->Option D}{σ : St}{H:Hp}{Q:VK}(h:tDM X.K (yr op fa) σ H Q): q8g X.K fa σ H fun vs H1=>rC X.K op vs H1 Q:=by
 obtain⟨F0,H0,F, ρ,d, ρ',r,hf,q⟩:=h;obtain⟨⟨ds, ρ1⟩,h1,hf⟩:=g6.mp hf;obtain⟨d',h2,h3⟩:=gi.mp hf;cases h3;exact⟨F0,H0,F, ρ,ds, ρ1,r,h1,fun vs F1 H1 s1 r1 rl=>⟨F1,ds,d,r1.fh,rl,h2,fun v F2 H2 g2 rv=>q v F2 H2 (s1.trans g2.ff) (r1.grow g2) rv⟩⟩
theorem qki{x:Str}{id:String}{op:List D->Option D}(hc:vh X (.builtin id) (rC X.K op))(hg:Gl X x)(hm:X.mg x=none)(hv:bootBuiltins x=some (.builtin id))(ha:PA X (e :: es) (q8g X.K fa))
  (hn:x≠"__name__" :=by decide) (hdb:(x==("__debug__" : Str))=false:=by decide)
  (he:starEach (e :: es) X.env=(false,eval e X.env) :: starEach es X.env:=by rfl) (hpl:(backTo pos (starEach es X.env)).any (·.1)=false:=by rfl):PE X (.Call (.Name x p) (e :: es) [] pos) (tDM X.K (yr op fa)):=
 zl (q1w hc hg hm hv ha hn hdb he hpl) fun σ H Q h=>qmk h
end
end DL
namespace My
open PySem PySem.Spec PyProof.Rows L2 DL
local macro_rules | `(tactic| walk_at "A")=> `(tactic| ((refine q7c (hs:=?hs) ?a ?_);(case hs=>exact q1b rfl)))
local macro_rules | `(tactic| walk_at "L")=> `(tactic| first|exact .inl rfl|exact .inr rfl|assumption)
def top(i:Nat): Stmt:=PySem.Challenge.pw_oftentogether_k43_store_refused.main.body.getD i (.Pass ⟨0,0,0,0⟩)
def q6k(i j:Nat): Stmt:=match top i with | .ClassDef _ _ _ body _ _ _ _ _ _ _=>body.getD j (.Pass ⟨0,0,0,0⟩)|x=>x
section
variable[Lam]{P:Program}{w:World}{K:Frag}{mg:Str->Option Value}{base:Heap}
abbrev zx:Stmt:=q6k 18 0
noncomputable def wt:List Str:=["self","there"]
theorem q5l:(wt).Nodup:=by decide +kernel
theorem q5m:FnScope wt ["self","there"] (qg zx):=⟨rfl,rfl,rfl,q5l,rfl,by decide +kernel,by decide +kernel⟩
theorem q5n{fa:Addr}{cdv:Value}{A:Around}{outer:List Env}{s:Shared}{H:Hp}{E:XK}{C_OftenError:Addr}(m_OftenError:mg "OftenError" = some (.ref C_OftenError))(sp_OftenError:PySem.W.specialIn K (.ref C_OftenError) "__getattribute__" = some (some (.builtin "type.__getattribute__")))(rd_OftenError:PySem.W.readsIn K C_OftenError (.type "type")=true)(fc_OftenError:PySem.W.findCls K (.ref C_OftenError) (.type "type") "__init__" = some (.val (.builtin "ValueError.__init__"))){C_NotThere:Addr}(ei_NotThere:y6 K C_NotThere fa=true)(ci_NotThere:ClsI K C_NotThere "there"):
  PSs (qx CX0 P w K mg base wt "NotThere.__init__" (qg zx) fa cdv A outer s H E).nox (qr zx) (tIn C_NotThere "there"):=
 qdm (qfn rfl m_OftenError sp_OftenError rd_OftenError fc_OftenError ei_NotThere (pv 0) (pv 1) (by decide) (by decide)) (qfo ci_NotThere (pv 0) (pv 1))
theorem q5o{fa:Addr}{dV:Value}{fd:FuncData}(F:Fun2 K "__init__" "NotThere.__init__" zx dV fa fd){C_OftenError:Addr}(m_OftenError:mg "OftenError" = some (.ref C_OftenError))(sp_OftenError:PySem.W.specialIn K (.ref C_OftenError) "__getattribute__" = some (some (.builtin "type.__getattribute__")))(rd_OftenError:PySem.W.readsIn K C_OftenError (.type "type")=true)(fc_OftenError:PySem.W.findCls K (.ref C_OftenError) (.type "type") "__init__" = some (.val (.builtin "ValueError.__init__"))){C_NotThere:Addr}(ei_NotThere:y6 K C_NotThere fa=true)(ci_NotThere:ClsI K C_NotThere "there"): FnOk P w K mg base CX0 1 fa fd ["self","there"] (spI C_NotThere "there"):=
 F.okI (k:=0) q5m rfl rfl rfl fun cdv A outer s H E hr=>q5n m_OftenError sp_OftenError rd_OftenError fc_OftenError ei_NotThere ci_NotThere
abbrev zy:Stmt:=q6k 19 0
noncomputable def wu:List Str:=["self","most"]
theorem q5p:(wu).Nodup:=by decide +kernel
theorem q5q:FnScope wu ["self","most"] (qg zy):=⟨rfl,rfl,rfl,q5p,rfl,by decide +kernel,by decide +kernel⟩
theorem q5r{fa:Addr}{cdv:Value}{A:Around}{outer:List Env}{s:Shared}{H:Hp}{E:XK}{C_OftenError:Addr}(m_OftenError:mg "OftenError" = some (.ref C_OftenError))(sp_OftenError:PySem.W.specialIn K (.ref C_OftenError) "__getattribute__" = some (some (.builtin "type.__getattribute__")))(rd_OftenError:PySem.W.readsIn K C_OftenError (.type "type")=true)(fc_OftenError:PySem.W.findCls K (.ref C_OftenError) (.type "type") "__init__" = some (.val (.builtin "ValueError.__init__"))){C_TooGreat:Addr}(ei_TooGreat:y6 K C_TooGreat fa=true)(ci_TooGreat:ClsI K C_TooGreat "most"):
  PSs (qx CX0 P w K mg base wu "TooGreat.__init__" (qg zy) fa cdv A outer s H E).nox (qr zy) (tIn C_TooGreat "most"):=
 qdm (qfn rfl m_OftenError sp_OftenError rd_OftenError fc_OftenError ei_TooGreat (pv 0) (pv 1) (by decide) (by decide)) (qfo ci_TooGreat (pv 0) (pv 1))
theorem q5s{fa:Addr}{dV:Value}{fd:FuncData}(F:Fun2 K "__init__" "TooGreat.__init__" zy dV fa fd){C_OftenError:Addr}(m_OftenError:mg "OftenError" = some (.ref C_OftenError))(sp_OftenError:PySem.W.specialIn K (.ref C_OftenError) "__getattribute__" = some (some (.builtin "type.__getattribute__")))(rd_OftenError:PySem.W.readsIn K C_OftenError (.type "type")=true)(fc_OftenError:PySem.W.findCls K (.ref C_OftenError) (.type "type") "__init__" = some (.val (.builtin "ValueError.__init__"))){C_TooGreat:Addr}(ei_TooGreat:y6 K C_TooGreat fa=true)(ci_TooGreat:ClsI K C_TooGreat "most"): FnOk P w K mg base CX0 1 fa fd ["self","most"] (spI C_TooGreat "most"):=
 F.okI (k:=0) q5q rfl rfl rfl fun cdv A outer s H E hr=>q5r m_OftenError sp_OftenError rd_OftenError fc_OftenError ei_TooGreat ci_TooGreat
abbrev wb:Stmt:=top 2
noncomputable def q4i:List Str:=["thing"]
theorem qdn:(q4i).Nodup:=by decide +kernel
theorem qdo:FnScope q4i ["thing"] (qg wb):=⟨rfl,rfl,rfl,qdn,rfl,by decide +kernel,by decide +kernel⟩
noncomputable def q2a:FS:=(zj (q1z (q13 .int (eV 0)) (q1z (qcq (q13 .bool (eV 0))) (eOp oGe (eV 0) (eC (.int 0))))))
noncomputable def jt:List D->Option D:=jr 1 q2a
theorem q6l{fa:Addr}{cdv:Value}{A:Around}{outer:List Env}{s:Shared}{H:Hp}{E:XK}(n_isinstance:mg "isinstance" = none)(n_int:mg "int" = none)(n_bool:mg "bool" = none)(hr:Room 0 (A.deeper (envOfC "is_number" (qg wb) s.heap.objs.size fa cdv))):
  PSs (qx CX0 P w K mg base q4i "is_number" (qg wb) fa cdv A outer s H E).nox (qr wb) (tDS K q2a):=by
 unfold q2a;refine(ql ?_);refine(z0 ?_);refine(q4q ?_ (q4q ?_ (q6c ?_)));refine(q4r .int rfl n_isinstance rfl n_int DL.boot_int ?_);exact(qc (pv 0));refine(qo0 ?_);refine(q4r .bool rfl n_isinstance rfl n_bool DL.boot_bool ?_);exact(qc (pv 0));refine(q4p qca ?_ qi);exact(qc (pv 0))
theorem qdp{fa:Addr}{dV:Value}{fd:FuncData}(F:Fun2 K "is_number" "is_number" wb dV fa fd)(n_isinstance:mg "isinstance" = none)(n_int:mg "int" = none)(n_bool:mg "bool" = none): FnOk P w K mg base CX0 1 fa fd ["thing"] (spD K 1 jt):=
 F.okn (k:=0) (n:=1) (ar:=1) (k1:=1) (u:=q2a) qdo rfl rfl rfl fun cdv A outer s H E hr=>(by first|(with_reducible exact q6l n_isinstance n_int n_bool hr)|exact q6l n_isinstance n_int n_bool hr)
abbrev wc:Stmt:=top 3
noncomputable def q4j:List Str:=["thing","lowest","highest"]
theorem qdq:(q4j).Nodup:=by decide +kernel
theorem qdr:FnScope q4j ["thing","lowest","highest"] (qg wc):=⟨rfl,rfl,rfl,qdq,rfl,by decide +kernel,by decide +kernel⟩
noncomputable def q2b:FS:=(zj (q1z (qm (qq 1 [] jt) (qa (eV 0) qh)) (q3m oLe oLe (eV 1) (eV 0) (eV 2))))
noncomputable def zc:List D->Option D:=jr 3 q2b
theorem q6m{fa:Addr}{cdv:Value}{A:Around}{outer:List Env}{s:Shared}{H:Hp}{E:XK}{a_is_number:Addr}{fd_is_number:FuncData}(c_9:Cal P w K mg base "is_number" 1 ["thing"] 1 jt a_is_number fd_is_number)(b_9:Binds K fd_is_number ["thing"] [])(hr:Room 1 (A.deeper (envOfC "is_within" (qg wc) s.heap.objs.size fa cdv))):
  PSs (qx CX0 P w K mg base q4j "is_within" (qg wc) fa cdv A outer s H E).nox (qr wc) (tDS K q2b):=by
 unfold q2b;refine(ql ?_);refine(z0 ?_);refine(q4q ?_ (q6c ?_));refine(zh c_9 b_9 hr (by decide) rfl ?_);walk_at "A";exact(qc (pv 0));exact qf;refine(qk2 ql4 ql4 ?_ ?_ ?_);exact(qc (pv 1));exact(qc (pv 0));exact(qc (pv 2))
theorem qds{fa:Addr}{dV:Value}{fd:FuncData}(F:Fun2 K "is_within" "is_within" wc dV fa fd){a_is_number:Addr}{fd_is_number:FuncData}(c_9:Cal P w K mg base "is_number" 1 ["thing"] 1 jt a_is_number fd_is_number)(b_9:Binds K fd_is_number ["thing"] []): FnOk P w K mg base CX0 2 fa fd ["thing","lowest","highest"] (spD K 3 zc):=
 F.okn (k:=1) (n:=3) (ar:=3) (k1:=2) (u:=q2b) qdr rfl rfl rfl fun cdv A outer s H E hr=>(by first|(with_reducible exact q6m c_9 b_9 hr)|exact q6m c_9 b_9 hr)
abbrev ze:Stmt:=q6k 25 0
noncomputable def kv:List Str:=["self","wares","window"]
theorem nd_Store___init__:(kv).Nodup:=by decide +kernel
theorem q2w:FnScope kv ["self","wares","window"] (qg ze):=⟨rfl,rfl,rfl,nd_Store___init__,rfl,by decide +kernel,by decide +kernel⟩
noncomputable def kx:FS:=(qu (sIf (xl (bT (qm (qq 3 [] zc) (qa (eV 1) (qa (eC (.int 0)) (qa (eC (.int 12)) qh)))))) q05 zo) (qu (sIf (q1y (j9 (oIs true) (eV 2) (eC .non)) (xl (bT (qm (qq 3 [] zc) (qa (eV 2) (qa (eC (.int 1)) (qa (eC (.int 1000000000000000)) qh))))))) q05 zo) (qu (q44 "Store" 0 "wares" (eV 1)) (qu (q44 "Store" 0 "window" (eV 2)) (q44 "Store" 0 "runs" (za qh))))))
noncomputable def zf:Flds->List D->Option (Flds×D):=ko 3 "Store" kx
theorem q7p[Pin]{fa:Addr}{cdv:Value}{A:Around}{outer:List Env}{s:Shared}{H:Hp}{E:XK}{C_Store:Addr}(O_Store:ClsF K "Store" C_Store ["wares","window","runs"]){a_is_within:Addr}{fd_is_within:FuncData}(c_12:Cal P w K mg base "is_within" 2 ["thing","lowest","highest"] 3 zc a_is_within fd_is_within)(b_12:Binds K fd_is_within ["thing","lowest","highest"] [])(g_MOST_WARES:∃t,mg "MOST_WARES" = some (.int 12 t))(g_MOST_WINDOW:∃t,mg "MOST_WINDOW" = some (.int 1000000000000000 t))(hr:Room 2 (A.deeper (envOfC "Store.__init__" (qg ze) s.heap.objs.size fa cdv))):
  PSs (qx CX0 P w K mg base kv "Store.__init__" (qg ze) fa cdv A outer s H E).nox (qr ze) (tDS K kx):=by
 unfold kx;refine(qk ?_ ?_);refine(jg ?_ (ql kn) z7);refine(v8 ?_);refine(ja ?_);refine(zh c_12 b_12 hr (by decide) rfl ?_);walk_at "A";exact(qc (pv 1));walk_at "A";exact qi;walk_at "A";exact(yi rfl g_MOST_WARES);exact qf;refine(qk ?_ ?_);refine(jg ?_ (ql kn) z7);refine(PW.pt (q94 ?_ (q7a ?_)));refine(ji (q5g rfl) ?_ jz);exact(qc (pv 2));refine(v8 ?_);refine(ja ?_);refine(zh c_12 b_12 hr (by decide) rfl ?_);walk_at "A";exact(qc (pv 2));walk_at "A";exact qi;walk_at "A";exact(yi rfl g_MOST_WINDOW);exact qf;refine(qk ?_ ?_);refine(q6h O_Store (by decide) (pv 0) ?_);exact(qc (pv 1));refine(qk ?_ ?_);refine(q6h O_Store (by decide) (pv 0) ?_);exact(qc (pv 2));refine(ql ?_);refine(q6h O_Store (by decide) (pv 0) ?_);exact(qw qf)
theorem q7q{fa:Addr}{dV:Value}{fd:FuncData}(F:Fun2 K "__init__" "Store.__init__" ze dV fa fd){C_Store:Addr}(O_Store:ClsF K "Store" C_Store ["wares","window","runs"]){a_is_within:Addr}{fd_is_within:FuncData}(c_12:Cal P w K mg base "is_within" 2 ["thing","lowest","highest"] 3 zc a_is_within fd_is_within)(b_12:Binds K fd_is_within ["thing","lowest","highest"] [])(g_MOST_WARES:∃t,mg "MOST_WARES" = some (.int 12 t))(g_MOST_WINDOW:∃t,mg "MOST_WINDOW" = some (.int 1000000000000000 t)): FnOk P w K mg base CX0 3 fa fd ["self","wares","window"] (q14 K "Store" 2 zf):=
 F.okOB (c:="Store") (k:=2) (n:=3) (ar:=2) (k1:=3) (u:=kx) q2w rfl rfl rfl fun Pn cdv A outer s H E hr=>(by exact q7p O_Store c_12 b_12 g_MOST_WARES g_MOST_WINDOW hr)
noncomputable def y8:FX:=(q16 (sIf (xl (bT (qm (qq 3 [] zc) (qa (eV 1) (qa (eC (.int 0)) (qa (eC (.int 12)) qh)))))) q05 zo) (xIf (xl (bT (qm (qq 3 [] zc) (qa (eV 1) (qa (eC (.int 0)) (qa (eC (.int 12)) qh)))))) (q9c "NoStore") kc) (q16 (sIf (q1y (j9 (oIs true) (eV 2) (eC .non)) (xl (bT (qm (qq 3 [] zc) (qa (eV 2) (qa (eC (.int 1)) (qa (eC (.int 1000000000000000)) qh))))))) q05 zo) (xIf (q1y (j9 (oIs true) (eV 2) (eC .non)) (xl (bT (qm (qq 3 [] zc) (qa (eV 2) (qa (eC (.int 1)) (qa (eC (.int 1000000000000000)) qh))))))) (q9c "NoStore") kc) kc))
noncomputable def x_Store___init__:Flds->List D->Option (XV×Flds):=fun fs ds=>(y8 (yc 3 "Store" fs ds)).bind fun p=>(yg 0 p.2).bind fun o=>if o.1="Store" then some (p.1,o.2) else none
theorem q7r[Pin]{fa:Addr}{cdv:Value}{A:Around}{outer:List Env}{s:Shared}{H:Hp}{E:XK}{C_Store:Addr}(O_Store:ClsF K "Store" C_Store ["wares","window","runs"]){a_is_within:Addr}{fd_is_within:FuncData}(c_12:Cal P w K mg base "is_within" 2 ["thing","lowest","highest"] 3 zc a_is_within fd_is_within)(b_12:Binds K fd_is_within ["thing","lowest","highest"] [])(g_MOST_WARES:∃t,mg "MOST_WARES" = some (.int 12 t))(g_MOST_WINDOW:∃t,mg "MOST_WINDOW" = some (.int 1000000000000000 t)){C_NoStore:Addr}(e_NoStore:q6g K C_NoStore)(m_NoStore:mg "NoStore" = some (.ref C_NoStore))(ns_NoStore:PySem.W.nsIn K mainGlobals "NoStore" = some (some (.ref C_NoStore)))(hr:Room 2 (A.deeper (envOfC "Store.__init__" (qg ze) s.heap.objs.size fa cdv))):
  PSs (qx (CXR P w) P w K mg base kv "Store.__init__" (qg ze) fa cdv A outer s H E) (qr ze) (tXS K y8 E):=by
 unfold y8;refine(q3p (PS.nox ?_) (q9d (PT.nox ?_) (q4w (q8h e_NoStore rfl m_NoStore ns_NoStore)) km) (q3p (PS.nox ?_) (q9d (PT.nox ?_) (q4w (q8h e_NoStore rfl m_NoStore ns_NoStore)) km) km));refine(jg ?_ (ql kn) z7);refine(v8 ?_);refine(ja ?_);refine(zh c_12 b_12 hr (by decide) rfl ?_);walk_at "A";exact(qc (pv 1));walk_at "A";exact qi;walk_at "A";exact(yi rfl g_MOST_WARES);exact qf;refine(v8 ?_);refine(ja ?_);refine(zh c_12 b_12 hr (by decide) rfl ?_);walk_at "A";exact(qc (pv 1));walk_at "A";exact qi;walk_at "A";exact(yi rfl g_MOST_WARES);exact qf;refine(jg ?_ (ql kn) z7);refine(PW.pt (q94 ?_ (q7a ?_)));refine(ji (q5g rfl) ?_ jz);exact(qc (pv 2));refine(v8 ?_);refine(ja ?_);refine(zh c_12 b_12 hr (by decide) rfl ?_);walk_at "A";exact(qc (pv 2));walk_at "A";exact qi;walk_at "A";exact(yi rfl g_MOST_WINDOW);exact qf;refine(PW.pt (q94 ?_ (q7a ?_)));refine(ji (q5g rfl) ?_ jz);exact(qc (pv 2));refine(v8 ?_);refine(ja ?_);refine(zh c_12 b_12 hr (by decide) rfl ?_);walk_at "A";exact(qc (pv 2));walk_at "A";exact qi;walk_at "A";exact(yi rfl g_MOST_WINDOW);exact qf
theorem q6n{fa:Addr}{dV:Value}{fd:FuncData}(F:Fun2 K "__init__" "Store.__init__" ze dV fa fd){C_Store:Addr}(O_Store:ClsF K "Store" C_Store ["wares","window","runs"]){a_is_within:Addr}{fd_is_within:FuncData}(c_12:Cal P w K mg base "is_within" 2 ["thing","lowest","highest"] 3 zc a_is_within fd_is_within)(b_12:Binds K fd_is_within ["thing","lowest","highest"] [])(g_MOST_WARES:∃t,mg "MOST_WARES" = some (.int 12 t))(g_MOST_WINDOW:∃t,mg "MOST_WINDOW" = some (.int 1000000000000000 t)){C_NoStore:Addr}(e_NoStore:q6g K C_NoStore)(m_NoStore:mg "NoStore" = some (.ref C_NoStore))(ns_NoStore:PySem.W.nsIn K mainGlobals "NoStore" = some (some (.ref C_NoStore))): FnOk P w K mg base (CXR P w) 3 fa fd ["self","wares","window"] (kb K "Store" 2 x_Store___init__):=
 q46 (c:="Store") (k:=2) (n:=3) (v:=y8) F q2w rfl rfl rfl fun Pn cdv A outer s H E hr=>q7r O_Store c_12 b_12 g_MOST_WARES g_MOST_WINDOW e_NoStore m_NoStore ns_NoStore hr
abbrev ky:Stmt:=top 6
noncomputable def q8j:List Str:=["thing","wares","bound"]
theorem nd_is_set:(q8j).Nodup:=by decide +kernel
theorem qie:FnScope q8j ["thing","wares"] (qg ky):=⟨rfl,rfl,rfl,nd_is_set,rfl,by decide +kernel,by decide +kernel⟩
theorem qem:(["ware","bound"]:List Str).Nodup:=by decide +kernel
theorem q83:(["lower","higher"]:List Str).Nodup:=by decide +kernel
noncomputable def q5t:FS:=(qu (sIf (xl (bT (q13 .tuple (eV 0)))) (zj (eC (.bl false))) zo) (qu (j5 2 (qm oMin (qa (eV 1) (qa (eC (.int 12)) qh)))) (qu (sIf (xl (bT (qm qa3 (qa (eL (q43 (q12 (eV 0)) [none,some 2] (bN 0) q30 (q1z (qm (qq 1 [] jt) (qa (eV 0) qh)) (eOp oLt' (eV 0) (eV 1))))) qh)))) (zj (eC (.bl false))) zo) (zj (qm qa3 (qa (eL (q43 (qd6 (qa (eV 0) (qa (eSl (eV 0) (oAt (eC (.int 1))) oNo) qh))) [none,none] (q11 2 (xt (bN 0) (xt (bN 1) q10))) q30 (eOp oLt' (eV 0) (eV 1)))) qh))))))
noncomputable def y9:List D->Option D:=jr 3 q5t
theorem qb8{fa:Addr}{cdv:Value}{A:Around}{outer:List Env}{s:Shared}{H:Hp}{E:XK}{a_is_number:Addr}{fd_is_number:FuncData}(c_9:Cal P w K mg base "is_number" 1 ["thing"] 1 jt a_is_number fd_is_number)(b_9:Binds K fd_is_number ["thing"] [])(n_min:mg "min" = none)(n_all:mg "all" = none)(n_isinstance:mg "isinstance" = none)(n_tuple:mg "tuple" = none)(n_zip:mg "zip" = none)(g_MOST_WARES:∃t,mg "MOST_WARES" = some (.int 12 t))(hr:Room 1 (A.deeper (envOfC "is_set" (qg ky) s.heap.objs.size fa cdv))):
  PSs (qx CX0 P w K mg base q8j "is_set" (qg ky) fa cdv A outer s H E).nox (qr ky) (tDS K q5t):=by
 unfold q5t;refine(qk ?_ ?_);refine(jg ?_ (ql ?_) z7);refine(v8 ?_);refine(ja ?_);refine(q4r .tuple rfl n_isinstance rfl n_tuple DL.boot_tuple ?_);exact(qc (pv 0));exact(z0 zr);refine(qk ?_ ?_);refine(j6 (i:=2) ?_ ?_ ?_ ?_ ?_ ?_);exact nd_is_set;exact rfl;exact(Or.inr rfl);refine(vz (qhy rfl) rfl n_min DL.boot_min ?_);walk_at "A";exact(qc (pv 1));walk_at "A";exact(yi rfl g_MOST_WARES);exact qf;exact rfl;walk_at "L";refine(qk ?_ ?_);refine(jg ?_ (ql ?_) z7);refine(v8 ?_);refine(ja ?_);refine(vz (qhx rfl) rfl n_all DL.boot_all ?_);walk_at "A";refine(xr ?_);refine(q7d (N':=["ware","bound"]) (cap:=[none,some 2]) rfl (q5e rfl rfl) (q5d rfl) ?_ (fun _ _ _ _ _=>(xg qem rfl (Or.inl rfl) (.inr rfl))) (fun _ _ _ _ _=>qcw) (fun _ _ _ _ _=>?_));refine(q02 ?_);exact(qc (pv 0));refine(q4q ?_ (q6c ?_));refine(zh c_9 b_9 hr (by decide) rfl ?_);walk_at "A";exact(qc (pv 0));exact qf;refine(q4p q3l ?_ ?_);exact(qc (pv 0));exact(qc (pv 1));exact qf;exact(z0 zr);refine(ql ?_);refine(z0 ?_);refine(vz (qhx rfl) rfl n_all DL.boot_all ?_);walk_at "A";refine(xr ?_);refine(q7d (N':=["lower","higher"]) (cap:=[none,none]) rfl (q5e rfl rfl) (qhw (q81 rfl (q81 rfl qgg))) ?_ (fun _ _ _ _ _=>(qcv rfl (q36 (xg q83 rfl (Or.inl rfl) (.inr rfl)) (q36 (xg q83 rfl (Or.inl rfl) (.inr rfl)) qcu)))) (fun _ _ _ _ _=>qcw) (fun _ _ _ _ _=>?_));refine(qod rfl n_zip ?_);walk_at "A";exact(qc (pv 0));walk_at "A";refine(qd2 ?_ (qd1 qi) qd0);exact(qc (pv 0));exact qf;refine(q4p q3l ?_ ?_);exact(qc (pv 0));exact(qc (pv 1));exact qf
theorem qif{fa:Addr}{dV:Value}{fd:FuncData}(F:Fun2 K "is_set" "is_set" ky dV fa fd){a_is_number:Addr}{fd_is_number:FuncData}(c_9:Cal P w K mg base "is_number" 1 ["thing"] 1 jt a_is_number fd_is_number)(b_9:Binds K fd_is_number ["thing"] [])(n_min:mg "min" = none)(n_all:mg "all" = none)(n_isinstance:mg "isinstance" = none)(n_tuple:mg "tuple" = none)(n_zip:mg "zip" = none)(g_MOST_WARES:∃t,mg "MOST_WARES" = some (.int 12 t)): FnOk P w K mg base CX0 2 fa fd ["thing","wares"] (spD K 2 y9):=
 F.okn (k:=1) (n:=3) (ar:=2) (k1:=2) (u:=q5t) qie rfl rfl rfl fun cdv A outer s H E hr=>(by first|(with_reducible exact qb8 c_9 b_9 n_min n_all n_isinstance n_tuple n_zip g_MOST_WARES hr)|exact qb8 c_9 b_9 n_min n_all n_isinstance n_tuple n_zip g_MOST_WARES hr)
abbrev q22:Stmt:=top 10
noncomputable def q8k:List Str:=["thing","wares"]
theorem qig:(q8k).Nodup:=by decide +kernel
theorem qih:FnScope q8k ["thing","wares"] (qg q22):=⟨rfl,rfl,rfl,qig,rfl,by decide +kernel,by decide +kernel⟩
noncomputable def q3r:FS:=(qu (sIf (bOr (xl (bT (q13 .tuple (eV 0)))) (j9 qa2 (qm q1j (qa (eV 0) qh)) (eC (.int 2)))) (zj (eC (.bl false))) zo) (zj (q1z (qm (qq 3 [] zc) (qa (eOp oIx (eV 0) (eC (.int 0))) (qa (eC (.int 1)) (qa (eC (.int 1000000000000)) qh)))) (qm (qq 2 [] y9) (qa (eOp oIx (eV 0) (eC (.int 1))) (qa (eV 1) qh))))))
noncomputable def jc:List D->Option D:=jr 2 q3r
theorem qb9{fa:Addr}{cdv:Value}{A:Around}{outer:List Env}{s:Shared}{H:Hp}{E:XK}{a_is_within:Addr}{fd_is_within:FuncData}(c_12:Cal P w K mg base "is_within" 2 ["thing","lowest","highest"] 3 zc a_is_within fd_is_within)(b_12:Binds K fd_is_within ["thing","lowest","highest"] []){a_is_set:Addr}{fd_is_set:FuncData}(c_11:Cal P w K mg base "is_set" 2 ["thing","wares"] 2 y9 a_is_set fd_is_set)(b_11:Binds K fd_is_set ["thing","wares"] [])(n_isinstance:mg "isinstance" = none)(n_tuple:mg "tuple" = none)(n_len:mg "len" = none)(g_MOST_MANY:∃t,mg "MOST_MANY" = some (.int 1000000000000 t))(hr:Room 2 (A.deeper (envOfC "is_run" (qg q22) s.heap.objs.size fa cdv))):
  PSs (qx CX0 P w K mg base q8k "is_run" (qg q22) fa cdv A outer s H E).nox (qr q22) (tDS K q3r):=by
 unfold q3r;refine(qk ?_ ?_);refine(jg ?_ (ql ?_) z7);refine(PW.pt (q7b ?_ (q6b ?_)));refine(v8 ?_);refine(ja ?_);refine(q4r .tuple rfl n_isinstance rfl n_tuple DL.boot_tuple ?_);exact(qc (pv 0));refine(ji qhp ?_ qi);refine(vz (q4t) rfl n_len DL.q1c ?_);walk_at "A";exact(qc (pv 0));exact qf;exact(z0 zr);refine(ql ?_);refine(z0 ?_);refine(q4q ?_ (q6c ?_));refine(zh c_12 b_12 hr (by decide) rfl ?_);walk_at "A";refine(xj ?_ qi);exact(qc (pv 0));walk_at "A";exact qi;walk_at "A";exact(yi rfl g_MOST_MANY);exact qf;refine(zh c_11 b_11 hr (by decide) rfl ?_);walk_at "A";refine(xj ?_ qi);exact(qc (pv 0));walk_at "A";exact(qc (pv 1));exact qf
theorem qii{fa:Addr}{dV:Value}{fd:FuncData}(F:Fun2 K "is_run" "is_run" q22 dV fa fd){a_is_within:Addr}{fd_is_within:FuncData}(c_12:Cal P w K mg base "is_within" 2 ["thing","lowest","highest"] 3 zc a_is_within fd_is_within)(b_12:Binds K fd_is_within ["thing","lowest","highest"] []){a_is_set:Addr}{fd_is_set:FuncData}(c_11:Cal P w K mg base "is_set" 2 ["thing","wares"] 2 y9 a_is_set fd_is_set)(b_11:Binds K fd_is_set ["thing","wares"] [])(n_isinstance:mg "isinstance" = none)(n_tuple:mg "tuple" = none)(n_len:mg "len" = none)(g_MOST_MANY:∃t,mg "MOST_MANY" = some (.int 1000000000000 t)): FnOk P w K mg base CX0 3 fa fd ["thing","wares"] (spD K 2 jc):=
 F.okn (k:=2) (n:=2) (ar:=2) (k1:=3) (u:=q3r) qih rfl rfl rfl fun cdv A outer s H E hr=>(by first|(with_reducible exact qb9 c_12 b_12 c_11 b_11 n_isinstance n_tuple n_len g_MOST_MANY hr)|exact qb9 c_12 b_12 c_11 b_11 n_isinstance n_tuple n_len g_MOST_MANY hr)
abbrev z9:Stmt:=q6k 25 3
noncomputable def yt:List Str:=["self","many","basket"]
theorem q6o:(yt).Nodup:=by decide +kernel
theorem q2n:FnScope yt ["self","many","basket"] (qg z9):=⟨rfl,rfl,rfl,q6o,rfl,by decide +kernel,by decide +kernel⟩
noncomputable def yu:FS:=(sIf (xl (bT (qm (qq 2 [] jc) (qa (za (qa (eV 1) (qa (eV 2) qh))) (qa (kr "Store" 0 "wares") qh))))) q05 zo)
noncomputable def z5:Flds->List D->Option (Flds×D):=ko 3 "Store" yu
theorem q6p[Pin]{fa:Addr}{cdv:Value}{A:Around}{outer:List Env}{s:Shared}{H:Hp}{E:XK}{C_Store:Addr}(O_Store:ClsF K "Store" C_Store ["wares","window","runs"]){a_is_run:Addr}{fd_is_run:FuncData}(c_10:Cal P w K mg base "is_run" 3 ["thing","wares"] 2 jc a_is_run fd_is_run)(b_10:Binds K fd_is_run ["thing","wares"] [])(hr:Room 3 (A.deeper (envOfC "Store.check_run" (qg z9) s.heap.objs.size fa cdv))):
  PSs (qx CX0 P w K mg base yt "Store.check_run" (qg z9) fa cdv A outer s H E).nox (qr z9) (tDS K yu):=by
 unfold yu;refine(ql ?_);refine(jg ?_ (ql kn) z7);refine(v8 ?_);refine(ja ?_);refine(zh c_10 b_10 hr (by decide) rfl ?_);walk_at "A";refine(qw ?_);walk_at "A";exact(qc (pv 1));walk_at "A";exact(qc (pv 2));exact qf;walk_at "A";exact(k7 O_Store (by decide) (pv 0));exact qf
theorem q6q{fa:Addr}{dV:Value}{fd:FuncData}(F:Fun2 K "check_run" "Store.check_run" z9 dV fa fd){C_Store:Addr}(O_Store:ClsF K "Store" C_Store ["wares","window","runs"]){a_is_run:Addr}{fd_is_run:FuncData}(c_10:Cal P w K mg base "is_run" 3 ["thing","wares"] 2 jc a_is_run fd_is_run)(b_10:Binds K fd_is_run ["thing","wares"] []): FnOk P w K mg base CX0 4 fa fd ["self","many","basket"] (q14 K "Store" 2 z5):=
 F.okOB (c:="Store") (k:=3) (n:=3) (ar:=2) (k1:=4) (u:=yu) q2n rfl rfl rfl fun Pn cdv A outer s H E hr=>(by exact q6p O_Store c_10 b_10 hr)
noncomputable def xy:FX:=(xIf (xl (bT (qm (qq 2 [] jc) (qa (za (qa (eV 1) (qa (eV 2) qh))) (qa (kr "Store" 0 "wares") qh))))) (q9c "NoRun") kc)
noncomputable def x_Store_check_run:Flds->List D->Option (XV×Flds):=fun fs ds=>(xy (yc 3 "Store" fs ds)).bind fun p=>(yg 0 p.2).bind fun o=>if o.1="Store" then some (p.1,o.2) else none
theorem q6r[Pin]{fa:Addr}{cdv:Value}{A:Around}{outer:List Env}{s:Shared}{H:Hp}{E:XK}{C_Store:Addr}(O_Store:ClsF K "Store" C_Store ["wares","window","runs"]){a_is_run:Addr}{fd_is_run:FuncData}(c_10:Cal P w K mg base "is_run" 3 ["thing","wares"] 2 jc a_is_run fd_is_run)(b_10:Binds K fd_is_run ["thing","wares"] []){C_NoRun:Addr}(e_NoRun:q6g K C_NoRun)(m_NoRun:mg "NoRun" = some (.ref C_NoRun))(ns_NoRun:PySem.W.nsIn K mainGlobals "NoRun" = some (some (.ref C_NoRun)))(hr:Room 3 (A.deeper (envOfC "Store.check_run" (qg z9) s.heap.objs.size fa cdv))):
  PSs (qx (CXR P w) P w K mg base yt "Store.check_run" (qg z9) fa cdv A outer s H E) (qr z9) (tXS K xy E):=by
 unfold xy;refine(q4w (q9d (PT.nox ?_) (q4w (q8h e_NoRun rfl m_NoRun ns_NoRun)) km));refine(v8 ?_);refine(ja ?_);refine(zh c_10 b_10 hr (by decide) rfl ?_);walk_at "A";refine(qw ?_);walk_at "A";exact(qc (pv 1));walk_at "A";exact(qc (pv 2));exact qf;walk_at "A";exact(k7 O_Store (by decide) (pv 0));exact qf
theorem q66{fa:Addr}{dV:Value}{fd:FuncData}(F:Fun2 K "check_run" "Store.check_run" z9 dV fa fd){C_Store:Addr}(O_Store:ClsF K "Store" C_Store ["wares","window","runs"]){a_is_run:Addr}{fd_is_run:FuncData}(c_10:Cal P w K mg base "is_run" 3 ["thing","wares"] 2 jc a_is_run fd_is_run)(b_10:Binds K fd_is_run ["thing","wares"] []){C_NoRun:Addr}(e_NoRun:q6g K C_NoRun)(m_NoRun:mg "NoRun" = some (.ref C_NoRun))(ns_NoRun:PySem.W.nsIn K mainGlobals "NoRun" = some (some (.ref C_NoRun))): FnOk P w K mg base (CXR P w) 4 fa fd ["self","many","basket"] (kb K "Store" 2 x_Store_check_run):=
 q46 (c:="Store") (k:=3) (n:=3) (v:=xy) F q2n rfl rfl rfl fun Pn cdv A outer s H E hr=>q6r O_Store c_10 b_10 e_NoRun m_NoRun ns_NoRun hr
abbrev ke:Stmt:=top 22
noncomputable def q3s:List Str:=["runs"]
theorem qbp:(q3s).Nodup:=by decide +kernel
theorem qbq:FnScope q3s ["runs"] (qg ke):=⟨rfl,rfl,rfl,qbp,rfl,by decide +kernel,by decide +kernel⟩
theorem q9e:(["run"]:List Str).Nodup:=by decide +kernel
noncomputable def q1p:FS:=(zj (qm qgh (qa (eL (q43 (q12 (eV 0)) [none] (bN 0) q30 (eOp oIx (eV 0) (eC (.int 0))))) qh)))
noncomputable def jn:List D->Option D:=jr 1 q1p
theorem q64{fa:Addr}{cdv:Value}{A:Around}{outer:List Env}{s:Shared}{H:Hp}{E:XK}(n_sum:mg "sum" = none)(hr:Room 0 (A.deeper (envOfC "baskets_of" (qg ke) s.heap.objs.size fa cdv))):
  PSs (qx CX0 P w K mg base q3s "baskets_of" (qg ke) fa cdv A outer s H E).nox (qr ke) (tDS K q1p):=by
 unfold q1p;refine(ql ?_);refine(z0 ?_);refine(vz (qo8 rfl) rfl n_sum DL.boot_sum ?_);walk_at "A";refine(xr ?_);refine(q7d (N':=["run"]) (cap:=[none]) rfl (q5e rfl rfl) (q5d rfl) ?_ (fun _ _ _ _ _=>(xg q9e rfl (Or.inl rfl) (.inr rfl))) (fun _ _ _ _ _=>qcw) (fun _ _ _ _ _=>?_));refine(q02 ?_);exact(qc (pv 0));refine(xj ?_ qi);exact(qc (pv 0));exact qf
theorem qbr{fa:Addr}{dV:Value}{fd:FuncData}(F:Fun2 K "baskets_of" "baskets_of" ke dV fa fd)(n_sum:mg "sum" = none): FnOk P w K mg base CX0 1 fa fd ["runs"] (spD K 1 jn):=
 F.okn (k:=0) (n:=1) (ar:=1) (k1:=1) (u:=q1p) qbq rfl rfl rfl fun cdv A outer s H E hr=>(by first|(with_reducible exact q64 n_sum hr)|exact q64 n_sum hr)
abbrev wd:Stmt:=top 23
noncomputable def q4k:List Str:=["runs","basket"]
theorem qdt:(q4k).Nodup:=by decide +kernel
theorem qdu:FnScope q4k ["runs","basket"] (qg wd):=⟨rfl,rfl,rfl,qdt,rfl,by decide +kernel,by decide +kernel⟩
theorem qaa:(["run","basket"]:List Str).Nodup:=by decide +kernel
noncomputable def q2c:FS:=(zj (eL (q43 (q12 (eV 0)) [none,some 1] (bN 0) (j9 oEq (eOp oIx (eV 0) (eC (.int 1))) (eV 1)) (eV 0))))
noncomputable def vt:List D->Option D:=jr 2 q2c
theorem q6s{fa:Addr}{cdv:Value}{A:Around}{outer:List Env}{s:Shared}{H:Hp}{E:XK}(hr:Room 0 (A.deeper (envOfC "runs_like" (qg wd) s.heap.objs.size fa cdv))):
  PSs (qx CX0 P w K mg base q4k "runs_like" (qg wd) fa cdv A outer s H E).nox (qr wd) (tDS K q2c):=by
 unfold q2c;refine(ql ?_);refine(z0 ?_);refine(xr ?_);refine(q7d (N':=["run","basket"]) (cap:=[none,some 1]) rfl (q5e rfl rfl) (q5d rfl) ?_ (fun _ _ _ _ _=>(xg qaa rfl (Or.inl rfl) (.inr rfl))) (fun _ _ _ _ _=>(qo5 ?_)) (fun _ _ _ _ _=>?_));refine(q02 ?_);exact(qc (pv 0));refine(ji (q31 hr.units) ?_ ?_);refine(xj ?_ qi);exact(qc (pv 0));exact(qc (pv 1));exact(qc (pv 0))
theorem qdv{fa:Addr}{dV:Value}{fd:FuncData}(F:Fun2 K "runs_like" "runs_like" wd dV fa fd): FnOk P w K mg base CX0 1 fa fd ["runs","basket"] (spD K 2 vt):=
 F.okn (k:=0) (n:=2) (ar:=2) (k1:=1) (u:=q2c) qdu rfl rfl rfl fun cdv A outer s H E hr=>(by first|(with_reducible exact q6s  hr)|exact q6s  hr)
abbrev kz:Stmt:=top 24
noncomputable def q8l:List Str:=["runs","number","chosen","gone","kept","left","many","basket","going"]
theorem nd_parted:(q8l).Nodup:=by decide +kernel
theorem qij:FnScope q8l ["runs","number","chosen"] (qg kz):=⟨rfl,rfl,rfl,nd_parted,rfl,by decide +kernel,by decide +kernel⟩
noncomputable def q2d:FS:=(qu (j5 8 (eIf (bOr (j9 (oIs false) (eV 2) (eC .non)) (j9 oEq (eV 7) (eV 2))) (qm oMin (qa (eV 6) (qa (eV 5) qh))) (eC (.int 0)))) (qu (j5 5 (eOp oSub (eV 5) (eV 8))) (qu (sIf (j9 oGt (eV 8) (eC (.int 0))) (q4e 3 (za (qa (eV 8) (qa (eV 7) qh)))) zo) (sIf (j9 oLt' (eV 8) (eV 6)) (q4e 4 (za (qa (eOp oSub (eV 6) (eV 8)) (qa (eV 7) qh)))) zo))))
noncomputable def q5u:FS:=(qu (q6e 3 (jm qh)) (qu (q6e 4 (jm qh)) (qu (j5 5 (eV 1)) (qu (q1i (q12 (eV 0)) (q11 2 (xt (bN 6) (xt (bN 7) q10))) q2d) (q8d 4 (q8d 3 (zj (za (qa (qm q3j (qa (eV 3) qh)) (qa (qm q3j (qa (eV 4) qh)) qh))))))))))
noncomputable def vi:List D->Option D:=jr 9 q5u
theorem qba{fa:Addr}{cdv:Value}{A:Around}{outer:List Env}{s:Shared}{H:Hp}{E:XK}(n_tuple:mg "tuple" = none)(n_min:mg "min" = none)(hr:Room 0 (A.deeper (envOfC "parted" (qg kz) s.heap.objs.size fa cdv))):
  PSs (qx CX0 P w K mg base q8l "parted" (qg kz) fa cdv A outer s H E).nox (qr kz) (tDS K q5u):=by
 unfold q5u q2d;refine(qk ?_ ?_);exact(qcr (i:=3) nd_parted rfl (Or.inl rfl) (zw qf));refine(qk ?_ ?_);exact(qcr (i:=4) nd_parted rfl (Or.inl rfl) (zw qf));refine(qk ?_ ?_);refine(j6 (i:=5) ?_ ?_ ?_ ?_ ?_ ?_);exact nd_parted;exact rfl;exact(Or.inl rfl);exact(qc (pv 1));exact rfl;walk_at "L";refine(qk ?_ ?_);refine(q0r ny rfl ?_ (qcv rfl (q36 (xg nd_parted rfl (Or.inl rfl) (.inl rfl)) (q36 (xg nd_parted rfl (Or.inl rfl) (.inl rfl)) qcu))) (qk ?_ ?_));refine(q02 ?_);exact(qc (pv 0));refine(j6 (i:=8) ?_ ?_ ?_ ?_ ?_ ?_);exact nd_parted;exact rfl;exact(Or.inl rfl);refine(ql6 ?_ ?_ qi);refine(PW.pt (q7b ?_ (q6b ?_)));refine(ji (qgn rfl) ?_ jz);exact(qc (pv 2));refine(ji (q31 hr.units) ?_ ?_);exact(qc (pv 7));exact(qc (pv 2));refine(vz (qhy rfl) rfl n_min DL.boot_min ?_);walk_at "A";exact(qc (pv 6));walk_at "A";exact(qc (pv 5));exact qf;exact rfl;walk_at "L";refine(qk ?_ ?_);refine(qm7 (i:=5) nd_parted rfl (Or.inl rfl) ?_);exact(qc (pv 8));refine(qk ?_ ?_);refine(jg ?_ (ql ?_) z7);refine(ji ql5 ?_ qi);exact(qc (pv 8));refine(q3h (pv 3) ?_);refine(qw ?_);walk_at "A";exact(qc (pv 8));walk_at "A";exact(qc (pv 7));exact qf;refine(ql ?_);refine(jg ?_ (ql ?_) z7);refine(ji q3l ?_ ?_);exact(qc (pv 8));exact(qc (pv 6));refine(q3h (pv 4) ?_);refine(qw ?_);walk_at "A";refine(qt q3g ?_ ?_);exact(qc (pv 6));exact(qc (pv 8));walk_at "A";exact(qc (pv 7));exact qf;refine(qcs 4 (qcs 3 (ql ?_)));refine(z0 ?_);refine(qw ?_);walk_at "A";refine(q6d (q8e) rfl n_tuple DL.boot_tuple ?_);walk_at "A";exact(qc (pv 3));exact qf;walk_at "A";refine(q6d (q8e) rfl n_tuple DL.boot_tuple ?_);walk_at "A";exact(qc (pv 4));exact qf;exact qf
theorem qik{fa:Addr}{dV:Value}{fd:FuncData}(F:Fun2 K "parted" "parted" kz dV fa fd)(n_tuple:mg "tuple" = none)(n_min:mg "min" = none): FnOk P w K mg base CX0 1 fa fd ["runs","number","chosen"] (spD K 3 vi):=
 F.okn (k:=0) (n:=9) (ar:=3) (k1:=1) (u:=q5u) qij rfl rfl rfl fun cdv A outer s H E hr=>(by first|(with_reducible exact qba n_tuple n_min hr)|exact qba n_tuple n_min hr)
abbrev j8:Stmt:=q6k 25 2
noncomputable def q1q:List Str:=["self","many","basket","there"]
theorem q2r:(q1q).Nodup:=by decide +kernel
theorem q65:FnScope q1q ["self","many","basket"] (qg j8):=⟨rfl,rfl,rfl,q2r,rfl,by decide +kernel,by decide +kernel⟩
noncomputable def q1r:FS:=(qu (y0 (xn "Store" "check_run" 0 2 z5 (qa (eV 1) (qa (eV 2) qh)))) (qu (j5 3 (qm (qq 1 [] jn) (qa (qm (qq 2 [] vt) (qa (kr "Store" 0 "runs") (qa (eV 2) qh))) qh))) (qu (sIf (j9 oLt' (eV 3) (eV 1)) q05 zo) (q44 "Store" 0 "runs" (eOp oIx (qm (qq 3 [] vi) (qa (kr "Store" 0 "runs") (qa (eV 1) (qa (eV 2) qh)))) (eC (.int 1)))))))
noncomputable def je:Flds->List D->Option (Flds×D):=ko 4 "Store" q1r
theorem qbs[Pin]{fa:Addr}{cdv:Value}{A:Around}{outer:List Env}{s:Shared}{H:Hp}{E:XK}{C_Store:Addr}(O_Store:ClsF K "Store" C_Store ["wares","window","runs"]){a_Store_check_run:Addr}{fd_Store_check_run:FuncData}(c_2:CalF P w K mg base "Store" "check_run" C_Store 4 ["self","many","basket"] 2 z5 a_Store_check_run fd_Store_check_run)(b_2:Binds K fd_Store_check_run ["self","many","basket"] []){a_baskets_of:Addr}{fd_baskets_of:FuncData}(c_8:Cal P w K mg base "baskets_of" 1 ["runs"] 1 jn a_baskets_of fd_baskets_of)(b_8:Binds K fd_baskets_of ["runs"] []){a_runs_like:Addr}{fd_runs_like:FuncData}(c_26:Cal P w K mg base "runs_like" 1 ["runs","basket"] 2 vt a_runs_like fd_runs_like)(b_26:Binds K fd_runs_like ["runs","basket"] []){a_parted:Addr}{fd_parted:FuncData}(c_25:Cal P w K mg base "parted" 1 ["runs","number","chosen"] 3 vi a_parted fd_parted)(b_25:Binds K fd_parted ["runs","number","chosen"] [])(hr:Room 4 (A.deeper (envOfC "Store.take" (qg j8) s.heap.objs.size fa cdv))):
  PSs (qx CX0 P w K mg base q1q "Store.take" (qg j8) fa cdv A outer s H E).nox (qr j8) (tDS K q1r):=by
 unfold q1r;refine(qk ?_ ?_);refine(yp ?_);refine(k8 O_Store c_2 b_2 hr (by decide) (pv 0) ?_);walk_at "A";exact(qc (pv 1));walk_at "A";exact(qc (pv 2));exact qf;refine(qk ?_ ?_);refine(j6 (i:=3) ?_ ?_ ?_ ?_ ?_ ?_);exact q2r;exact rfl;exact(Or.inl rfl);refine(zh c_8 b_8 hr (by decide) rfl ?_);walk_at "A";refine(zh c_26 b_26 hr (by decide) rfl ?_);walk_at "A";exact(k7 O_Store (by decide) (pv 0));walk_at "A";exact(qc (pv 2));exact qf;exact qf;exact rfl;walk_at "L";refine(qk ?_ ?_);refine(jg ?_ (ql kn) z7);refine(ji q3l ?_ ?_);exact(qc (pv 3));exact(qc (pv 1));refine(ql ?_);refine(q6h O_Store (by decide) (pv 0) ?_);refine(xj ?_ qi);refine(zh c_25 b_25 hr (by decide) rfl ?_);walk_at "A";exact(k7 O_Store (by decide) (pv 0));walk_at "A";exact(qc (pv 1));walk_at "A";exact(qc (pv 2));exact qf
theorem qbt{fa:Addr}{dV:Value}{fd:FuncData}(F:Fun2 K "take" "Store.take" j8 dV fa fd){C_Store:Addr}(O_Store:ClsF K "Store" C_Store ["wares","window","runs"]){a_Store_check_run:Addr}{fd_Store_check_run:FuncData}(c_2:CalF P w K mg base "Store" "check_run" C_Store 4 ["self","many","basket"] 2 z5 a_Store_check_run fd_Store_check_run)(b_2:Binds K fd_Store_check_run ["self","many","basket"] []){a_baskets_of:Addr}{fd_baskets_of:FuncData}(c_8:Cal P w K mg base "baskets_of" 1 ["runs"] 1 jn a_baskets_of fd_baskets_of)(b_8:Binds K fd_baskets_of ["runs"] []){a_runs_like:Addr}{fd_runs_like:FuncData}(c_26:Cal P w K mg base "runs_like" 1 ["runs","basket"] 2 vt a_runs_like fd_runs_like)(b_26:Binds K fd_runs_like ["runs","basket"] []){a_parted:Addr}{fd_parted:FuncData}(c_25:Cal P w K mg base "parted" 1 ["runs","number","chosen"] 3 vi a_parted fd_parted)(b_25:Binds K fd_parted ["runs","number","chosen"] []): FnOk P w K mg base CX0 5 fa fd ["self","many","basket"] (q14 K "Store" 2 je):=
 F.okOB (c:="Store") (k:=4) (n:=4) (ar:=2) (k1:=5) (u:=q1r) q65 rfl rfl rfl fun Pn cdv A outer s H E hr=>(by exact qbs O_Store c_2 b_2 c_8 b_8 c_26 b_26 c_25 b_25 hr)
noncomputable def kf:FX:=(q16 (y0 (xn "Store" "check_run" 0 2 z5 (qa (eV 1) (qa (eV 2) qh)))) (q1n "Store" "check_run" 0 2 x_Store_check_run (qa (eV 1) (qa (eV 2) qh))) (q16 (j5 3 (qm (qq 1 [] jn) (qa (qm (qq 2 [] vt) (qa (kr "Store" 0 "runs") (qa (eV 2) qh))) qh))) kc (q16 (sIf (j9 oLt' (eV 3) (eV 1)) q05 zo) (xIf (j9 oLt' (eV 3) (eV 1)) (q4x "NotThere" "there" (eV 3)) kc) kc)))
noncomputable def x_Store_take:Flds->List D->Option (XV×Flds):=fun fs ds=>(kf (yc 4 "Store" fs ds)).bind fun p=>(yg 0 p.2).bind fun o=>if o.1="Store" then some (p.1,o.2) else none
theorem qbu[Pin]{fa:Addr}{cdv:Value}{A:Around}{outer:List Env}{s:Shared}{H:Hp}{E:XK}{C_Store:Addr}(O_Store:ClsF K "Store" C_Store ["wares","window","runs"]){a_Store_check_run:Addr}{fd_Store_check_run:FuncData}(c_2:CalF P w K mg base "Store" "check_run" C_Store 4 ["self","many","basket"] 2 z5 a_Store_check_run fd_Store_check_run)(b_2:Binds K fd_Store_check_run ["self","many","basket"] []){a_baskets_of:Addr}{fd_baskets_of:FuncData}(c_8:Cal P w K mg base "baskets_of" 1 ["runs"] 1 jn a_baskets_of fd_baskets_of)(b_8:Binds K fd_baskets_of ["runs"] []){a_runs_like:Addr}{fd_runs_like:FuncData}(c_26:Cal P w K mg base "runs_like" 1 ["runs","basket"] 2 vt a_runs_like fd_runs_like)(b_26:Binds K fd_runs_like ["runs","basket"] []){a_parted:Addr}{fd_parted:FuncData}(c_25:Cal P w K mg base "parted" 1 ["runs","number","chosen"] 3 vi a_parted fd_parted)(b_25:Binds K fd_parted ["runs","number","chosen"] [])(gr_Store_check_run:FnOk P w K mg base (CXR P w) 4 a_Store_check_run fd_Store_check_run ["self","many","basket"] (kb K "Store" 2 x_Store_check_run)){C_NotThere fI_NotThere:Addr}{fdI_NotThere:FuncData}(ei_NotThere:y6 K C_NotThere fI_NotThere=true)(gI_NotThere:FnOk P w K mg base CX0 1 fI_NotThere fdI_NotThere ["self","there"] (spI C_NotThere "there"))(bI_NotThere:Binds K fdI_NotThere ["self","there"] [])(tI_NotThere:PySem.W.typeIn K (.ref fI_NotThere)=some (.type "function"))(kp_NotThere:PySem.W.keepIn K (.ref C_NotThere)=true)(m_NotThere:mg "NotThere" = some (.ref C_NotThere))(ns_NotThere:PySem.W.nsIn K mainGlobals "NotThere" = some (some (.ref C_NotThere)))(hr:Room 4 (A.deeper (envOfC "Store.take" (qg j8) s.heap.objs.size fa cdv))):
  PSs (qx (CXR P w) P w K mg base q1q "Store.take" (qg j8) fa cdv A outer s H E) (qr j8) (tXS K kf E):=by
 unfold kf;refine(q3p (PS.nox ?_) (qfk (qfj O_Store gr_Store_check_run c_2.me b_2 hr (by decide) (pv 0) ?_)) (q3p (PS.nox ?_) qkb (q3p (PS.nox ?_) (q9d (PT.nox ?_) (q4w (qb7 ei_NotThere gI_NotThere bI_NotThere tI_NotThere kp_NotThere hr (by decide) rfl m_NotThere ns_NotThere ?_)) km) km)));refine(yp ?_);refine(k8 O_Store c_2 b_2 hr (by decide) (pv 0) ?_);walk_at "A";exact(qc (pv 1));walk_at "A";exact(qc (pv 2));exact qf;walk_at "A";exact(qc (pv 1));walk_at "A";exact(qc (pv 2));exact qf;refine(j6 (i:=3) ?_ ?_ ?_ ?_ ?_ ?_);exact q2r;exact rfl;exact(Or.inl rfl);refine(zh c_8 b_8 hr (by decide) rfl ?_);walk_at "A";refine(zh c_26 b_26 hr (by decide) rfl ?_);walk_at "A";exact(k7 O_Store (by decide) (pv 0));walk_at "A";exact(qc (pv 2));exact qf;exact qf;exact rfl;walk_at "L";refine(jg ?_ (ql kn) z7);refine(ji q3l ?_ ?_);exact(qc (pv 3));exact(qc (pv 1));refine(ji q3l ?_ ?_);exact(qc (pv 3));exact(qc (pv 1));exact(qc (pv 3))
theorem qab{fa:Addr}{dV:Value}{fd:FuncData}(F:Fun2 K "take" "Store.take" j8 dV fa fd){C_Store:Addr}(O_Store:ClsF K "Store" C_Store ["wares","window","runs"]){a_Store_check_run:Addr}{fd_Store_check_run:FuncData}(c_2:CalF P w K mg base "Store" "check_run" C_Store 4 ["self","many","basket"] 2 z5 a_Store_check_run fd_Store_check_run)(b_2:Binds K fd_Store_check_run ["self","many","basket"] []){a_baskets_of:Addr}{fd_baskets_of:FuncData}(c_8:Cal P w K mg base "baskets_of" 1 ["runs"] 1 jn a_baskets_of fd_baskets_of)(b_8:Binds K fd_baskets_of ["runs"] []){a_runs_like:Addr}{fd_runs_like:FuncData}(c_26:Cal P w K mg base "runs_like" 1 ["runs","basket"] 2 vt a_runs_like fd_runs_like)(b_26:Binds K fd_runs_like ["runs","basket"] []){a_parted:Addr}{fd_parted:FuncData}(c_25:Cal P w K mg base "parted" 1 ["runs","number","chosen"] 3 vi a_parted fd_parted)(b_25:Binds K fd_parted ["runs","number","chosen"] [])(gr_Store_check_run:FnOk P w K mg base (CXR P w) 4 a_Store_check_run fd_Store_check_run ["self","many","basket"] (kb K "Store" 2 x_Store_check_run)){C_NotThere fI_NotThere:Addr}{fdI_NotThere:FuncData}(ei_NotThere:y6 K C_NotThere fI_NotThere=true)(gI_NotThere:FnOk P w K mg base CX0 1 fI_NotThere fdI_NotThere ["self","there"] (spI C_NotThere "there"))(bI_NotThere:Binds K fdI_NotThere ["self","there"] [])(tI_NotThere:PySem.W.typeIn K (.ref fI_NotThere)=some (.type "function"))(kp_NotThere:PySem.W.keepIn K (.ref C_NotThere)=true)(m_NotThere:mg "NotThere" = some (.ref C_NotThere))(ns_NotThere:PySem.W.nsIn K mainGlobals "NotThere" = some (some (.ref C_NotThere))): FnOk P w K mg base (CXR P w) 5 fa fd ["self","many","basket"] (kb K "Store" 2 x_Store_take):=
 q46 (c:="Store") (k:=4) (n:=4) (v:=kf) F q65 rfl rfl rfl fun Pn cdv A outer s H E hr=>qbu O_Store c_2 b_2 c_8 b_8 c_26 b_26 c_25 b_25 gr_Store_check_run ei_NotThere gI_NotThere bI_NotThere tI_NotThere kp_NotThere m_NotThere ns_NotThere hr
abbrev jd:Stmt:=q6k 25 4
noncomputable def q17:List Str:=["self","runs"]
theorem q7s:(q17).Nodup:=by decide +kernel
theorem q7t:FnScope q17 ["self","runs"] (qg jd):=⟨rfl,rfl,rfl,q7s,rfl,by decide +kernel,by decide +kernel⟩
noncomputable def w4:FS:=(zj (eIf (j9 (oIs false) (kr "Store" 0 "window") (eC .non)) (eC (.int 0)) (qm oMax (qa (eC (.int 0)) (qa (eOp oSub (qm (qq 1 [] jn) (qa (eV 1) qh)) (kr "Store" 0 "window")) qh)))))
noncomputable def jx:Flds->List D->Option (Flds×D):=ko 2 "Store" w4
theorem q7u[Pin]{fa:Addr}{cdv:Value}{A:Around}{outer:List Env}{s:Shared}{H:Hp}{E:XK}{C_Store:Addr}(O_Store:ClsF K "Store" C_Store ["wares","window","runs"]){a_baskets_of:Addr}{fd_baskets_of:FuncData}(c_8:Cal P w K mg base "baskets_of" 1 ["runs"] 1 jn a_baskets_of fd_baskets_of)(b_8:Binds K fd_baskets_of ["runs"] [])(n_max:mg "max" = none)(hr:Room 1 (A.deeper (envOfC "Store.too_many" (qg jd) s.heap.objs.size fa cdv))):
  PSs (qx CX0 P w K mg base q17 "Store.too_many" (qg jd) fa cdv A outer s H E).nox (qr jd) (tDS K w4):=by
 unfold w4;refine(ql ?_);refine(z0 ?_);refine(ql6 ?_ qi ?_);refine(ji (qgn rfl) ?_ jz);exact(k7 O_Store (by decide) (pv 0));refine(vz (qo9 rfl) rfl n_max DL.boot_max ?_);walk_at "A";exact qi;walk_at "A";refine(qt q3g ?_ ?_);refine(zh c_8 b_8 hr (by decide) rfl ?_);walk_at "A";exact(qc (pv 1));exact qf;exact(k7 O_Store (by decide) (pv 0));exact qf
theorem q7v{fa:Addr}{dV:Value}{fd:FuncData}(F:Fun2 K "too_many" "Store.too_many" jd dV fa fd){C_Store:Addr}(O_Store:ClsF K "Store" C_Store ["wares","window","runs"]){a_baskets_of:Addr}{fd_baskets_of:FuncData}(c_8:Cal P w K mg base "baskets_of" 1 ["runs"] 1 jn a_baskets_of fd_baskets_of)(b_8:Binds K fd_baskets_of ["runs"] [])(n_max:mg "max" = none): FnOk P w K mg base CX0 2 fa fd ["self","runs"] (q14 K "Store" 1 jx):=
 F.okOB (c:="Store") (k:=1) (n:=2) (ar:=1) (k1:=2) (u:=w4) q7t rfl rfl rfl fun Pn cdv A outer s H E hr=>(by exact q7u O_Store c_8 b_8 n_max hr)
abbrev jh:Stmt:=q6k 25 1
noncomputable def q2e:List Str:=["self","many","basket","runs","halves"]
theorem q3t:(q2e).Nodup:=by decide +kernel
theorem q6t:FnScope q2e ["self","many","basket"] (qg jh):=⟨rfl,rfl,rfl,q3t,rfl,by decide +kernel,by decide +kernel⟩
noncomputable def q2f:FS:=(qu (y0 (xn "Store" "check_run" 0 2 z5 (qa (eV 1) (qa (eV 2) qh)))) (qu (sIf (j9 oGe (qm q1j (qa (kr "Store" 0 "runs") qh)) (eC (.int 200))) q05 zo) (qu (j5 3 (eOp jk (kr "Store" 0 "runs") (za (qa (za (qa (eV 1) (qa (eV 2) qh))) qh)))) (qu (q7k 4 (yr (qq 3 [.non] vi) (w9 (mP (eV 3)) (w9 (xn "Store" "too_many" 0 1 jx (qa (eV 3) qh)) (amP qh))))) (qu (q44 "Store" 0 "runs" (eOp oIx (eV 4) (eC (.int 1)))) (zj (eOp oIx (eV 4) (eC (.int 0)))))))))
noncomputable def zp:Flds->List D->Option (Flds×D):=ko 5 "Store" q2f
theorem qdw[Pin]{fa:Addr}{cdv:Value}{A:Around}{outer:List Env}{s:Shared}{H:Hp}{E:XK}{C_Store:Addr}(O_Store:ClsF K "Store" C_Store ["wares","window","runs"]){a_Store_check_run:Addr}{fd_Store_check_run:FuncData}(c_2:CalF P w K mg base "Store" "check_run" C_Store 4 ["self","many","basket"] 2 z5 a_Store_check_run fd_Store_check_run)(b_2:Binds K fd_Store_check_run ["self","many","basket"] []){a_parted:Addr}{fd_parted:FuncData}(c_25:Cal P w K mg base "parted" 1 ["runs","number","chosen"] 3 vi a_parted fd_parted){dvs_parted_1:List V}{dv_l_parted_1:List Value}(bd_parted_1:Binds K fd_parted ["runs","number","chosen"] dv_l_parted_1)(dv_parted_1:Vals dvs_parted_1 dv_l_parted_1)(dd_parted_1:∀ {H:Hp},RepL K H [.non] dvs_parted_1){a_Store_too_many:Addr}{fd_Store_too_many:FuncData}(c_6:CalF P w K mg base "Store" "too_many" C_Store 2 ["self","runs"] 1 jx a_Store_too_many fd_Store_too_many)(b_6:Binds K fd_Store_too_many ["self","runs"] [])(n_len:mg "len" = none)(g_MOST_RUNS:∃t,mg "MOST_RUNS" = some (.int 200 t))(hr:Room 4 (A.deeper (envOfC "Store.put" (qg jh) s.heap.objs.size fa cdv))):
  PSs (qx CX0 P w K mg base q2e "Store.put" (qg jh) fa cdv A outer s H E).nox (qr jh) (tDS K q2f):=by
 unfold q2f;refine(qk ?_ ?_);refine(yp ?_);refine(k8 O_Store c_2 b_2 hr (by decide) (pv 0) ?_);walk_at "A";exact(qc (pv 1));walk_at "A";exact(qc (pv 2));exact qf;refine(qk ?_ ?_);refine(jg ?_ (ql kn) z7);refine(ji qca ?_ ?_);refine(vz (q4t) rfl n_len DL.q1c ?_);walk_at "A";exact(k7 O_Store (by decide) (pv 0));exact qf;exact(yi rfl g_MOST_RUNS);refine(qk ?_ ?_);refine(j6 (i:=3) ?_ ?_ ?_ ?_ ?_ ?_);exact q3t;exact rfl;exact(Or.inl rfl);refine(qt j7 ?_ ?_);exact(k7 O_Store (by decide) (pv 0));refine(qw ?_);walk_at "A";refine(qw ?_);walk_at "A";exact(qc (pv 1));walk_at "A";exact(qc (pv 2));exact qf;exact qf;exact rfl;walk_at "L";refine(qk ?_ ?_);refine(qa7 (i:=4) q3t rfl (Or.inl rfl) ?_);refine(qmb c_25 bd_parted_1 dv_parted_1 (fun _=>dd_parted_1) hr (by decide) rfl (q1e ?_ ?_));refine(vv ?_);exact(qc (pv 3));refine(q1e ?_ ?_);refine(k8 O_Store c_6 b_6 hr (by decide) (pv 0) ?_);walk_at "A";exact(qc (pv 3));exact qf;exact(q21 qf);refine(qk ?_ ?_);refine(q6h O_Store (by decide) (pv 0) ?_);refine(xj ?_ qi);exact(qc (pv 4));refine(ql ?_);refine(z0 ?_);refine(xj ?_ qi);exact(qc (pv 4))
theorem qdx{fa:Addr}{dV:Value}{fd:FuncData}(F:Fun2 K "put" "Store.put" jh dV fa fd){C_Store:Addr}(O_Store:ClsF K "Store" C_Store ["wares","window","runs"]){a_Store_check_run:Addr}{fd_Store_check_run:FuncData}(c_2:CalF P w K mg base "Store" "check_run" C_Store 4 ["self","many","basket"] 2 z5 a_Store_check_run fd_Store_check_run)(b_2:Binds K fd_Store_check_run ["self","many","basket"] []){a_parted:Addr}{fd_parted:FuncData}(c_25:Cal P w K mg base "parted" 1 ["runs","number","chosen"] 3 vi a_parted fd_parted){dvs_parted_1:List V}{dv_l_parted_1:List Value}(bd_parted_1:Binds K fd_parted ["runs","number","chosen"] dv_l_parted_1)(dv_parted_1:Vals dvs_parted_1 dv_l_parted_1)(dd_parted_1:∀ {H:Hp},RepL K H [.non] dvs_parted_1){a_Store_too_many:Addr}{fd_Store_too_many:FuncData}(c_6:CalF P w K mg base "Store" "too_many" C_Store 2 ["self","runs"] 1 jx a_Store_too_many fd_Store_too_many)(b_6:Binds K fd_Store_too_many ["self","runs"] [])(n_len:mg "len" = none)(g_MOST_RUNS:∃t,mg "MOST_RUNS" = some (.int 200 t)): FnOk P w K mg base CX0 5 fa fd ["self","many","basket"] (q14 K "Store" 2 zp):=
 F.okOB (c:="Store") (k:=4) (n:=5) (ar:=2) (k1:=5) (u:=q2f) q6t rfl rfl rfl fun Pn cdv A outer s H E hr=>(by exact qdw O_Store c_2 b_2 c_25 bd_parted_1 dv_parted_1 dd_parted_1 c_6 b_6 n_len g_MOST_RUNS hr)
noncomputable def we:FX:=(q16 (y0 (xn "Store" "check_run" 0 2 z5 (qa (eV 1) (qa (eV 2) qh)))) (q1n "Store" "check_run" 0 2 x_Store_check_run (qa (eV 1) (qa (eV 2) qh))) (q16 (sIf (j9 oGe (qm q1j (qa (kr "Store" 0 "runs") qh)) (eC (.int 200))) q05 zo) (xIf (j9 oGe (qm q1j (qa (kr "Store" 0 "runs") qh)) (eC (.int 200))) (q4x "TooGreat" "most" (eC (.int 200))) kc) kc))
noncomputable def x_Store_put:Flds->List D->Option (XV×Flds):=fun fs ds=>(we (yc 5 "Store" fs ds)).bind fun p=>(yg 0 p.2).bind fun o=>if o.1="Store" then some (p.1,o.2) else none
theorem qdy[Pin]{fa:Addr}{cdv:Value}{A:Around}{outer:List Env}{s:Shared}{H:Hp}{E:XK}{C_Store:Addr}(O_Store:ClsF K "Store" C_Store ["wares","window","runs"]){a_Store_check_run:Addr}{fd_Store_check_run:FuncData}(c_2:CalF P w K mg base "Store" "check_run" C_Store 4 ["self","many","basket"] 2 z5 a_Store_check_run fd_Store_check_run)(b_2:Binds K fd_Store_check_run ["self","many","basket"] []){a_parted:Addr}{fd_parted:FuncData}(c_25:Cal P w K mg base "parted" 1 ["runs","number","chosen"] 3 vi a_parted fd_parted){dvs_parted_1:List V}{dv_l_parted_1:List Value}(bd_parted_1:Binds K fd_parted ["runs","number","chosen"] dv_l_parted_1)(dv_parted_1:Vals dvs_parted_1 dv_l_parted_1)(dd_parted_1:∀ {H:Hp},RepL K H [.non] dvs_parted_1){a_Store_too_many:Addr}{fd_Store_too_many:FuncData}(c_6:CalF P w K mg base "Store" "too_many" C_Store 2 ["self","runs"] 1 jx a_Store_too_many fd_Store_too_many)(b_6:Binds K fd_Store_too_many ["self","runs"] [])(n_len:mg "len" = none)(g_MOST_RUNS:∃t,mg "MOST_RUNS" = some (.int 200 t))(gr_Store_check_run:FnOk P w K mg base (CXR P w) 4 a_Store_check_run fd_Store_check_run ["self","many","basket"] (kb K "Store" 2 x_Store_check_run)){C_TooGreat fI_TooGreat:Addr}{fdI_TooGreat:FuncData}(ei_TooGreat:y6 K C_TooGreat fI_TooGreat=true)(gI_TooGreat:FnOk P w K mg base CX0 1 fI_TooGreat fdI_TooGreat ["self","most"] (spI C_TooGreat "most"))(bI_TooGreat:Binds K fdI_TooGreat ["self","most"] [])(tI_TooGreat:PySem.W.typeIn K (.ref fI_TooGreat)=some (.type "function"))(kp_TooGreat:PySem.W.keepIn K (.ref C_TooGreat)=true)(m_TooGreat:mg "TooGreat" = some (.ref C_TooGreat))(ns_TooGreat:PySem.W.nsIn K mainGlobals "TooGreat" = some (some (.ref C_TooGreat)))(hr:Room 4 (A.deeper (envOfC "Store.put" (qg jh) s.heap.objs.size fa cdv))):
  PSs (qx (CXR P w) P w K mg base q2e "Store.put" (qg jh) fa cdv A outer s H E) (qr jh) (tXS K we E):=by
 unfold we;refine(q3p (PS.nox ?_) (qfk (qfj O_Store gr_Store_check_run c_2.me b_2 hr (by decide) (pv 0) ?_)) (q3p (PS.nox ?_) (q9d (PT.nox ?_) (q4w (qb7 ei_TooGreat gI_TooGreat bI_TooGreat tI_TooGreat kp_TooGreat hr (by decide) rfl m_TooGreat ns_TooGreat ?_)) km) km));refine(yp ?_);refine(k8 O_Store c_2 b_2 hr (by decide) (pv 0) ?_);walk_at "A";exact(qc (pv 1));walk_at "A";exact(qc (pv 2));exact qf;walk_at "A";exact(qc (pv 1));walk_at "A";exact(qc (pv 2));exact qf;refine(jg ?_ (ql kn) z7);refine(ji qca ?_ ?_);refine(vz (q4t) rfl n_len DL.q1c ?_);walk_at "A";exact(k7 O_Store (by decide) (pv 0));exact qf;exact(yi rfl g_MOST_RUNS);refine(ji qca ?_ ?_);refine(vz (q4t) rfl n_len DL.q1c ?_);walk_at "A";exact(k7 O_Store (by decide) (pv 0));exact qf;exact(yi rfl g_MOST_RUNS);exact(yi rfl g_MOST_RUNS)
theorem qbv{fa:Addr}{dV:Value}{fd:FuncData}(F:Fun2 K "put" "Store.put" jh dV fa fd){C_Store:Addr}(O_Store:ClsF K "Store" C_Store ["wares","window","runs"]){a_Store_check_run:Addr}{fd_Store_check_run:FuncData}(c_2:CalF P w K mg base "Store" "check_run" C_Store 4 ["self","many","basket"] 2 z5 a_Store_check_run fd_Store_check_run)(b_2:Binds K fd_Store_check_run ["self","many","basket"] []){a_parted:Addr}{fd_parted:FuncData}(c_25:Cal P w K mg base "parted" 1 ["runs","number","chosen"] 3 vi a_parted fd_parted){dvs_parted_1:List V}{dv_l_parted_1:List Value}(bd_parted_1:Binds K fd_parted ["runs","number","chosen"] dv_l_parted_1)(dv_parted_1:Vals dvs_parted_1 dv_l_parted_1)(dd_parted_1:∀ {H:Hp},RepL K H [.non] dvs_parted_1){a_Store_too_many:Addr}{fd_Store_too_many:FuncData}(c_6:CalF P w K mg base "Store" "too_many" C_Store 2 ["self","runs"] 1 jx a_Store_too_many fd_Store_too_many)(b_6:Binds K fd_Store_too_many ["self","runs"] [])(n_len:mg "len" = none)(g_MOST_RUNS:∃t,mg "MOST_RUNS" = some (.int 200 t))(gr_Store_check_run:FnOk P w K mg base (CXR P w) 4 a_Store_check_run fd_Store_check_run ["self","many","basket"] (kb K "Store" 2 x_Store_check_run)){C_TooGreat fI_TooGreat:Addr}{fdI_TooGreat:FuncData}(ei_TooGreat:y6 K C_TooGreat fI_TooGreat=true)(gI_TooGreat:FnOk P w K mg base CX0 1 fI_TooGreat fdI_TooGreat ["self","most"] (spI C_TooGreat "most"))(bI_TooGreat:Binds K fdI_TooGreat ["self","most"] [])(tI_TooGreat:PySem.W.typeIn K (.ref fI_TooGreat)=some (.type "function"))(kp_TooGreat:PySem.W.keepIn K (.ref C_TooGreat)=true)(m_TooGreat:mg "TooGreat" = some (.ref C_TooGreat))(ns_TooGreat:PySem.W.nsIn K mainGlobals "TooGreat" = some (some (.ref C_TooGreat))): FnOk P w K mg base (CXR P w) 5 fa fd ["self","many","basket"] (kb K "Store" 2 x_Store_put):=
 q46 (c:="Store") (k:=4) (n:=5) (v:=we) F q6t rfl rfl rfl fun Pn cdv A outer s H E hr=>qdy O_Store c_2 b_2 c_25 bd_parted_1 dv_parted_1 dd_parted_1 c_6 b_6 n_len g_MOST_RUNS gr_Store_check_run ei_TooGreat gI_TooGreat bI_TooGreat tI_TooGreat kp_TooGreat m_TooGreat ns_TooGreat hr
abbrev xv:Stmt:=q6k 25 5
noncomputable def q3u:List Str:=["self"]
theorem qbw:(q3u).Nodup:=by decide +kernel
theorem qbx:FnScope q3u ["self"] (qg xv):=⟨rfl,rfl,rfl,qbw,rfl,by decide +kernel,by decide +kernel⟩
noncomputable def q1s:FS:=(zj (za (qa (kr "Store" 0 "wares") (qa (kr "Store" 0 "runs") qh))))
noncomputable def z6:Flds->List D->Option (Flds×D):=ko 1 "Store" q1s
theorem qby[Pin]{fa:Addr}{cdv:Value}{A:Around}{outer:List Env}{s:Shared}{H:Hp}{E:XK}{C_Store:Addr}(O_Store:ClsF K "Store" C_Store ["wares","window","runs"])(hr:Room 0 (A.deeper (envOfC "Store.pile" (qg xv) s.heap.objs.size fa cdv))):
  PSs (qx CX0 P w K mg base q3u "Store.pile" (qg xv) fa cdv A outer s H E).nox (qr xv) (tDS K q1s):=by
 unfold q1s;refine(ql ?_);refine(z0 ?_);refine(qw ?_);walk_at "A";exact(k7 O_Store (by decide) (pv 0));walk_at "A";exact(k7 O_Store (by decide) (pv 0));exact qf
theorem qbz{fa:Addr}{dV:Value}{fd:FuncData}(F:Fun2 K "pile" "Store.pile" xv dV fa fd){C_Store:Addr}(O_Store:ClsF K "Store" C_Store ["wares","window","runs"]): FnOk P w K mg base CX0 1 fa fd ["self"] (q14 K "Store" 0 z6):=
 F.okOB (c:="Store") (k:=0) (n:=1) (ar:=0) (k1:=1) (u:=q1s) qbx rfl rfl rfl fun Pn cdv A outer s H E hr=>(by exact qby O_Store hr)
abbrev q23:Stmt:=top 33
noncomputable def q8m:List Str:=["_law_found","_law_word","_law_number"]
theorem qil:(q8m).Nodup:=by decide +kernel
theorem qim:FnScope q8m ["_law_found","_law_word","_law_number"] (qg q23):=⟨rfl,rfl,rfl,qil,rfl,by decide +kernel,by decide +kernel⟩
noncomputable def q5v:FS:=(qu (sIf (bOr (j9 qdf (eOp oIx (eV 0) (eC (.int 0))) (eL (jm (qa (eV 1) qh)))) (bOr (xl (bT (q13 .int (eOp oIx (eV 0) (eC (.int 1)))))) (bT (q13 .bool (eOp oIx (eV 0) (eC (.int 1))))))) (zj (eC (.bl false))) zo) (zj (eOp oEq (eOp oIx (eV 0) (eC (.int 1))) (eV 2))))
noncomputable def va:List D->Option D:=jr 3 q5v
theorem qbb{fa:Addr}{cdv:Value}{A:Around}{outer:List Env}{s:Shared}{H:Hp}{E:XK}(n_isinstance:mg "isinstance" = none)(n_bool:mg "bool" = none)(n_int:mg "int" = none)(hr:Room 0 (A.deeper (envOfC "_law_is" (qg q23) s.heap.objs.size fa cdv))):
  PSs (qx CX0 P w K mg base q8m "_law_is" (qg q23) fa cdv A outer s H E).nox (qr q23) (tDS K q5v):=by
 unfold q5v;refine(qk ?_ ?_);refine(jg ?_ (ql ?_) z7);refine(PW.pt (q7b ?_ (q7b ?_ (q6b ?_))));refine(ji (qi6 hr.units) ?_ ?_);refine(xj ?_ qi);exact(qc (pv 0));refine(xr ?_);refine(zw ?_);walk_at "A";exact(qc (pv 1));exact qf;refine(v8 ?_);refine(ja ?_);refine(q4r .int rfl n_isinstance rfl n_int DL.boot_int ?_);refine(xj ?_ qi);exact(qc (pv 0));refine(ja ?_);refine(q4r .bool rfl n_isinstance rfl n_bool DL.boot_bool ?_);refine(xj ?_ qi);exact(qc (pv 0));exact(z0 zr);refine(ql ?_);refine(z0 ?_);refine(q4p (q31 hr.units) ?_ ?_);refine(xj ?_ qi);exact(qc (pv 0));exact(qc (pv 2))
theorem qin{fa:Addr}{dV:Value}{fd:FuncData}(F:Fun2 K "_law_is" "_law_is" q23 dV fa fd)(n_isinstance:mg "isinstance" = none)(n_bool:mg "bool" = none)(n_int:mg "int" = none): FnOk P w K mg base CX0 1 fa fd ["_law_found","_law_word","_law_number"] (spD K 3 va):=
 F.okn (k:=0) (n:=3) (ar:=3) (k1:=1) (u:=q5v) qim rfl rfl rfl fun cdv A outer s H E hr=>(by first|(with_reducible exact qbb n_isinstance n_bool n_int hr)|exact qbb n_isinstance n_bool n_int hr)
abbrev wg:Stmt:=top 28
noncomputable def q4l:List Str:=["_law_cell_here","_law_k","_law_first","_law_second"]
theorem q3v:(q4l).Nodup:=by decide +kernel
theorem qdz:FnScope q4l ["_law_cell_here","_law_k"] (qg wg):=⟨rfl,rfl,rfl,q3v,rfl,by decide +kernel,by decide +kernel⟩
noncomputable def q0u:FS:=(qu (j5 2 (eOp oMod (eOp jk (eOp jk (eOp js (eOp oMod (eV 0) (eC (.int 2147483629))) (eC (.int 48271))) (eOp js (eOp js (eV 1) (eV 1)) (eC (.int 7919)))) (eC (.int 104729))) (eC (.int 2147483647)))) (qu (j5 3 (eOp oMod (eOp js (eV 2) (eV 2)) (eC (.int 2147483629)))) (zj (eOp oMod (eOp js (eOp oMod (eOp jk (eOp jk (eOp js (eV 3) (eC (.int 69621))) (eOp js (eV 1) (eC (.int 40692)))) (eC (.int 7))) (eC (.int 2147483587))) (eV 3)) (eC (.int 2147483579))))))
noncomputable def ju:List D->Option D:=jr 4 q0u
theorem q6u{fa:Addr}{cdv:Value}{A:Around}{outer:List Env}{s:Shared}{H:Hp}{E:XK}(hr:Room 0 (A.deeper (envOfC "_law_mixed" (qg wg) s.heap.objs.size fa cdv))):
  PSs (qx CX0 P w K mg base q4l "_law_mixed" (qg wg) fa cdv A outer s H E).nox (qr wg) (tDS K q0u):=by
 unfold q0u;refine(qk ?_ ?_);refine(j6 (i:=2) ?_ ?_ ?_ ?_ ?_ ?_);exact q3v;exact rfl;exact(Or.inl rfl);refine(qt xc ?_ qi);refine(qt j7 ?_ qi);refine(qt j7 ?_ ?_);refine(qt q04 ?_ qi);refine(qt xc ?_ qi);exact(qc (pv 0));refine(qt q04 ?_ qi);refine(qt q04 ?_ ?_);exact(qc (pv 1));exact(qc (pv 1));exact rfl;walk_at "L";refine(qk ?_ ?_);refine(j6 (i:=3) ?_ ?_ ?_ ?_ ?_ ?_);exact q3v;exact rfl;exact(Or.inl rfl);refine(qt xc ?_ qi);refine(qt q04 ?_ ?_);exact(qc (pv 2));exact(qc (pv 2));exact rfl;walk_at "L";refine(ql ?_);refine(z0 ?_);refine(qt xc ?_ qi);refine(qt q04 ?_ ?_);refine(qt xc ?_ qi);refine(qt j7 ?_ qi);refine(qt j7 ?_ ?_);refine(qt q04 ?_ qi);exact(qc (pv 3));refine(qt q04 ?_ qi);exact(qc (pv 1));exact(qc (pv 3))
theorem qe0{fa:Addr}{dV:Value}{fd:FuncData}(F:Fun2 K "_law_mixed" "_law_mixed" wg dV fa fd): FnOk P w K mg base CX0 1 fa fd ["_law_cell_here","_law_k"] (spD K 2 ju):=
 F.okn (k:=0) (n:=4) (ar:=2) (k1:=1) (u:=q0u) qdz rfl rfl rfl fun cdv A outer s H E hr=>(by first|(with_reducible exact q6u  hr)|exact q6u  hr)
abbrev q0e:Stmt:=top 27
noncomputable def q5w:List Str:=["_law_script","_law_k"]
theorem qen:(q5w).Nodup:=by decide +kernel
theorem qeo:FnScope q5w ["_law_script","_law_k"] (qg q0e):=⟨rfl,rfl,rfl,qen,rfl,by decide +kernel,by decide +kernel⟩
noncomputable def q0f:FS:=(qu (sIf (j9 oLt' (eV 1) (qm q1j (qa (eV 0) qh))) (zj (eOp oIx (eV 0) (eV 1))) zo) (zj (eC (.int 0))))
noncomputable def zk:List D->Option D:=jr 2 q0f
theorem q84{fa:Addr}{cdv:Value}{A:Around}{outer:List Env}{s:Shared}{H:Hp}{E:XK}(n_len:mg "len" = none)(hr:Room 0 (A.deeper (envOfC "_law_cell" (qg q0e) s.heap.objs.size fa cdv))):
  PSs (qx CX0 P w K mg base q5w "_law_cell" (qg q0e) fa cdv A outer s H E).nox (qr q0e) (tDS K q0f):=by
 unfold q0f;refine(qk ?_ ?_);refine(jg ?_ (ql ?_) z7);refine(ji q3l ?_ ?_);exact(qc (pv 1));refine(vz (q4t) rfl n_len DL.q1c ?_);walk_at "A";exact(qc (pv 0));exact qf;refine(z0 ?_);refine(xj ?_ ?_);exact(qc (pv 0));exact(qc (pv 1));refine(ql ?_);exact(z0 qi)
theorem qep{fa:Addr}{dV:Value}{fd:FuncData}(F:Fun2 K "_law_cell" "_law_cell" q0e dV fa fd)(n_len:mg "len" = none): FnOk P w K mg base CX0 1 fa fd ["_law_script","_law_k"] (spD K 2 zk):=
 F.okn (k:=0) (n:=2) (ar:=2) (k1:=1) (u:=q0f) qeo rfl rfl rfl fun cdv A outer s H E hr=>(by first|(with_reducible exact q84 n_len hr)|exact q84 n_len hr)
abbrev v3:Stmt:=top 36
noncomputable def q0o:List Str:=["_law_far","_law_wares","_law_most","_law_good","_law_basket"]
theorem ve:(q0o).Nodup:=by decide +kernel
theorem q6v:FnScope q0o ["_law_far"] (qg v3):=⟨rfl,rfl,rfl,ve,rfl,by decide +kernel,by decide +kernel⟩
noncomputable def vk:FS:=(qu (qa8 "Store" 3 2 [] zf (qa (eV 1) (qa (eV 2) qh))) (qu (j5 4 (eSl (q99 (eV 1)) (oAt (eUn q4g (eC (.int 1)))) oNo)) (q15 (q3n (q0d q2q (xn "Store" "pile" 3 0 z6 qh) (mP (za (qa (eV 1) (qa (za qh) qh))))) (q3n (q0d q2q (xn "Store" "put" 3 2 zp (qa (eC (.int 1)) (qa (eV 4) qh))) (mP (za qh))) (q0d q2q (xn "Store" "pile" 3 0 z6 qh) (mP (za (qa (eV 1) (qa (za (qa (za (qa (eC (.int 1)) (qa (eV 4) qh))) qh)) qh))))))) (zj (eC (.bl false))) zo)))
noncomputable def vm:FS:=(q1i (q12 (eL (jm (qa (eC .non) (qa (eOp jk (eC (.int 1)) (eOp oMod (eV 0) (eOp oPow (eC (.int 10)) (eC (.int 9))))) (qa (eOp oPow (eC (.int 10)) (eC (.int 15))) qh)))))) (bN 2) vk)
noncomputable def yw:FS:=(qu (q1i (iR1 (qa (eC (.int 13)) qh)) (bN 1) vm) (zj (eC (.bl true))))
noncomputable def vj:List D->Option D:=jr 5 yw
theorem q2o{fa:Addr}{cdv:Value}{A:Around}{outer:List Env}{s:Shared}{H:Hp}{E:XK}{C_Store:Addr}(O_Store:ClsF K "Store" C_Store ["wares","window","runs"]){a_Store___init__:Addr}{fd_Store___init__:FuncData}(M_Store:MkF P w K mg base "Store" C_Store 3 ["self","wares","window"] 2 zf a_Store___init__ fd_Store___init__)(b_1:Binds K fd_Store___init__ ["self","wares","window"] []){a_Store_pile:Addr}{fd_Store_pile:FuncData}(c_3:CalF P w K mg base "Store" "pile" C_Store 1 ["self"] 0 z6 a_Store_pile fd_Store_pile)(b_3:Binds K fd_Store_pile ["self"] []){a_Store_put:Addr}{fd_Store_put:FuncData}(c_4:CalF P w K mg base "Store" "put" C_Store 5 ["self","many","basket"] 2 zp a_Store_put fd_Store_put)(b_4:Binds K fd_Store_put ["self","many","basket"] [])(n_range:mg "range" = none)(n_tuple:mg "tuple" = none)(hr:Room 5 (A.deeper (envOfC "_law_good_stores" (qg v3) s.heap.objs.size fa cdv))):
  PSs (qx CX0 P w K mg base q0o "_law_good_stores" (qg v3) fa cdv A outer s H E).nox (qr v3) (tDS K yw):=by
 unfold yw vm vk;refine(qk ?_ ?_);refine(q0r ny rfl ?_ (xg ve rfl (Or.inl rfl) (.inl rfl)) (ql ?_));refine(qay rfl n_range ?_);walk_at "A";exact qi;exact qf;refine(q0r ny rfl ?_ (xg ve rfl (Or.inl rfl) (.inl rfl)) (qk ?_ ?_));refine(q02 ?_);refine(xr ?_);refine(zw ?_);walk_at "A";exact jz;walk_at "A";refine(qt j7 qi ?_);refine(qt xc ?_ ?_);exact(qc (pv 0));exact(qt q0q qi qi);walk_at "A";exact(qt q0q qi qi);exact qf;refine(qdk (i:=3) rfl M_Store hr (by decide) rfl b_1 .nil (fun _=>.nil) ?_ ve rfl (Or.inl rfl));walk_at "A";exact(qc (pv 1));walk_at "A";exact(qc (pv 2));exact qf;refine(qk ?_ ?_);refine(j6 (i:=4) ?_ ?_ ?_ ?_ ?_ ?_);exact ve;exact rfl;exact(Or.inl rfl);refine(qd2 ?_ (qd1 ?_) qd0);refine(qb3 rfl rfl n_tuple rfl n_range ?_);exact(qc (pv 1));exact(q3k qi);exact rfl;walk_at "L";refine(ql ?_);refine(q07 ?_ ?_ ?_);refine(PW.pt (q45 ?_ ?_));refine(q0t (q0s hr.units) ?_ ?_);exact(wa O_Store c_3 b_3 hr (by decide) (pv 3));refine(vv ?_);refine(qw ?_);walk_at "A";exact(qc (pv 1));walk_at "A";exact(qw qf);exact qf;refine(q45 ?_ ?_);refine(q0t (q0s hr.units) ?_ ?_);refine(k8 O_Store c_4 b_4 hr (by decide) (pv 3) ?_);walk_at "A";exact qi;walk_at "A";exact(qc (pv 4));exact qf;refine(vv ?_);exact(qw qf);refine(q3o ?_);refine(q0t (q0s hr.units) ?_ ?_);exact(wa O_Store c_3 b_3 hr (by decide) (pv 3));refine(vv ?_);refine(qw ?_);walk_at "A";exact(qc (pv 1));walk_at "A";refine(qw ?_);walk_at "A";refine(qw ?_);walk_at "A";exact qi;walk_at "A";exact(qc (pv 4));exact qf;exact qf;exact qf;refine(ql ?_);exact(z0 zr);exact z7;refine(ql ?_);exact(z0 zr)
theorem q6w{fa:Addr}{dV:Value}{fd:FuncData}(F:Fun2 K "_law_good_stores" "_law_good_stores" v3 dV fa fd){C_Store:Addr}(O_Store:ClsF K "Store" C_Store ["wares","window","runs"]){a_Store___init__:Addr}{fd_Store___init__:FuncData}(M_Store:MkF P w K mg base "Store" C_Store 3 ["self","wares","window"] 2 zf a_Store___init__ fd_Store___init__)(b_1:Binds K fd_Store___init__ ["self","wares","window"] []){a_Store_pile:Addr}{fd_Store_pile:FuncData}(c_3:CalF P w K mg base "Store" "pile" C_Store 1 ["self"] 0 z6 a_Store_pile fd_Store_pile)(b_3:Binds K fd_Store_pile ["self"] []){a_Store_put:Addr}{fd_Store_put:FuncData}(c_4:CalF P w K mg base "Store" "put" C_Store 5 ["self","many","basket"] 2 zp a_Store_put fd_Store_put)(b_4:Binds K fd_Store_put ["self","many","basket"] [])(n_range:mg "range" = none)(n_tuple:mg "tuple" = none): FnOk P w K mg base CX0 6 fa fd ["_law_far"] (spD K 1 vj):=
 F.okn (k:=5) (n:=5) (ar:=1) (k1:=6) (u:=yw) q6v rfl rfl rfl fun cdv A outer s H E hr=>(by first|(with_reducible exact q2o O_Store M_Store b_1 c_3 b_3 c_4 b_4 n_range n_tuple hr)|exact q2o O_Store M_Store b_1 c_3 b_3 c_4 b_4 n_range n_tuple hr)
abbrev yj:Stmt:=top 29
noncomputable def q2s:List Str:=["_law_error","_law_found"]
theorem q4y:(q2s).Nodup:=by decide +kernel
theorem qac:FnScope q2s ["_law_error"] (qg yj):=⟨rfl,rfl,rfl,q4y,rfl,by decide +kernel,by decide +kernel⟩
noncomputable def q0v:FS:=(qu (q6e 1 (jm qh)) (qu (sIf (bT (eUn (q4h [("NoStore",true),("NoRun",false),("TooGreat",false),("NotThere",false)]) (eV 0))) (q4e 1 (eC (.str "store"))) zo) (qu (sIf (bT (eUn (q4h [("NoStore",false),("NoRun",true),("TooGreat",false),("NotThere",false)]) (eV 0))) (q4e 1 (eC (.str "run"))) zo) (qu (sIf (bT (eUn (q4h [("NoStore",false),("NoRun",false),("TooGreat",true),("NotThere",false)]) (eV 0))) (q4e 1 (eC (.str "great"))) zo) (qu (sIf (bT (eUn (q4h [("NoStore",false),("NoRun",false),("TooGreat",false),("NotThere",true)]) (eV 0))) (q4e 1 (eC (.str "there"))) zo) (qu (sIf (bOr (bT (eUn (q4h [("NoStore",false),("NoRun",false),("TooGreat",false),("NotThere",false)]) (eV 0))) (xl (bT (eUn (q4h [("NoStore",true),("NoRun",true),("TooGreat",true),("NotThere",true)]) (eV 0))))) (q4e 1 (eC (.str "other"))) zo) (q8d 1 (zj (eV 1)))))))))
noncomputable def jf:List D->Option D:=jr 2 q0v
theorem q4z{fa:Addr}{cdv:Value}{A:Around}{outer:List Env}{s:Shared}{H:Hp}{E:XK}{C_NoRun:Addr}(ns_NoRun:PySem.W.nsIn K mainGlobals "NoRun" = some (some (.ref C_NoRun)))(cx_NoRun:v7 K C_NoRun)(m_NoRun:mg "NoRun" = some (.ref C_NoRun)){C_NoStore:Addr}(ns_NoStore:PySem.W.nsIn K mainGlobals "NoStore" = some (some (.ref C_NoStore)))(cx_NoStore:v7 K C_NoStore)(m_NoStore:mg "NoStore" = some (.ref C_NoStore)){C_NotThere:Addr}(ns_NotThere:PySem.W.nsIn K mainGlobals "NotThere" = some (some (.ref C_NotThere)))(cx_NotThere:v7 K C_NotThere)(m_NotThere:mg "NotThere" = some (.ref C_NotThere)){C_TooGreat:Addr}(ns_TooGreat:PySem.W.nsIn K mainGlobals "TooGreat" = some (some (.ref C_TooGreat)))(cx_TooGreat:v7 K C_TooGreat)(m_TooGreat:mg "TooGreat" = some (.ref C_TooGreat))(kt_NoStore_NoStore:PySem.W.kitOne K (.ref C_NoStore) (.ref C_NoStore)=some true)(kt_NoStore_NoRun:PySem.W.kitOne K (.ref C_NoStore) (.ref C_NoRun)=some false)(kt_NoStore_TooGreat:PySem.W.kitOne K (.ref C_NoStore) (.ref C_TooGreat)=some false)(kt_NoStore_NotThere:PySem.W.kitOne K (.ref C_NoStore) (.ref C_NotThere)=some false){C_NoShare:Addr}(m_NoShare:mg "NoShare" = some (.ref C_NoShare)){C_NoText:Addr}(m_NoText:mg "NoText" = some (.ref C_NoText)){C_NoTree:Addr}(m_NoTree:mg "NoTree" = some (.ref C_NoTree))(ka_NoStore_NoShare_NoText_NoTree:PySem.W.kitAny K (.ref C_NoStore) ([C_NoShare,C_NoText,C_NoTree].map Value.ref)=some false)(kt_NoStore_ValueError:PySem.W.kitOne K (.ref C_NoStore) (.type "ValueError")=some true)(kt_NoRun_NoStore:PySem.W.kitOne K (.ref C_NoRun) (.ref C_NoStore)=some false)(kt_NoRun_NoRun:PySem.W.kitOne K (.ref C_NoRun) (.ref C_NoRun)=some true)(kt_NoRun_TooGreat:PySem.W.kitOne K (.ref C_NoRun) (.ref C_TooGreat)=some false)(kt_NoRun_NotThere:PySem.W.kitOne K (.ref C_NoRun) (.ref C_NotThere)=some false)(ka_NoRun_NoShare_NoText_NoTree:PySem.W.kitAny K (.ref C_NoRun) ([C_NoShare,C_NoText,C_NoTree].map Value.ref)=some false)(kt_NoRun_ValueError:PySem.W.kitOne K (.ref C_NoRun) (.type "ValueError")=some true)(kt_TooGreat_NoStore:PySem.W.kitOne K (.ref C_TooGreat) (.ref C_NoStore)=some false)(kt_TooGreat_NoRun:PySem.W.kitOne K (.ref C_TooGreat) (.ref C_NoRun)=some false)(kt_TooGreat_TooGreat:PySem.W.kitOne K (.ref C_TooGreat) (.ref C_TooGreat)=some true)(kt_TooGreat_NotThere:PySem.W.kitOne K (.ref C_TooGreat) (.ref C_NotThere)=some false)(ka_TooGreat_NoShare_NoText_NoTree:PySem.W.kitAny K (.ref C_TooGreat) ([C_NoShare,C_NoText,C_NoTree].map Value.ref)=some false)(kt_TooGreat_ValueError:PySem.W.kitOne K (.ref C_TooGreat) (.type "ValueError")=some true)(kt_NotThere_NoStore:PySem.W.kitOne K (.ref C_NotThere) (.ref C_NoStore)=some false)(kt_NotThere_NoRun:PySem.W.kitOne K (.ref C_NotThere) (.ref C_NoRun)=some false)(kt_NotThere_TooGreat:PySem.W.kitOne K (.ref C_NotThere) (.ref C_TooGreat)=some false)(kt_NotThere_NotThere:PySem.W.kitOne K (.ref C_NotThere) (.ref C_NotThere)=some true)(ka_NotThere_NoShare_NoText_NoTree:PySem.W.kitAny K (.ref C_NotThere) ([C_NoShare,C_NoText,C_NoTree].map Value.ref)=some false)(kt_NotThere_ValueError:PySem.W.kitOne K (.ref C_NotThere) (.type "ValueError")=some true)(n_isinstance:mg "isinstance" = none)(n_ValueError:mg "ValueError" = none)(hr:Room 0 (A.deeper (envOfC "_law_classes" (qg yj) s.heap.objs.size fa cdv))):
  PSs (qx CX0 P w K mg base q2s "_law_classes" (qg yj) fa cdv A outer s H E).nox (qr yj) (tDS K q0v):=by
 unfold q0v;refine(qk ?_ ?_);exact(qcr (i:=1) q4y rfl (Or.inl rfl) (zw qf));refine(qk ?_ ?_);refine(jg ?_ (ql ?_) z7);refine(ja ?_);refine(zu ?_ ?_);refine(xx ns_NoStore kt_NoStore_NoStore rfl n_isinstance rfl m_NoStore ?_);exact(qc (pv 0));refine(zu ?_ ?_);refine(xx ns_NoRun kt_NoRun_NoStore rfl n_isinstance rfl m_NoStore ?_);exact(qc (pv 0));refine(zu ?_ ?_);refine(xx ns_TooGreat kt_TooGreat_NoStore rfl n_isinstance rfl m_NoStore ?_);exact(qc (pv 0));refine(zu ?_ q37);refine(xx ns_NotThere kt_NotThere_NoStore rfl n_isinstance rfl m_NoStore ?_);exact(qc (pv 0));exact(q3h (pv 1) xa);refine(qk ?_ ?_);refine(jg ?_ (ql ?_) z7);refine(ja ?_);refine(zu ?_ ?_);refine(xx ns_NoStore kt_NoStore_NoRun rfl n_isinstance rfl m_NoRun ?_);exact(qc (pv 0));refine(zu ?_ ?_);refine(xx ns_NoRun kt_NoRun_NoRun rfl n_isinstance rfl m_NoRun ?_);exact(qc (pv 0));refine(zu ?_ ?_);refine(xx ns_TooGreat kt_TooGreat_NoRun rfl n_isinstance rfl m_NoRun ?_);exact(qc (pv 0));refine(zu ?_ q37);refine(xx ns_NotThere kt_NotThere_NoRun rfl n_isinstance rfl m_NoRun ?_);exact(qc (pv 0));exact(q3h (pv 1) xa);refine(qk ?_ ?_);refine(jg ?_ (ql ?_) z7);refine(ja ?_);refine(zu ?_ ?_);refine(xx ns_NoStore kt_NoStore_TooGreat rfl n_isinstance rfl m_TooGreat ?_);exact(qc (pv 0));refine(zu ?_ ?_);refine(xx ns_NoRun kt_NoRun_TooGreat rfl n_isinstance rfl m_TooGreat ?_);exact(qc (pv 0));refine(zu ?_ ?_);refine(xx ns_TooGreat kt_TooGreat_TooGreat rfl n_isinstance rfl m_TooGreat ?_);exact(qc (pv 0));refine(zu ?_ q37);refine(xx ns_NotThere kt_NotThere_TooGreat rfl n_isinstance rfl m_TooGreat ?_);exact(qc (pv 0));exact(q3h (pv 1) xa);refine(qk ?_ ?_);refine(jg ?_ (ql ?_) z7);refine(ja ?_);refine(zu ?_ ?_);refine(xx ns_NoStore kt_NoStore_NotThere rfl n_isinstance rfl m_NotThere ?_);exact(qc (pv 0));refine(zu ?_ ?_);refine(xx ns_NoRun kt_NoRun_NotThere rfl n_isinstance rfl m_NotThere ?_);exact(qc (pv 0));refine(zu ?_ ?_);refine(xx ns_TooGreat kt_TooGreat_NotThere rfl n_isinstance rfl m_NotThere ?_);exact(qc (pv 0));refine(zu ?_ q37);refine(xx ns_NotThere kt_NotThere_NotThere rfl n_isinstance rfl m_NotThere ?_);exact(qc (pv 0));exact(q3h (pv 1) xa);refine(qk ?_ ?_);refine(jg ?_ (ql ?_) z7);refine(PW.pt (q7b ?_ (q6b ?_)));refine(ja ?_);refine(zu ?_ ?_);refine(q7j (Cs:=[C_NoShare,C_NoText,C_NoTree]) ns_NoStore ka_NoStore_NoShare_NoText_NoTree rfl n_isinstance (show 3<=sizeLine by decide) (zm (vg (v:=.ref C_NoShare) rfl m_NoShare rfl) (zm (vg (v:=.ref C_NoText) rfl m_NoText rfl) (zm (vg (v:=.ref C_NoTree) rfl m_NoTree rfl) w8))) (fun _ _ _ q=>q) ?_);exact(qc (pv 0));refine(zu ?_ ?_);refine(q7j (Cs:=[C_NoShare,C_NoText,C_NoTree]) ns_NoRun ka_NoRun_NoShare_NoText_NoTree rfl n_isinstance (show 3<=sizeLine by decide) (zm (vg (v:=.ref C_NoShare) rfl m_NoShare rfl) (zm (vg (v:=.ref C_NoText) rfl m_NoText rfl) (zm (vg (v:=.ref C_NoTree) rfl m_NoTree rfl) w8))) (fun _ _ _ q=>q) ?_);exact(qc (pv 0));refine(zu ?_ ?_);refine(q7j (Cs:=[C_NoShare,C_NoText,C_NoTree]) ns_TooGreat ka_TooGreat_NoShare_NoText_NoTree rfl n_isinstance (show 3<=sizeLine by decide) (zm (vg (v:=.ref C_NoShare) rfl m_NoShare rfl) (zm (vg (v:=.ref C_NoText) rfl m_NoText rfl) (zm (vg (v:=.ref C_NoTree) rfl m_NoTree rfl) w8))) (fun _ _ _ q=>q) ?_);exact(qc (pv 0));refine(zu ?_ q37);refine(q7j (Cs:=[C_NoShare,C_NoText,C_NoTree]) ns_NotThere ka_NotThere_NoShare_NoText_NoTree rfl n_isinstance (show 3<=sizeLine by decide) (zm (vg (v:=.ref C_NoShare) rfl m_NoShare rfl) (zm (vg (v:=.ref C_NoText) rfl m_NoText rfl) (zm (vg (v:=.ref C_NoTree) rfl m_NoTree rfl) w8))) (fun _ _ _ q=>q) ?_);exact(qc (pv 0));refine(v8 ?_);refine(ja ?_);refine(zu ?_ ?_);refine(q7i ns_NoStore kt_NoStore_ValueError rfl n_isinstance rfl n_ValueError PyProof.Rows.Boot.«ValueError» ?_);exact(qc (pv 0));refine(zu ?_ ?_);refine(q7i ns_NoRun kt_NoRun_ValueError rfl n_isinstance rfl n_ValueError PyProof.Rows.Boot.«ValueError» ?_);exact(qc (pv 0));refine(zu ?_ ?_);refine(q7i ns_TooGreat kt_TooGreat_ValueError rfl n_isinstance rfl n_ValueError PyProof.Rows.Boot.«ValueError» ?_);exact(qc (pv 0));refine(zu ?_ q37);refine(q7i ns_NotThere kt_NotThere_ValueError rfl n_isinstance rfl n_ValueError PyProof.Rows.Boot.«ValueError» ?_);exact(qc (pv 0));exact(q3h (pv 1) xa);refine(qcs 1 (ql ?_));refine(z0 ?_);exact(qc (pv 1))
theorem qad{fa:Addr}{dV:Value}{fd:FuncData}(F:Fun2 K "_law_classes" "_law_classes" yj dV fa fd){C_NoRun:Addr}(ns_NoRun:PySem.W.nsIn K mainGlobals "NoRun" = some (some (.ref C_NoRun)))(cx_NoRun:v7 K C_NoRun)(m_NoRun:mg "NoRun" = some (.ref C_NoRun)){C_NoStore:Addr}(ns_NoStore:PySem.W.nsIn K mainGlobals "NoStore" = some (some (.ref C_NoStore)))(cx_NoStore:v7 K C_NoStore)(m_NoStore:mg "NoStore" = some (.ref C_NoStore)){C_NotThere:Addr}(ns_NotThere:PySem.W.nsIn K mainGlobals "NotThere" = some (some (.ref C_NotThere)))(cx_NotThere:v7 K C_NotThere)(m_NotThere:mg "NotThere" = some (.ref C_NotThere)){C_TooGreat:Addr}(ns_TooGreat:PySem.W.nsIn K mainGlobals "TooGreat" = some (some (.ref C_TooGreat)))(cx_TooGreat:v7 K C_TooGreat)(m_TooGreat:mg "TooGreat" = some (.ref C_TooGreat))(kt_NoStore_NoStore:PySem.W.kitOne K (.ref C_NoStore) (.ref C_NoStore)=some true)(kt_NoStore_NoRun:PySem.W.kitOne K (.ref C_NoStore) (.ref C_NoRun)=some false)(kt_NoStore_TooGreat:PySem.W.kitOne K (.ref C_NoStore) (.ref C_TooGreat)=some false)(kt_NoStore_NotThere:PySem.W.kitOne K (.ref C_NoStore) (.ref C_NotThere)=some false){C_NoShare:Addr}(m_NoShare:mg "NoShare" = some (.ref C_NoShare)){C_NoText:Addr}(m_NoText:mg "NoText" = some (.ref C_NoText)){C_NoTree:Addr}(m_NoTree:mg "NoTree" = some (.ref C_NoTree))(ka_NoStore_NoShare_NoText_NoTree:PySem.W.kitAny K (.ref C_NoStore) ([C_NoShare,C_NoText,C_NoTree].map Value.ref)=some false)(kt_NoStore_ValueError:PySem.W.kitOne K (.ref C_NoStore) (.type "ValueError")=some true)(kt_NoRun_NoStore:PySem.W.kitOne K (.ref C_NoRun) (.ref C_NoStore)=some false)(kt_NoRun_NoRun:PySem.W.kitOne K (.ref C_NoRun) (.ref C_NoRun)=some true)(kt_NoRun_TooGreat:PySem.W.kitOne K (.ref C_NoRun) (.ref C_TooGreat)=some false)(kt_NoRun_NotThere:PySem.W.kitOne K (.ref C_NoRun) (.ref C_NotThere)=some false)(ka_NoRun_NoShare_NoText_NoTree:PySem.W.kitAny K (.ref C_NoRun) ([C_NoShare,C_NoText,C_NoTree].map Value.ref)=some false)(kt_NoRun_ValueError:PySem.W.kitOne K (.ref C_NoRun) (.type "ValueError")=some true)(kt_TooGreat_NoStore:PySem.W.kitOne K (.ref C_TooGreat) (.ref C_NoStore)=some false)(kt_TooGreat_NoRun:PySem.W.kitOne K (.ref C_TooGreat) (.ref C_NoRun)=some false)(kt_TooGreat_TooGreat:PySem.W.kitOne K (.ref C_TooGreat) (.ref C_TooGreat)=some true)(kt_TooGreat_NotThere:PySem.W.kitOne K (.ref C_TooGreat) (.ref C_NotThere)=some false)(ka_TooGreat_NoShare_NoText_NoTree:PySem.W.kitAny K (.ref C_TooGreat) ([C_NoShare,C_NoText,C_NoTree].map Value.ref)=some false)(kt_TooGreat_ValueError:PySem.W.kitOne K (.ref C_TooGreat) (.type "ValueError")=some true)(kt_NotThere_NoStore:PySem.W.kitOne K (.ref C_NotThere) (.ref C_NoStore)=some false)(kt_NotThere_NoRun:PySem.W.kitOne K (.ref C_NotThere) (.ref C_NoRun)=some false)(kt_NotThere_TooGreat:PySem.W.kitOne K (.ref C_NotThere) (.ref C_TooGreat)=some false)(kt_NotThere_NotThere:PySem.W.kitOne K (.ref C_NotThere) (.ref C_NotThere)=some true)(ka_NotThere_NoShare_NoText_NoTree:PySem.W.kitAny K (.ref C_NotThere) ([C_NoShare,C_NoText,C_NoTree].map Value.ref)=some false)(kt_NotThere_ValueError:PySem.W.kitOne K (.ref C_NotThere) (.type "ValueError")=some true)(n_isinstance:mg "isinstance" = none)(n_ValueError:mg "ValueError" = none): FnOk P w K mg base CX0 1 fa fd ["_law_error"] (spD K 1 jf):=
 F.okn (k:=0) (n:=2) (ar:=1) (k1:=1) (u:=q0v) qac rfl rfl rfl fun cdv A outer s H E hr=>(by first|(with_reducible exact q4z ns_NoRun cx_NoRun m_NoRun ns_NoStore cx_NoStore m_NoStore ns_NotThere cx_NotThere m_NotThere ns_TooGreat cx_TooGreat m_TooGreat kt_NoStore_NoStore kt_NoStore_NoRun kt_NoStore_TooGreat kt_NoStore_NotThere m_NoShare m_NoText m_NoTree ka_NoStore_NoShare_NoText_NoTree kt_NoStore_ValueError kt_NoRun_NoStore kt_NoRun_NoRun kt_NoRun_TooGreat kt_NoRun_NotThere ka_NoRun_NoShare_NoText_NoTree kt_NoRun_ValueError kt_TooGreat_NoStore kt_TooGreat_NoRun kt_TooGreat_TooGreat kt_TooGreat_NotThere ka_TooGreat_NoShare_NoText_NoTree kt_TooGreat_ValueError kt_NotThere_NoStore kt_NotThere_NoRun kt_NotThere_TooGreat kt_NotThere_NotThere ka_NotThere_NoShare_NoText_NoTree kt_NotThere_ValueError n_isinstance n_ValueError hr)|exact q4z ns_NoRun cx_NoRun m_NoRun ns_NoStore cx_NoStore m_NoStore ns_NotThere cx_NotThere m_NotThere ns_TooGreat cx_TooGreat m_TooGreat kt_NoStore_NoStore kt_NoStore_NoRun kt_NoStore_TooGreat kt_NoStore_NotThere m_NoShare m_NoText m_NoTree ka_NoStore_NoShare_NoText_NoTree kt_NoStore_ValueError kt_NoRun_NoStore kt_NoRun_NoRun kt_NoRun_TooGreat kt_NoRun_NotThere ka_NoRun_NoShare_NoText_NoTree kt_NoRun_ValueError kt_TooGreat_NoStore kt_TooGreat_NoRun kt_TooGreat_TooGreat kt_TooGreat_NotThere ka_TooGreat_NoShare_NoText_NoTree kt_TooGreat_ValueError kt_NotThere_NoStore kt_NotThere_NoRun kt_NotThere_TooGreat kt_NotThere_NotThere ka_NotThere_NoShare_NoText_NoTree kt_NotThere_ValueError n_isinstance n_ValueError hr)
abbrev vw:Stmt:=top 30
noncomputable def q24:List Str:=["_law_wares","_law_most","_law_kept","_law_error"]
theorem wy:(q24).Nodup:=by decide +kernel
theorem q9f:FnScope q24 ["_law_wares","_law_most"] (qg vw):=⟨rfl,rfl,rfl,wy,rfl,by decide +kernel,by decide +kernel⟩
noncomputable def q0g:FS:=(qu (j5 2 (eC .non)) (qu (q1o qla (qgt 2 x_Store___init__ (qa (eV 0) (qa (eV 1) qh))) ["NoStore"] (qke [("NoStore",(sAs 3 "NoStore" (j5 2 (eV 3))))])) (zj (q1z (eOp (oIs true) (eV 2) (eC .non)) (eOp oEq (qm (qq 1 [] jf) (qa (eV 2) qh)) (eL (jm (qa (eC (.str "store")) qh))))))))
noncomputable def xh:List D->Option D:=jr 4 q0g
theorem q47{fa:Addr}{cdv:Value}{A:Around}{outer:List Env}{s:Shared}{H:Hp}{E:XK}{C_Store:Addr}(O_Store:ClsF K "Store" C_Store ["wares","window","runs"]){a_Store___init__:Addr}{fd_Store___init__:FuncData}(M_Store:MkF P w K mg base "Store" C_Store 3 ["self","wares","window"] 2 zf a_Store___init__ fd_Store___init__)(b_1:Binds K fd_Store___init__ ["self","wares","window"] []){a__law_classes:Addr}{fd__law_classes:FuncData}(c_17:Cal P w K mg base "_law_classes" 1 ["_law_error"] 1 jf a__law_classes fd__law_classes)(b_17:Binds K fd__law_classes ["_law_error"] []){C_NoStore:Addr}(ns_NoStore:PySem.W.nsIn K mainGlobals "NoStore" = some (some (.ref C_NoStore)))(cx_NoStore:v7 K C_NoStore)(m_NoStore:mg "NoStore" = some (.ref C_NoStore)){C_OftenError:Addr}(ns_OftenError:PySem.W.nsIn K mainGlobals "OftenError" = some (some (.ref C_OftenError)))(cx_OftenError:v7 K C_OftenError)(m_OftenError:mg "OftenError" = some (.ref C_OftenError))(tp_OftenError:PySem.W.typeIn K (.ref C_OftenError)=some (.type "type"))(mr_NoStore_OftenError:PySem.W.mroIn K C_NoStore (.ref C_OftenError)=some true)(gr_Store___init__:FnOk P w K mg base (CXR P w) 3 a_Store___init__ fd_Store___init__ ["self","wares","window"] (kb K "Store" 2 x_Store___init__))(hr:Room 4 (A.deeper (envOfC "_law_no_store" (qg vw) s.heap.objs.size fa cdv))):
  PSs (qx CX0 P w K mg base q24 "_law_no_store" (qg vw) fa cdv A outer s H E).nox (qr vw) (tDS K q0g):=by
 unfold q0g;refine(qk ?_ ?_);refine(j6 (i:=2) ?_ ?_ ?_ jz ?_ ?_);exact wy;exact rfl;exact(Or.inl rfl);exact rfl;walk_at "L";refine(qk ?_ ?_);refine(qfm ⟨rfl,rfl⟩ ?_ ?_ ?_ ?_);intro pins σ0 Ex;refine PSs.nox ?_;exact(ql qm9);intro pins σ0 Ex;refine(q5k (qa9 (qos M_Store.mks M_Store.ns gr_Store___init__ b_1 hr (by decide) rfl M_Store.mg ?_)));walk_at "A";exact(qc (pv 0));walk_at "A";exact(qc (pv 1));exact qf;intro y C hy hn;simp only [m5,uh,nv] at hy;subst hy;cases ns_NoStore.symm.trans hn;refine(qcd (i:=3) cx_OftenError.1 tp_OftenError mr_NoStore_OftenError ns_NoStore cx_NoStore rfl m_OftenError wy rfl rfl ?_);intro a;refine(ql ?_);refine(j6 (i:=2) ?_ ?_ ?_ ?_ ?_ ?_);exact wy;exact rfl;exact(Or.inl rfl);exact(qc (pv 3));exact rfl;walk_at "L";intro y hy;simp only [m5,uh,nv] at hy;subst hy;exact⟨_,ns_NoStore⟩;refine(ql ?_);refine(z0 ?_);refine(q4q ?_ (q6c ?_));refine(q4p (q5g rfl) ?_ jz);exact(qc (pv 2));refine(q4p (q31 hr.units) ?_ ?_);refine(zh c_17 b_17 hr (by decide) rfl ?_);walk_at "A";exact(qc (pv 2));exact qf;refine(xr ?_);refine(zw ?_);walk_at "A";exact xa;exact qf
theorem q9g{fa:Addr}{dV:Value}{fd:FuncData}(F:Fun2 K "_law_no_store" "_law_no_store" vw dV fa fd){C_Store:Addr}(O_Store:ClsF K "Store" C_Store ["wares","window","runs"]){a_Store___init__:Addr}{fd_Store___init__:FuncData}(M_Store:MkF P w K mg base "Store" C_Store 3 ["self","wares","window"] 2 zf a_Store___init__ fd_Store___init__)(b_1:Binds K fd_Store___init__ ["self","wares","window"] []){a__law_classes:Addr}{fd__law_classes:FuncData}(c_17:Cal P w K mg base "_law_classes" 1 ["_law_error"] 1 jf a__law_classes fd__law_classes)(b_17:Binds K fd__law_classes ["_law_error"] []){C_NoStore:Addr}(ns_NoStore:PySem.W.nsIn K mainGlobals "NoStore" = some (some (.ref C_NoStore)))(cx_NoStore:v7 K C_NoStore)(m_NoStore:mg "NoStore" = some (.ref C_NoStore)){C_OftenError:Addr}(ns_OftenError:PySem.W.nsIn K mainGlobals "OftenError" = some (some (.ref C_OftenError)))(cx_OftenError:v7 K C_OftenError)(m_OftenError:mg "OftenError" = some (.ref C_OftenError))(tp_OftenError:PySem.W.typeIn K (.ref C_OftenError)=some (.type "type"))(mr_NoStore_OftenError:PySem.W.mroIn K C_NoStore (.ref C_OftenError)=some true)(gr_Store___init__:FnOk P w K mg base (CXR P w) 3 a_Store___init__ fd_Store___init__ ["self","wares","window"] (kb K "Store" 2 x_Store___init__)): FnOk P w K mg base CX0 5 fa fd ["_law_wares","_law_most"] (spD K 2 xh):=
 F.okn (k:=4) (n:=4) (ar:=2) (k1:=5) (u:=q0g) q9f rfl rfl rfl fun cdv A outer s H E hr=>(by first|(with_reducible exact q47 O_Store M_Store b_1 c_17 b_17 ns_NoStore cx_NoStore m_NoStore ns_OftenError cx_OftenError m_OftenError tp_OftenError mr_NoStore_OftenError gr_Store___init__ hr)|exact q47 O_Store M_Store b_1 c_17 b_17 ns_NoStore cx_NoStore m_NoStore ns_OftenError cx_OftenError m_OftenError tp_OftenError mr_NoStore_OftenError gr_Store___init__ hr)
abbrev vc:Stmt:=top 37
noncomputable def q18:List Str:=["_law_far","_law_wares","_law_most"]
theorem q0p:(q18).Nodup:=by decide +kernel
theorem q7w:FnScope q18 ["_law_far"] (qg vc):=⟨rfl,rfl,rfl,q0p,rfl,by decide +kernel,by decide +kernel⟩
noncomputable def ye:FS:=(sIf (xl (bT (qm (qq 2 [] xh) (qa (eV 1) (qa (eC .non) qh))))) (zj (eC (.bl false))) zo)
noncomputable def yf:FS:=(sIf (xl (bT (qm (qq 2 [] xh) (qa (eC (.int 2)) (qa (eV 2) qh))))) (zj (eC (.bl false))) zo)
noncomputable def w6:FS:=(qu (q1i (q12 (eL (jm (qa (eUn q4g (eC (.int 1))) (qa (eC (.int 13)) (qa (eOp jk (eC (.int 13)) (eV 0)) (qa (eOp oSub (eUn q4g (eC (.int 1))) (eV 0)) (qa (eC (.bl true)) (qa (eC (.bl false)) (qa (eC .non) (qa (eC (.str "3")) (qa (za (qa (eC (.int 3)) qh)) (qa (eL (jm (qa (eC (.int 3)) qh))) (qa qgm (qa (za qh) (qa (eC (.str "")) qh)))))))))))))))) (bN 1) ye) (qu (q1i (q12 (eL (jm (qa (eC (.int 0)) (qa (eOp oSub (eUn q4g (eC (.int 1))) (eV 0)) (qa (eC (.bl true)) (qa (eC (.bl false)) (qa (eC (.str "5")) (qa (eOp jk (eOp oPow (eC (.int 10)) (eC (.int 15))) (eC (.int 1))) (qa (eOp jk (eOp jk (eOp oPow (eC (.int 10)) (eC (.int 15))) (eC (.int 1))) (eV 0)) (qa (za qh) (qa (eL (jm (qa (eC (.int 5)) qh))) (qa qgm qh))))))))))))) (bN 2) yf) (zj (eC (.bl true)))))
noncomputable def ya:List D->Option D:=jr 3 w6
theorem q2x{fa:Addr}{cdv:Value}{A:Around}{outer:List Env}{s:Shared}{H:Hp}{E:XK}{a__law_no_store:Addr}{fd__law_no_store:FuncData}(c_23:Cal P w K mg base "_law_no_store" 5 ["_law_wares","_law_most"] 2 xh a__law_no_store fd__law_no_store)(b_23:Binds K fd__law_no_store ["_law_wares","_law_most"] [])(hr:Room 5 (A.deeper (envOfC "_law_bad_stores" (qg vc) s.heap.objs.size fa cdv))):
  PSs (qx CX0 P w K mg base q18 "_law_bad_stores" (qg vc) fa cdv A outer s H E).nox (qr vc) (tDS K w6):=by
 unfold w6 yf ye;refine(qk ?_ ?_);refine(q0r ny rfl ?_ (xg q0p rfl (Or.inl rfl) (.inl rfl)) (ql ?_));refine(q02 ?_);refine(xr ?_);refine(zw ?_);walk_at "A";exact(q3k qi);walk_at "A";exact qi;walk_at "A";refine(qt j7 qi ?_);exact(qc (pv 0));walk_at "A";refine(qt q3g ?_ ?_);exact(q3k qi);exact(qc (pv 0));walk_at "A";exact zr;walk_at "A";exact zr;walk_at "A";exact jz;walk_at "A";exact xa;walk_at "A";refine(qw ?_);walk_at "A";exact qi;exact qf;walk_at "A";refine(xr ?_);refine(zw ?_);walk_at "A";exact qi;exact qf;walk_at "A";exact qd7;walk_at "A";exact(qw qf);walk_at "A";exact xa;exact qf;refine(jg ?_ (ql ?_) z7);refine(v8 ?_);refine(ja ?_);refine(zh c_23 b_23 hr (by decide) rfl ?_);walk_at "A";exact(qc (pv 1));walk_at "A";exact jz;exact qf;exact(z0 zr);refine(qk ?_ ?_);refine(q0r ny rfl ?_ (xg q0p rfl (Or.inl rfl) (.inl rfl)) (ql ?_));refine(q02 ?_);refine(xr ?_);refine(zw ?_);walk_at "A";exact qi;walk_at "A";refine(qt q3g ?_ ?_);exact(q3k qi);exact(qc (pv 0));walk_at "A";exact zr;walk_at "A";exact zr;walk_at "A";exact xa;walk_at "A";refine(qt j7 ?_ qi);exact(qt q0q qi qi);walk_at "A";refine(qt j7 ?_ ?_);refine(qt j7 ?_ qi);exact(qt q0q qi qi);exact(qc (pv 0));walk_at "A";exact(qw qf);walk_at "A";refine(xr ?_);refine(zw ?_);walk_at "A";exact qi;exact qf;walk_at "A";exact qd7;exact qf;refine(jg ?_ (ql ?_) z7);refine(v8 ?_);refine(ja ?_);refine(zh c_23 b_23 hr (by decide) rfl ?_);walk_at "A";exact qi;walk_at "A";exact(qc (pv 2));exact qf;exact(z0 zr);refine(ql ?_);exact(z0 zr)
theorem q7x{fa:Addr}{dV:Value}{fd:FuncData}(F:Fun2 K "_law_bad_stores" "_law_bad_stores" vc dV fa fd){a__law_no_store:Addr}{fd__law_no_store:FuncData}(c_23:Cal P w K mg base "_law_no_store" 5 ["_law_wares","_law_most"] 2 xh a__law_no_store fd__law_no_store)(b_23:Binds K fd__law_no_store ["_law_wares","_law_most"] []): FnOk P w K mg base CX0 6 fa fd ["_law_far"] (spD K 1 ya):=
 F.okn (k:=5) (n:=3) (ar:=1) (k1:=6) (u:=w6) q7w rfl rfl rfl fun cdv A outer s H E hr=>(by first|(with_reducible exact q2x c_23 b_23 hr)|exact q2x c_23 b_23 hr)
abbrev vx:Stmt:=top 34
noncomputable def q25:List Str:=["_law_wares","_law_far","_law_top","_law_bad"]
theorem wz:(q25).Nodup:=by decide +kernel
theorem q9h:FnScope q25 ["_law_wares","_law_far"] (qg vx):=⟨rfl,rfl,rfl,wz,rfl,by decide +kernel,by decide +kernel⟩
noncomputable def q0h:FS:=(qu (j5 2 (eOp oSub (eV 0) (eC (.int 1)))) (qu (j5 3 (eL (jm (qa (eL (jm (qa (eV 2) qh))) (qa (za (qa (eV 2) (qa (eV 2) qh))) (qa (za (qa (eV 0) qh)) (qa (za (qa (eOp jk (eV 0) (eV 1)) qh)) (qa (za (qa (eUn q4g (eC (.int 1))) qh)) (qa (za (qa (eOp oSub (eUn q4g (eC (.int 1))) (eV 1)) (qa (eV 2) qh))) (qa (za (qa (eC (.bl true)) qh)) (qa (za (qa (eC .non) qh)) (qa (za (qa (eC (.str "0")) qh)) (qa (za (qa (za (qa (eC (.int 0)) qh)) qh)) qh))))))))))))) (qu (j5 3 (eOp jk (eV 3) (eL (jm (qa (eC .non) (qa (eV 2) (qa (eC (.str "0")) (qa qgm (qa (za (qa (eC (.int 0)) (qa (eV 2) (qa (eV 0) qh)))) (qa (za (qa (eV 2) (qa (eC (.int 0)) qh))) qh)))))))))) (zj (eV 3)))))
noncomputable def kg:List D->Option D:=jr 4 q0h
theorem q48{fa:Addr}{cdv:Value}{A:Around}{outer:List Env}{s:Shared}{H:Hp}{E:XK}(hr:Room 0 (A.deeper (envOfC "_law_bad_sets" (qg vx) s.heap.objs.size fa cdv))):
  PSs (qx CX0 P w K mg base q25 "_law_bad_sets" (qg vx) fa cdv A outer s H E).nox (qr vx) (tDS K q0h):=by
 unfold q0h;refine(qk ?_ ?_);refine(j6 (i:=2) ?_ ?_ ?_ ?_ ?_ ?_);exact wz;exact rfl;exact(Or.inl rfl);refine(qt q3g ?_ qi);exact(qc (pv 0));exact rfl;walk_at "L";refine(qk ?_ ?_);refine(j6 (i:=3) ?_ ?_ ?_ ?_ ?_ ?_);exact wz;exact rfl;exact(Or.inl rfl);refine(xr ?_);refine(zw ?_);walk_at "A";refine(xr ?_);refine(zw ?_);walk_at "A";exact(qc (pv 2));exact qf;walk_at "A";refine(qw ?_);walk_at "A";exact(qc (pv 2));walk_at "A";exact(qc (pv 2));exact qf;walk_at "A";refine(qw ?_);walk_at "A";exact(qc (pv 0));exact qf;walk_at "A";refine(qw ?_);walk_at "A";refine(qt j7 ?_ ?_);exact(qc (pv 0));exact(qc (pv 1));exact qf;walk_at "A";refine(qw ?_);walk_at "A";exact(q3k qi);exact qf;walk_at "A";refine(qw ?_);walk_at "A";refine(qt q3g ?_ ?_);exact(q3k qi);exact(qc (pv 1));walk_at "A";exact(qc (pv 2));exact qf;walk_at "A";refine(qw ?_);walk_at "A";exact zr;exact qf;walk_at "A";refine(qw ?_);walk_at "A";exact jz;exact qf;walk_at "A";refine(qw ?_);walk_at "A";exact xa;exact qf;walk_at "A";refine(qw ?_);walk_at "A";refine(qw ?_);walk_at "A";exact qi;exact qf;exact qf;exact qf;exact rfl;walk_at "L";refine(qk ?_ ?_);refine(j6 (i:=3) ?_ ?_ ?_ ?_ ?_ ?_);exact wz;exact rfl;exact(Or.inl rfl);refine(qt j7 ?_ ?_);exact(qc (pv 3));refine(xr ?_);refine(zw ?_);walk_at "A";exact jz;walk_at "A";exact(qc (pv 2));walk_at "A";exact xa;walk_at "A";exact qd7;walk_at "A";refine(qw ?_);walk_at "A";exact qi;walk_at "A";exact(qc (pv 2));walk_at "A";exact(qc (pv 0));exact qf;walk_at "A";refine(qw ?_);walk_at "A";exact(qc (pv 2));walk_at "A";exact qi;exact qf;exact qf;exact rfl;walk_at "L";refine(ql ?_);refine(z0 ?_);exact(qc (pv 3))
theorem q9i{fa:Addr}{dV:Value}{fd:FuncData}(F:Fun2 K "_law_bad_sets" "_law_bad_sets" vx dV fa fd): FnOk P w K mg base CX0 1 fa fd ["_law_wares","_law_far"] (spD K 2 kg):=
 F.okn (k:=0) (n:=4) (ar:=2) (k1:=1) (u:=q0h) q9h rfl rfl rfl fun cdv A outer s H E hr=>(by first|(with_reducible exact q48  hr)|exact q48  hr)
abbrev yk:Stmt:=top 31
noncomputable def q2t:List Str:=["_law_store","_law_taking","_law_many","_law_basket","_law_kept","_law_error","_law_words"]
theorem jo:(q2t).Nodup:=by decide +kernel
theorem qae:FnScope q2t ["_law_store","_law_taking","_law_many","_law_basket"] (qg yk):=⟨rfl,rfl,rfl,jo,rfl,by decide +kernel,by decide +kernel⟩
noncomputable def q0w:FS:=(qu (j5 4 (eC .non)) (qu (q1o (sIf (bT (eV 1)) (y0 (xn "Store" "take" 0 2 je (qa (eV 2) (qa (eV 3) qh)))) (y0 (xn "Store" "put" 0 2 zp (qa (eV 2) (qa (eV 3) qh))))) (xIf (bT (eV 1)) (q1n "Store" "take" 0 2 x_Store_take (qa (eV 2) (qa (eV 3) qh))) (q1n "Store" "put" 0 2 x_Store_put (qa (eV 2) (qa (eV 3) qh)))) ["NoRun","NotThere","TooGreat"] (qke [("NoRun",(sAs 5 "NoRun" (j5 4 (eV 5)))),("NotThere",(sAs 5 "NotThere" (j5 4 (eV 5)))),("TooGreat",(sAs 5 "TooGreat" (j5 4 (eV 5))))])) (qu (sIf (j9 (oIs false) (eV 4) (eC .non)) (zj (eL (jm (qa (eL (jm qh)) (qa (eC .non) qh))))) zo) (qu (j5 6 (qm (qq 1 [] jf) (qa (eV 4) qh))) (qu (sIf (j9 oEq (eV 6) (eL (jm (qa (eC (.str "great")) qh)))) (zj (eL (jm (qa (eV 6) (qa (eXF "TooGreat" "most" (eV 4)) qh))))) zo) (qu (sIf (j9 oEq (eV 6) (eL (jm (qa (eC (.str "there")) qh)))) (zj (eL (jm (qa (eV 6) (qa (eXF "NotThere" "there" (eV 4)) qh))))) zo) (zj (eL (jm (qa (eV 6) (qa (eC .non) qh)))))))))))
noncomputable def zb:Flds->List D->Option (Flds×D):=ko 7 "Store" q0w
theorem qaf[Pin]{fa:Addr}{cdv:Value}{A:Around}{outer:List Env}{s:Shared}{H:Hp}{E:XK}{C_Store:Addr}(O_Store:ClsF K "Store" C_Store ["wares","window","runs"]){a__law_classes:Addr}{fd__law_classes:FuncData}(c_17:Cal P w K mg base "_law_classes" 1 ["_law_error"] 1 jf a__law_classes fd__law_classes)(b_17:Binds K fd__law_classes ["_law_error"] []){a_Store_take:Addr}{fd_Store_take:FuncData}(c_5:CalF P w K mg base "Store" "take" C_Store 5 ["self","many","basket"] 2 je a_Store_take fd_Store_take)(b_5:Binds K fd_Store_take ["self","many","basket"] []){a_Store_put:Addr}{fd_Store_put:FuncData}(c_4:CalF P w K mg base "Store" "put" C_Store 5 ["self","many","basket"] 2 zp a_Store_put fd_Store_put)(b_4:Binds K fd_Store_put ["self","many","basket"] []){C_NoRun:Addr}(ns_NoRun:PySem.W.nsIn K mainGlobals "NoRun" = some (some (.ref C_NoRun)))(cx_NoRun:v7 K C_NoRun)(m_NoRun:mg "NoRun" = some (.ref C_NoRun)){C_NotThere:Addr}(ns_NotThere:PySem.W.nsIn K mainGlobals "NotThere" = some (some (.ref C_NotThere)))(cx_NotThere:v7 K C_NotThere)(m_NotThere:mg "NotThere" = some (.ref C_NotThere)){C_OftenError:Addr}(ns_OftenError:PySem.W.nsIn K mainGlobals "OftenError" = some (some (.ref C_OftenError)))(cx_OftenError:v7 K C_OftenError)(m_OftenError:mg "OftenError" = some (.ref C_OftenError)){C_TooGreat:Addr}(ns_TooGreat:PySem.W.nsIn K mainGlobals "TooGreat" = some (some (.ref C_TooGreat)))(cx_TooGreat:v7 K C_TooGreat)(m_TooGreat:mg "TooGreat" = some (.ref C_TooGreat))(tp_OftenError:PySem.W.typeIn K (.ref C_OftenError)=some (.type "type"))(mr_NoRun_OftenError:PySem.W.mroIn K C_NoRun (.ref C_OftenError)=some true)(mr_NotThere_OftenError:PySem.W.mroIn K C_NotThere (.ref C_OftenError)=some true)(mr_TooGreat_OftenError:PySem.W.mroIn K C_TooGreat (.ref C_OftenError)=some true)(gr_Store_take:FnOk P w K mg base (CXR P w) 5 a_Store_take fd_Store_take ["self","many","basket"] (kb K "Store" 2 x_Store_take))(gr_Store_put:FnOk P w K mg base (CXR P w) 5 a_Store_put fd_Store_put ["self","many","basket"] (kb K "Store" 2 x_Store_put))(ci_NotThere:ClsI K C_NotThere "there")(ci_TooGreat:ClsI K C_TooGreat "most")(hr:Room 5 (A.deeper (envOfC "_law_refused" (qg yk) s.heap.objs.size fa cdv))):
  PSs (qx CX0 P w K mg base q2t "_law_refused" (qg yk) fa cdv A outer s H E).nox (qr yk) (tDS K q0w):=by
 unfold q0w;refine(qk ?_ ?_);refine(j6 (i:=4) ?_ ?_ ?_ jz ?_ ?_);exact jo;exact rfl;exact(Or.inl rfl);exact rfl;walk_at "L";refine(qk ?_ ?_);refine(qfm ⟨rfl,rfl⟩ ?_ ?_ ?_ ?_);intro pins σ0 Ex;refine PSs.nox ?_;refine(ql ?_);refine(jg ?_ (ql ?_) (ql ?_));refine(ja ?_);exact(qc (pv 1));refine(yp ?_);refine(k8 O_Store c_5 b_5 hr (by decide) (pv 0) ?_);walk_at "A";exact(qc (pv 2));walk_at "A";exact(qc (pv 3));exact qf;refine(yp ?_);refine(k8 O_Store c_4 b_4 hr (by decide) (pv 0) ?_);walk_at "A";exact(qc (pv 2));walk_at "A";exact(qc (pv 3));exact qf;intro pins σ0 Ex;refine(q5k (qqa (PT.nox ?_) (q5k (qa9 (qfl O_Store gr_Store_take c_5.me b_5 hr (by decide) (pv 0) ?_))) (q5k (qa9 (qfl O_Store gr_Store_put c_4.me b_4 hr (by decide) (pv 0) ?_)))));refine(ja ?_);exact(qc (pv 1));walk_at "A";exact(qc (pv 2));walk_at "A";exact(qc (pv 3));exact qf;walk_at "A";exact(qc (pv 2));walk_at "A";exact(qc (pv 3));exact qf;intro y C hy hn;simp only [m5,uh,nv] at hy;rcases hy with rfl|rfl|rfl;cases ns_NoRun.symm.trans hn;refine(qcd (i:=5) cx_OftenError.1 tp_OftenError mr_NoRun_OftenError ns_NoRun cx_NoRun rfl m_OftenError jo rfl rfl ?_);intro a;refine(ql ?_);refine(j6 (i:=4) ?_ ?_ ?_ ?_ ?_ ?_);exact jo;exact rfl;exact(Or.inl rfl);exact(qc (pv 5));exact rfl;walk_at "L";cases ns_NotThere.symm.trans hn;refine(qcd (i:=5) cx_OftenError.1 tp_OftenError mr_NotThere_OftenError ns_NotThere cx_NotThere rfl m_OftenError jo rfl rfl ?_);intro a;refine(ql ?_);refine(j6 (i:=4) ?_ ?_ ?_ ?_ ?_ ?_);exact jo;exact rfl;exact(Or.inl rfl);exact(qc (pv 5));exact rfl;walk_at "L";cases ns_TooGreat.symm.trans hn;refine(qcd (i:=5) cx_OftenError.1 tp_OftenError mr_TooGreat_OftenError ns_TooGreat cx_TooGreat rfl m_OftenError jo rfl rfl ?_);intro a;refine(ql ?_);refine(j6 (i:=4) ?_ ?_ ?_ ?_ ?_ ?_);exact jo;exact rfl;exact(Or.inl rfl);exact(qc (pv 5));exact rfl;walk_at "L";intro y hy;simp only [m5,uh,nv] at hy;rcases hy with rfl|rfl|rfl;exact⟨_,ns_NoRun⟩;exact⟨_,ns_NotThere⟩;exact⟨_,ns_TooGreat⟩;refine(qk ?_ ?_);refine(jg ?_ (ql ?_) z7);refine(ji (qgn rfl) ?_ jz);exact(qc (pv 4));refine(z0 ?_);refine(xr ?_);refine(zw ?_);walk_at "A";refine(xr ?_);exact(zw qf);walk_at "A";exact jz;exact qf;refine(qk ?_ ?_);refine(j6 (i:=6) ?_ ?_ ?_ ?_ ?_ ?_);exact jo;exact rfl;exact(Or.inl rfl);refine(zh c_17 b_17 hr (by decide) rfl ?_);walk_at "A";exact(qc (pv 4));exact qf;exact rfl;walk_at "L";refine(qk ?_ ?_);refine(jg ?_ (ql ?_) z7);refine(ji (q31 hr.units) ?_ ?_);exact(qc (pv 6));refine(xr ?_);refine(zw ?_);walk_at "A";exact xa;exact qf;refine(z0 ?_);refine(xr ?_);refine(zw ?_);walk_at "A";exact(qc (pv 6));walk_at "A";refine(qfp ns_TooGreat ci_TooGreat ?_);exact(qc (pv 4));exact qf;refine(qk ?_ ?_);refine(jg ?_ (ql ?_) z7);refine(ji (q31 hr.units) ?_ ?_);exact(qc (pv 6));refine(xr ?_);refine(zw ?_);walk_at "A";exact xa;exact qf;refine(z0 ?_);refine(xr ?_);refine(zw ?_);walk_at "A";exact(qc (pv 6));walk_at "A";refine(qfp ns_NotThere ci_NotThere ?_);exact(qc (pv 4));exact qf;refine(ql ?_);refine(z0 ?_);refine(xr ?_);refine(zw ?_);walk_at "A";exact(qc (pv 6));walk_at "A";exact jz;exact qf
theorem qag{fa:Addr}{dV:Value}{fd:FuncData}(F:Fun2 K "_law_refused" "_law_refused" yk dV fa fd){C_Store:Addr}(O_Store:ClsF K "Store" C_Store ["wares","window","runs"]){a__law_classes:Addr}{fd__law_classes:FuncData}(c_17:Cal P w K mg base "_law_classes" 1 ["_law_error"] 1 jf a__law_classes fd__law_classes)(b_17:Binds K fd__law_classes ["_law_error"] []){a_Store_take:Addr}{fd_Store_take:FuncData}(c_5:CalF P w K mg base "Store" "take" C_Store 5 ["self","many","basket"] 2 je a_Store_take fd_Store_take)(b_5:Binds K fd_Store_take ["self","many","basket"] []){a_Store_put:Addr}{fd_Store_put:FuncData}(c_4:CalF P w K mg base "Store" "put" C_Store 5 ["self","many","basket"] 2 zp a_Store_put fd_Store_put)(b_4:Binds K fd_Store_put ["self","many","basket"] []){C_NoRun:Addr}(ns_NoRun:PySem.W.nsIn K mainGlobals "NoRun" = some (some (.ref C_NoRun)))(cx_NoRun:v7 K C_NoRun)(m_NoRun:mg "NoRun" = some (.ref C_NoRun)){C_NotThere:Addr}(ns_NotThere:PySem.W.nsIn K mainGlobals "NotThere" = some (some (.ref C_NotThere)))(cx_NotThere:v7 K C_NotThere)(m_NotThere:mg "NotThere" = some (.ref C_NotThere)){C_OftenError:Addr}(ns_OftenError:PySem.W.nsIn K mainGlobals "OftenError" = some (some (.ref C_OftenError)))(cx_OftenError:v7 K C_OftenError)(m_OftenError:mg "OftenError" = some (.ref C_OftenError)){C_TooGreat:Addr}(ns_TooGreat:PySem.W.nsIn K mainGlobals "TooGreat" = some (some (.ref C_TooGreat)))(cx_TooGreat:v7 K C_TooGreat)(m_TooGreat:mg "TooGreat" = some (.ref C_TooGreat))(tp_OftenError:PySem.W.typeIn K (.ref C_OftenError)=some (.type "type"))(mr_NoRun_OftenError:PySem.W.mroIn K C_NoRun (.ref C_OftenError)=some true)(mr_NotThere_OftenError:PySem.W.mroIn K C_NotThere (.ref C_OftenError)=some true)(mr_TooGreat_OftenError:PySem.W.mroIn K C_TooGreat (.ref C_OftenError)=some true)(gr_Store_take:FnOk P w K mg base (CXR P w) 5 a_Store_take fd_Store_take ["self","many","basket"] (kb K "Store" 2 x_Store_take))(gr_Store_put:FnOk P w K mg base (CXR P w) 5 a_Store_put fd_Store_put ["self","many","basket"] (kb K "Store" 2 x_Store_put))(ci_NotThere:ClsI K C_NotThere "there")(ci_TooGreat:ClsI K C_TooGreat "most"): FnOk P w K mg base CX0 6 fa fd ["_law_store","_law_taking","_law_many","_law_basket"] (q14 K "Store" 3 zb):=
 F.okOB (c:="Store") (k:=5) (n:=7) (ar:=3) (k1:=6) (u:=q0w) qae rfl rfl rfl fun Pn cdv A outer s H E hr=>(by exact qaf O_Store c_17 b_17 c_5 b_5 c_4 b_4 ns_NoRun cx_NoRun m_NoRun ns_NotThere cx_NotThere m_NotThere ns_OftenError cx_OftenError m_OftenError ns_TooGreat cx_TooGreat m_TooGreat tp_OftenError mr_NoRun_OftenError mr_NotThere_OftenError mr_TooGreat_OftenError gr_Store_take gr_Store_put ci_NotThere ci_TooGreat hr)
abbrev kh:Stmt:=top 32
noncomputable def q3w:List Str:=["_law_store","_law_many","_law_basket","_law_held","_law_taking"]
theorem q2u:(q3w).Nodup:=by decide +kernel
theorem qc0:FnScope q3w ["_law_store","_law_many","_law_basket"] (qg kh):=⟨rfl,rfl,rfl,q2u,rfl,by decide +kernel,by decide +kernel⟩
noncomputable def q1t:FS:=(q15 (q3n (q0d qdf (ku "Store" 0 3 zb (qa (eV 4) (qa (eV 1) (qa (eV 2) qh)))) (mP (eL (jm (qa (eL (jm (qa (eC (.str "run")) qh))) (qa (eC .non) qh)))))) (q0d q2q (xn "Store" "pile" 0 0 z6 qh) (mP (eV 3)))) (zj (eC (.bl false))) zo)
noncomputable def q1u:FS:=(qu (q7k 3 (xn "Store" "pile" 0 0 z6 qh)) (qu (q1i (q12 (eL (jm (qa (eC (.bl true)) (qa (eC (.bl false)) qh))))) (bN 4) q1t) (zj (eC (.bl true)))))
noncomputable def jv:Flds->List D->Option (Flds×D):=ko 5 "Store" q1u
theorem qc1[Pin]{fa:Addr}{cdv:Value}{A:Around}{outer:List Env}{s:Shared}{H:Hp}{E:XK}{C_Store:Addr}(O_Store:ClsF K "Store" C_Store ["wares","window","runs"]){a_Store_pile:Addr}{fd_Store_pile:FuncData}(c_3:CalF P w K mg base "Store" "pile" C_Store 1 ["self"] 0 z6 a_Store_pile fd_Store_pile)(b_3:Binds K fd_Store_pile ["self"] []){a__law_refused:Addr}{fd__law_refused:FuncData}(c_24:CalO P w K mg base "_law_refused" "Store" 6 ["_law_store","_law_taking","_law_many","_law_basket"] 3 zb a__law_refused fd__law_refused)(b_24:Binds K fd__law_refused ["_law_store","_law_taking","_law_many","_law_basket"] [])(hr:Room 6 (A.deeper (envOfC "_law_no_run" (qg kh) s.heap.objs.size fa cdv))):
  PSs (qx CX0 P w K mg base q3w "_law_no_run" (qg kh) fa cdv A outer s H E).nox (qr kh) (tDS K q1u):=by
 unfold q1u q1t;refine(qk ?_ ?_);refine(qa7 (i:=3) q2u rfl (Or.inl rfl) ?_);exact(wa O_Store c_3 b_3 hr (by decide) (pv 0));refine(qk ?_ ?_);refine(q0r ny rfl ?_ (xg q2u rfl (Or.inl rfl) (.inl rfl)) (ql ?_));refine(q02 ?_);refine(xr ?_);refine(zw ?_);walk_at "A";exact zr;walk_at "A";exact zr;exact qf;refine(q07 ?_ ?_ ?_);refine(PW.pt (q45 ?_ ?_));refine(q0t (qi6 hr.units) ?_ ?_);refine(k9 c_24 b_24 hr (by decide) rfl (pv 0) ?_);walk_at "A";exact(qc (pv 4));walk_at "A";exact(qc (pv 1));walk_at "A";exact(qc (pv 2));exact qf;refine(vv ?_);refine(xr ?_);refine(zw ?_);walk_at "A";refine(xr ?_);refine(zw ?_);walk_at "A";exact xa;exact qf;walk_at "A";exact jz;exact qf;refine(q3o ?_);refine(q0t (q0s hr.units) ?_ ?_);exact(wa O_Store c_3 b_3 hr (by decide) (pv 0));refine(vv ?_);exact(qc (pv 3));refine(ql ?_);exact(z0 zr);exact z7;refine(ql ?_);exact(z0 zr)
theorem qc2{fa:Addr}{dV:Value}{fd:FuncData}(F:Fun2 K "_law_no_run" "_law_no_run" kh dV fa fd){C_Store:Addr}(O_Store:ClsF K "Store" C_Store ["wares","window","runs"]){a_Store_pile:Addr}{fd_Store_pile:FuncData}(c_3:CalF P w K mg base "Store" "pile" C_Store 1 ["self"] 0 z6 a_Store_pile fd_Store_pile)(b_3:Binds K fd_Store_pile ["self"] []){a__law_refused:Addr}{fd__law_refused:FuncData}(c_24:CalO P w K mg base "_law_refused" "Store" 6 ["_law_store","_law_taking","_law_many","_law_basket"] 3 zb a__law_refused fd__law_refused)(b_24:Binds K fd__law_refused ["_law_store","_law_taking","_law_many","_law_basket"] []): FnOk P w K mg base CX0 7 fa fd ["_law_store","_law_many","_law_basket"] (q14 K "Store" 2 jv):=
 F.okOB (c:="Store") (k:=6) (n:=5) (ar:=2) (k1:=7) (u:=q1u) qc0 rfl rfl rfl fun Pn cdv A outer s H E hr=>(by exact qc1 O_Store c_3 b_3 c_24 b_24 hr)
abbrev vy:Stmt:=top 35
noncomputable def q26:List Str:=["_law_store","_law_wares","_law_far","_law_good","_law_many","_law_basket"]
theorem q00:(q26).Nodup:=by decide +kernel
theorem q9j:FnScope q26 ["_law_store","_law_wares","_law_far"] (qg vy):=⟨rfl,rfl,rfl,q00,rfl,by decide +kernel,by decide +kernel⟩
noncomputable def yx:FS:=(q15 (q0c (mbT (ku "Store" 0 2 jv (qa (eV 4) (qa (eV 3) qh))))) (zj (eC (.bl false))) zo)
noncomputable def yy:FS:=(q15 (q0c (mbT (ku "Store" 0 2 jv (qa (eC (.int 1)) (qa (eV 5) qh))))) (zj (eC (.bl false))) zo)
noncomputable def q0i:FS:=(qu (j5 3 (q99 (eV 1))) (qu (q1i (q12 (eL (jm (qa (eC (.int 0)) (qa (eOp oSub (eUn q4g (eC (.int 1))) (eV 2)) (qa (eC (.bl true)) (qa (eC .non) (qa (eC (.str "1")) (qa (eOp jk (eOp jk (eOp oPow (eC (.int 10)) (eC (.int 12))) (eC (.int 1))) (eV 2)) (qa (za (qa (eC (.int 1)) qh)) (qa (eL (jm (qa (eC (.int 1)) qh))) qh))))))))))) (bN 4) yx) (qu (q1i (q12 (qm (qq 2 [] kg) (qa (eV 1) (qa (eV 2) qh)))) (bN 5) yy) (zj (eC (.bl true))))))
noncomputable def ki:Flds->List D->Option (Flds×D):=ko 6 "Store" q0i
theorem q9k[Pin]{fa:Addr}{cdv:Value}{A:Around}{outer:List Env}{s:Shared}{H:Hp}{E:XK}{C_Store:Addr}(O_Store:ClsF K "Store" C_Store ["wares","window","runs"]){a__law_bad_sets:Addr}{fd__law_bad_sets:FuncData}(c_14:Cal P w K mg base "_law_bad_sets" 1 ["_law_wares","_law_far"] 2 kg a__law_bad_sets fd__law_bad_sets)(b_14:Binds K fd__law_bad_sets ["_law_wares","_law_far"] []){a__law_no_run:Addr}{fd__law_no_run:FuncData}(c_22:CalO P w K mg base "_law_no_run" "Store" 7 ["_law_store","_law_many","_law_basket"] 2 jv a__law_no_run fd__law_no_run)(b_22:Binds K fd__law_no_run ["_law_store","_law_many","_law_basket"] [])(n_tuple:mg "tuple" = none)(n_range:mg "range" = none)(hr:Room 7 (A.deeper (envOfC "_law_bad_runs" (qg vy) s.heap.objs.size fa cdv))):
  PSs (qx CX0 P w K mg base q26 "_law_bad_runs" (qg vy) fa cdv A outer s H E).nox (qr vy) (tDS K q0i):=by
 unfold q0i yy yx;refine(qk ?_ ?_);refine(j6 (i:=3) ?_ ?_ ?_ ?_ ?_ ?_);exact q00;exact rfl;exact(Or.inl rfl);refine(qb3 rfl rfl n_tuple rfl n_range ?_);exact(qc (pv 1));exact rfl;walk_at "L";refine(qk ?_ ?_);refine(q0r ny rfl ?_ (xg q00 rfl (Or.inl rfl) (.inl rfl)) (ql ?_));refine(q02 ?_);refine(xr ?_);refine(zw ?_);walk_at "A";exact qi;walk_at "A";refine(qt q3g ?_ ?_);exact(q3k qi);exact(qc (pv 2));walk_at "A";exact zr;walk_at "A";exact jz;walk_at "A";exact xa;walk_at "A";refine(qt j7 ?_ ?_);refine(qt j7 ?_ qi);exact(qt q0q qi qi);exact(qc (pv 2));walk_at "A";refine(qw ?_);walk_at "A";exact qi;exact qf;walk_at "A";refine(xr ?_);refine(zw ?_);walk_at "A";exact qi;exact qf;exact qf;refine(q07 ?_ ?_ ?_);refine(q1m ?_);refine(q1l ?_);refine(k9 c_22 b_22 hr (by decide) rfl (pv 0) ?_);walk_at "A";exact(qc (pv 4));walk_at "A";exact(qc (pv 3));exact qf;refine(ql ?_);exact(z0 zr);exact z7;refine(qk ?_ ?_);refine(q0r ny rfl ?_ (xg q00 rfl (Or.inl rfl) (.inl rfl)) (ql ?_));refine(q02 ?_);refine(zh c_14 b_14 hr (by decide) rfl ?_);walk_at "A";exact(qc (pv 1));walk_at "A";exact(qc (pv 2));exact qf;refine(q07 ?_ ?_ ?_);refine(q1m ?_);refine(q1l ?_);refine(k9 c_22 b_22 hr (by decide) rfl (pv 0) ?_);walk_at "A";exact qi;walk_at "A";exact(qc (pv 5));exact qf;refine(ql ?_);exact(z0 zr);exact z7;refine(ql ?_);exact(z0 zr)
theorem q9l{fa:Addr}{dV:Value}{fd:FuncData}(F:Fun2 K "_law_bad_runs" "_law_bad_runs" vy dV fa fd){C_Store:Addr}(O_Store:ClsF K "Store" C_Store ["wares","window","runs"]){a__law_bad_sets:Addr}{fd__law_bad_sets:FuncData}(c_14:Cal P w K mg base "_law_bad_sets" 1 ["_law_wares","_law_far"] 2 kg a__law_bad_sets fd__law_bad_sets)(b_14:Binds K fd__law_bad_sets ["_law_wares","_law_far"] []){a__law_no_run:Addr}{fd__law_no_run:FuncData}(c_22:CalO P w K mg base "_law_no_run" "Store" 7 ["_law_store","_law_many","_law_basket"] 2 jv a__law_no_run fd__law_no_run)(b_22:Binds K fd__law_no_run ["_law_store","_law_many","_law_basket"] [])(n_tuple:mg "tuple" = none)(n_range:mg "range" = none): FnOk P w K mg base CX0 8 fa fd ["_law_store","_law_wares","_law_far"] (q14 K "Store" 2 ki):=
 F.okOB (c:="Store") (k:=7) (n:=6) (ar:=2) (k1:=8) (u:=q0i) q9j rfl rfl rfl fun Pn cdv A outer s H E hr=>(by exact q9k O_Store c_14 b_14 c_22 b_22 n_tuple n_range hr)
abbrev q0j:Stmt:=top 38
noncomputable def q5x:List Str:=["_law_wares","_law_far","_law_most","_law_store","_law_k","_law_held"]
theorem q2g:(q5x).Nodup:=by decide +kernel
theorem qeq:FnScope q5x ["_law_wares","_law_far","_law_most"] (qg q0j):=⟨rfl,rfl,rfl,q2g,rfl,by decide +kernel,by decide +kernel⟩
noncomputable def q0x:FS:=(y0 (xn "Store" "put" 3 2 zp (qa (eOp jk (eC (.int 1)) (eOp oMod (eV 4) (eC (.int 3)))) (qa (q9a (eOp oMod (eV 4) (eV 0)) (eV 0)) qh))))
noncomputable def q32:FS:=(qu (qa8 "Store" 3 2 [] zf (qa (eV 0) (qa (eV 2) qh))) (qu (q1i (iR1 (qa (eC (.int 200)) qh)) (bN 4) q0x) (qu (q7k 5 (xn "Store" "pile" 3 0 z6 qh)) (qu (q15 (q3n (q0c (mbT (yr (qq 3 [] va) (w9 (ku "Store" 3 3 zb (qa (eC (.bl false)) (qa (eOp jk (eC (.int 5)) (eOp oMod (eV 1) (eC (.int 9)))) (qa (za (qa (eC (.int 0)) qh)) qh)))) (amP (qa (eC (.str "great")) (qa (eC (.int 200)) qh))))))) (q0d q2q (xn "Store" "pile" 3 0 z6 qh) (mP (eV 5)))) (zj (eC (.bl false))) zo) (qu (q15 (q3n (q0c (mbT (ku "Store" 3 2 jv (qa (eC (.int 1)) (qa (za (qa (eV 0) qh)) qh))))) (q0c (mbT (ku "Store" 3 2 jv (qa (eC (.int 0)) (qa (za (qa (eC (.int 0)) qh)) qh)))))) (zj (eC (.bl false))) zo) (qu (y0 (xn "Store" "take" 3 2 je (qa (eOp oIx (eOp oIx (eOp oIx (eV 5) (eC (.int 1))) (eC (.int 0))) (eC (.int 0))) (qa (eOp oIx (eOp oIx (eOp oIx (eV 5) (eC (.int 1))) (eC (.int 0))) (eC (.int 1))) qh)))) (qu (q15 (q3n (q0d q2q (xn "Store" "put" 3 2 zp (qa (eC (.int 1)) (qa (za (qa (eC (.int 0)) qh)) qh))) (mP (za qh))) (q0d q2q (yr q1j (w9 (mOp oIx (xn "Store" "pile" 3 0 z6 qh) (mP (eC (.int 1)))) (amP qh))) (mP (eC (.int 200))))) (zj (eC (.bl false))) zo) (q9b (yr (qq 3 [] va) (w9 (ku "Store" 3 3 zb (qa (eC (.bl false)) (qa (eC (.int 1)) (qa (za qh) qh)))) (amP (qa (eC (.str "great")) (qa (eC (.int 200)) qh)))))))))))))
noncomputable def q0k:List D->Option D:=jr 6 q32
theorem q85{fa:Addr}{cdv:Value}{A:Around}{outer:List Env}{s:Shared}{H:Hp}{E:XK}{C_Store:Addr}(O_Store:ClsF K "Store" C_Store ["wares","window","runs"]){a_Store___init__:Addr}{fd_Store___init__:FuncData}(M_Store:MkF P w K mg base "Store" C_Store 3 ["self","wares","window"] 2 zf a_Store___init__ fd_Store___init__)(b_1:Binds K fd_Store___init__ ["self","wares","window"] []){a_Store_pile:Addr}{fd_Store_pile:FuncData}(c_3:CalF P w K mg base "Store" "pile" C_Store 1 ["self"] 0 z6 a_Store_pile fd_Store_pile)(b_3:Binds K fd_Store_pile ["self"] []){a_Store_take:Addr}{fd_Store_take:FuncData}(c_5:CalF P w K mg base "Store" "take" C_Store 5 ["self","many","basket"] 2 je a_Store_take fd_Store_take)(b_5:Binds K fd_Store_take ["self","many","basket"] []){a_Store_put:Addr}{fd_Store_put:FuncData}(c_4:CalF P w K mg base "Store" "put" C_Store 5 ["self","many","basket"] 2 zp a_Store_put fd_Store_put)(b_4:Binds K fd_Store_put ["self","many","basket"] []){a__law_is:Addr}{fd__law_is:FuncData}(c_20:Cal P w K mg base "_law_is" 1 ["_law_found","_law_word","_law_number"] 3 va a__law_is fd__law_is)(b_20:Binds K fd__law_is ["_law_found","_law_word","_law_number"] []){a__law_refused:Addr}{fd__law_refused:FuncData}(c_24:CalO P w K mg base "_law_refused" "Store" 6 ["_law_store","_law_taking","_law_many","_law_basket"] 3 zb a__law_refused fd__law_refused)(b_24:Binds K fd__law_refused ["_law_store","_law_taking","_law_many","_law_basket"] []){a__law_no_run:Addr}{fd__law_no_run:FuncData}(c_22:CalO P w K mg base "_law_no_run" "Store" 7 ["_law_store","_law_many","_law_basket"] 2 jv a__law_no_run fd__law_no_run)(b_22:Binds K fd__law_no_run ["_law_store","_law_many","_law_basket"] [])(n_range:mg "range" = none)(n_tuple:mg "tuple" = none)(n_len:mg "len" = none)(hr:Room 7 (A.deeper (envOfC "_law_full" (qg q0j) s.heap.objs.size fa cdv))):
  PSs (qx CX0 P w K mg base q5x "_law_full" (qg q0j) fa cdv A outer s H E).nox (qr q0j) (tDS K q32):=by
 unfold q32 q0x;refine(qk ?_ ?_);refine(qdk (i:=3) rfl M_Store hr (by decide) rfl b_1 .nil (fun _=>.nil) ?_ q2g rfl (Or.inl rfl));walk_at "A";exact(qc (pv 0));walk_at "A";exact(qc (pv 2));exact qf;refine(qk ?_ ?_);refine(q0r ny rfl ?_ (xg q2g rfl (Or.inl rfl) (.inl rfl)) (ql ?_));refine(qay rfl n_range ?_);walk_at "A";exact qi;exact qf;refine(yp ?_);refine(k8 O_Store c_4 b_4 hr (by decide) (pv 3) ?_);walk_at "A";refine(qt j7 qi ?_);refine(qt xc ?_ qi);exact(qc (pv 4));walk_at "A";refine(qgp rfl rfl n_tuple rfl n_range ?_ ?_);refine(qt xc ?_ ?_);exact(qc (pv 4));exact(qc (pv 0));exact(qc (pv 0));exact qf;refine(qk ?_ ?_);refine(qa7 (i:=5) q2g rfl (Or.inl rfl) ?_);exact(wa O_Store c_3 b_3 hr (by decide) (pv 3));refine(qk ?_ ?_);refine(q07 ?_ ?_ ?_);refine(PW.pt (q45 ?_ ?_));refine(q1m ?_);refine(q1l ?_);refine(q6i c_20 b_20 hr (by decide) rfl (q1e ?_ ?_));refine(k9 c_24 b_24 hr (by decide) rfl (pv 3) ?_);walk_at "A";exact zr;walk_at "A";refine(qt j7 qi ?_);refine(qt xc ?_ qi);exact(qc (pv 1));walk_at "A";refine(qw ?_);walk_at "A";exact qi;exact qf;exact qf;refine(q21 ?_);walk_at "A";exact xa;walk_at "A";exact qi;exact qf;refine(q3o ?_);refine(q0t (q0s hr.units) ?_ ?_);exact(wa O_Store c_3 b_3 hr (by decide) (pv 3));refine(vv ?_);exact(qc (pv 5));refine(ql ?_);exact(z0 zr);exact z7;refine(qk ?_ ?_);refine(q07 ?_ ?_ ?_);refine(PW.pt (q45 ?_ ?_));refine(q1m ?_);refine(q1l ?_);refine(k9 c_22 b_22 hr (by decide) rfl (pv 3) ?_);walk_at "A";exact qi;walk_at "A";refine(qw ?_);walk_at "A";exact(qc (pv 0));exact qf;exact qf;refine(q3o ?_);refine(q1m ?_);refine(q1l ?_);refine(k9 c_22 b_22 hr (by decide) rfl (pv 3) ?_);walk_at "A";exact qi;walk_at "A";refine(qw ?_);walk_at "A";exact qi;exact qf;exact qf;refine(ql ?_);exact(z0 zr);exact z7;refine(qk ?_ ?_);refine(yp ?_);refine(k8 O_Store c_5 b_5 hr (by decide) (pv 3) ?_);walk_at "A";refine(xj ?_ qi);refine(xj ?_ qi);refine(xj ?_ qi);exact(qc (pv 5));walk_at "A";refine(xj ?_ qi);refine(xj ?_ qi);refine(xj ?_ qi);exact(qc (pv 5));exact qf;refine(qk ?_ ?_);refine(q07 ?_ ?_ ?_);refine(PW.pt (q45 ?_ ?_));refine(q0t (q0s hr.units) ?_ ?_);refine(k8 O_Store c_4 b_4 hr (by decide) (pv 3) ?_);walk_at "A";exact qi;walk_at "A";refine(qw ?_);walk_at "A";exact qi;exact qf;exact qf;refine(vv ?_);exact(qw qf);refine(q3o ?_);refine(q0t (q0s hr.units) ?_ ?_);refine(qki (q4t) rfl n_len DL.q1c (q1e ?_ ?_));refine(qqc ?_ ?_);exact(wa O_Store c_3 b_3 hr (by decide) (pv 3));exact(vv qi);exact(q21 qf);exact(vv qi);refine(ql ?_);exact(z0 zr);exact z7;refine(ql ?_);refine(qfh ?_);refine(q6i c_20 b_20 hr (by decide) rfl (q1e ?_ ?_));refine(k9 c_24 b_24 hr (by decide) rfl (pv 3) ?_);walk_at "A";exact zr;walk_at "A";exact qi;walk_at "A";exact(qw qf);exact qf;refine(q21 ?_);walk_at "A";exact xa;walk_at "A";exact qi;exact qf
theorem qer{fa:Addr}{dV:Value}{fd:FuncData}(F:Fun2 K "_law_full" "_law_full" q0j dV fa fd){C_Store:Addr}(O_Store:ClsF K "Store" C_Store ["wares","window","runs"]){a_Store___init__:Addr}{fd_Store___init__:FuncData}(M_Store:MkF P w K mg base "Store" C_Store 3 ["self","wares","window"] 2 zf a_Store___init__ fd_Store___init__)(b_1:Binds K fd_Store___init__ ["self","wares","window"] []){a_Store_pile:Addr}{fd_Store_pile:FuncData}(c_3:CalF P w K mg base "Store" "pile" C_Store 1 ["self"] 0 z6 a_Store_pile fd_Store_pile)(b_3:Binds K fd_Store_pile ["self"] []){a_Store_take:Addr}{fd_Store_take:FuncData}(c_5:CalF P w K mg base "Store" "take" C_Store 5 ["self","many","basket"] 2 je a_Store_take fd_Store_take)(b_5:Binds K fd_Store_take ["self","many","basket"] []){a_Store_put:Addr}{fd_Store_put:FuncData}(c_4:CalF P w K mg base "Store" "put" C_Store 5 ["self","many","basket"] 2 zp a_Store_put fd_Store_put)(b_4:Binds K fd_Store_put ["self","many","basket"] []){a__law_is:Addr}{fd__law_is:FuncData}(c_20:Cal P w K mg base "_law_is" 1 ["_law_found","_law_word","_law_number"] 3 va a__law_is fd__law_is)(b_20:Binds K fd__law_is ["_law_found","_law_word","_law_number"] []){a__law_refused:Addr}{fd__law_refused:FuncData}(c_24:CalO P w K mg base "_law_refused" "Store" 6 ["_law_store","_law_taking","_law_many","_law_basket"] 3 zb a__law_refused fd__law_refused)(b_24:Binds K fd__law_refused ["_law_store","_law_taking","_law_many","_law_basket"] []){a__law_no_run:Addr}{fd__law_no_run:FuncData}(c_22:CalO P w K mg base "_law_no_run" "Store" 7 ["_law_store","_law_many","_law_basket"] 2 jv a__law_no_run fd__law_no_run)(b_22:Binds K fd__law_no_run ["_law_store","_law_many","_law_basket"] [])(n_range:mg "range" = none)(n_tuple:mg "tuple" = none)(n_len:mg "len" = none): FnOk P w K mg base CX0 8 fa fd ["_law_wares","_law_far","_law_most"] (spD K 3 q0k):=
 F.okn (k:=7) (n:=6) (ar:=3) (k1:=8) (u:=q32) qeq rfl rfl rfl fun cdv A outer s H E hr=>(by first|(with_reducible exact q85 O_Store M_Store b_1 c_3 b_3 c_5 b_5 c_4 b_4 c_20 b_20 c_24 b_24 c_22 b_22 n_range n_tuple n_len hr)|exact q85 O_Store M_Store b_1 c_3 b_3 c_5 b_5 c_4 b_4 c_20 b_20 c_24 b_24 c_22 b_22 n_range n_tuple n_len hr)
abbrev q7l:Stmt:=top 39
noncomputable def qgu:List Str:=["_law_script","_law_far","_law_wares","_law_most","_law_store","_law_runs","_law_many","_law_basket","_law_held","_law_there"]
theorem q08:(qgu).Nodup:=by decide +kernel
theorem qou:FnScope qgu ["_law_script"] (qg q7l):=⟨rfl,rfl,rfl,q08,rfl,by decide +kernel,by decide +kernel⟩
noncomputable def q27:FS:=(y0 (xn "Store" "put" 4 2 zp (qa (eV 6) (qa (eV 7) qh))))
noncomputable def qcf:FS:=(qu (j5 1 (eOp oMod (eOp js (qm (qq 2 [] ju) (qa (qm (qq 2 [] zk) (qa (eV 0) (qa (eC (.int 1)) qh))) (qa (eC (.int 1)) qh))) (qm (qq 2 [] ju) (qa (qm (qq 2 [] zk) (qa (eV 0) (qa (eC (.int 2)) qh))) (qa (eC (.int 2)) qh)))) (eOp oPow (eC (.int 10)) (eC (.int 15))))) (qu (sIf (j9 oEq (eOp oMod (qm (qq 2 [] zk) (qa (eV 0) (qa (eC (.int 0)) qh))) (eC (.int 2))) (eC (.int 0))) (j5 1 (eOp oMod (qm (qq 2 [] zk) (qa (eV 0) (qa (eC (.int 1)) qh))) (eOp oPow (eC (.int 10)) (eC (.int 15))))) zo) (qu (j5 2 (eOp jk (eC (.int 1)) (eOp oMod (eOp oDiv (qm (qq 2 [] zk) (qa (eV 0) (qa (eC (.int 0)) qh))) (eC (.int 2))) (eC (.int 6))))) (qu (j5 3 (eOp oIx (eL (jm (qa (eC .non) (qa (eOp oPow (eC (.int 10)) (eC (.int 15))) qh)))) (eOp oMod (eOp oDiv (qm (qq 2 [] zk) (qa (eV 0) (qa (eC (.int 0)) qh))) (eC (.int 12))) (eC (.int 2))))) (qu (qa8 "Store" 4 2 [] zf (qa (eV 2) (qa (eV 3) qh))) (qu (j5 5 (eL (jm (qa (za (qa (eOp jk (eC (.int 1)) (eOp oMod (eV 1) (eC (.int 7)))) (qa (za (qa (eC (.int 0)) qh)) qh))) (qa (za (qa (eC (.int 2)) (qa (za qh) qh))) (qa (za (qa (eOp jk (eC (.int 3)) (eOp oMod (eV 1) (eC (.int 5)))) (qa (za (qa (eC (.int 0)) qh)) qh))) qh)))))) (qu (q1i (q12 (eV 5)) (q11 2 (xt (bN 6) (xt (bN 7) q10))) q27) (qu (j5 8 (za (qa (eV 2) (qa (qm q3j (qa (eV 5) qh)) qh)))) (qu (sIf (bOr (xl (bT (qm (qq 1 [] vj) (qa (eV 1) qh)))) (xl (bT (qm (qq 1 [] ya) (qa (eV 1) qh))))) (zj (eC (.bl false))) zo) (qu (q15 (q3n (q0c (mbT (ku "Store" 4 2 ki (qa (eV 2) (qa (eV 1) qh))))) (q0d q2q (xn "Store" "pile" 4 0 z6 qh) (mP (eV 8)))) (zj (eC (.bl false))) zo) (qu (j5 9 (eOp jk (eOp oIx (eOp oIx (eV 5) (eC (.int 0))) (eC (.int 0))) (eOp oIx (eOp oIx (eV 5) (eC (.int 2))) (eC (.int 0))))) (qu (q15 (q0c (mbT (yr (qq 3 [] va) (w9 (ku "Store" 4 3 zb (qa (eC (.bl true)) (qa (eOp jk (eOp jk (eV 9) (eC (.int 1))) (eOp oMod (eV 1) (eOp oPow (eC (.int 10)) (eC (.int 11))))) (qa (za (qa (eC (.int 0)) qh)) qh)))) (amP (qa (eC (.str "there")) (qa (eV 9) qh))))))) (zj (eC (.bl false))) zo) (qu (q15 (q5j (bmP (j9 oGt (eV 2) (eC (.int 1)))) (q0c (mbT (yr (qq 3 [] va) (w9 (ku "Store" 4 3 zb (qa (eC (.bl true)) (qa (eOp jk (eC (.int 1)) (eOp oMod (eV 1) (eC (.int 9)))) (qa (za (qa (eC (.int 1)) qh)) qh)))) (amP (qa (eC (.str "there")) (qa (eC (.int 0)) qh)))))))) (zj (eC (.bl false))) zo) (qu (q15 (q3n (q0c (mbT (yr (qq 3 [] va) (w9 (ku "Store" 4 3 zb (qa (eC (.bl true)) (qa (eC (.int 3)) (qa (za qh) qh)))) (amP (qa (eC (.str "there")) (qa (eC (.int 2)) qh))))))) (q0d q2q (xn "Store" "pile" 4 0 z6 qh) (mP (eV 8)))) (zj (eC (.bl false))) zo) (qu (sIf (q1y (j9 oEq (eOp oMod (eOp oDiv (qm (qq 2 [] zk) (qa (eV 0) (qa (eC (.int 0)) qh))) (eC (.int 24))) (eC (.int 4))) (eC (.int 0))) (xl (bT (qm (qq 3 [] q0k) (qa (eV 2) (qa (eV 1) (qa (eOp oIx (eL (jm (qa (eC .non) (qa (eC (.int 400)) (qa (eOp oPow (eC (.int 10)) (eC (.int 15))) qh))))) (eOp oMod (eV 1) (eC (.int 3)))) qh))))))) (zj (eC (.bl false))) zo) (qu (y0 (xn "Store" "take" 4 2 je (qa (eV 9) (qa (za (qa (eC (.int 0)) qh)) qh)))) (q9b (mOp oEq (xn "Store" "pile" 4 0 z6 qh) (mP (za (qa (eV 2) (qa (za (qa (za (qa (eC (.int 2)) (qa (za qh) qh))) qh)) qh))))))))))))))))))))))
noncomputable def qgv:List D->Option D:=jr 10 qcf
theorem qio{fa:Addr}{cdv:Value}{A:Around}{outer:List Env}{s:Shared}{H:Hp}{E:XK}{C_Store:Addr}(O_Store:ClsF K "Store" C_Store ["wares","window","runs"]){a_Store___init__:Addr}{fd_Store___init__:FuncData}(M_Store:MkF P w K mg base "Store" C_Store 3 ["self","wares","window"] 2 zf a_Store___init__ fd_Store___init__)(b_1:Binds K fd_Store___init__ ["self","wares","window"] []){a_Store_take:Addr}{fd_Store_take:FuncData}(c_5:CalF P w K mg base "Store" "take" C_Store 5 ["self","many","basket"] 2 je a_Store_take fd_Store_take)(b_5:Binds K fd_Store_take ["self","many","basket"] []){a_Store_put:Addr}{fd_Store_put:FuncData}(c_4:CalF P w K mg base "Store" "put" C_Store 5 ["self","many","basket"] 2 zp a_Store_put fd_Store_put)(b_4:Binds K fd_Store_put ["self","many","basket"] []){a_Store_pile:Addr}{fd_Store_pile:FuncData}(c_3:CalF P w K mg base "Store" "pile" C_Store 1 ["self"] 0 z6 a_Store_pile fd_Store_pile)(b_3:Binds K fd_Store_pile ["self"] []){a__law_is:Addr}{fd__law_is:FuncData}(c_20:Cal P w K mg base "_law_is" 1 ["_law_found","_law_word","_law_number"] 3 va a__law_is fd__law_is)(b_20:Binds K fd__law_is ["_law_found","_law_word","_law_number"] []){a__law_mixed:Addr}{fd__law_mixed:FuncData}(c_21:Cal P w K mg base "_law_mixed" 1 ["_law_cell_here","_law_k"] 2 ju a__law_mixed fd__law_mixed)(b_21:Binds K fd__law_mixed ["_law_cell_here","_law_k"] []){a__law_cell:Addr}{fd__law_cell:FuncData}(c_16:Cal P w K mg base "_law_cell" 1 ["_law_script","_law_k"] 2 zk a__law_cell fd__law_cell)(b_16:Binds K fd__law_cell ["_law_script","_law_k"] []){a__law_good_stores:Addr}{fd__law_good_stores:FuncData}(c_19:Cal P w K mg base "_law_good_stores" 6 ["_law_far"] 1 vj a__law_good_stores fd__law_good_stores)(b_19:Binds K fd__law_good_stores ["_law_far"] []){a__law_bad_stores:Addr}{fd__law_bad_stores:FuncData}(c_15:Cal P w K mg base "_law_bad_stores" 6 ["_law_far"] 1 ya a__law_bad_stores fd__law_bad_stores)(b_15:Binds K fd__law_bad_stores ["_law_far"] []){a__law_bad_runs:Addr}{fd__law_bad_runs:FuncData}(c_13:CalO P w K mg base "_law_bad_runs" "Store" 8 ["_law_store","_law_wares","_law_far"] 2 ki a__law_bad_runs fd__law_bad_runs)(b_13:Binds K fd__law_bad_runs ["_law_store","_law_wares","_law_far"] []){a__law_refused:Addr}{fd__law_refused:FuncData}(c_24:CalO P w K mg base "_law_refused" "Store" 6 ["_law_store","_law_taking","_law_many","_law_basket"] 3 zb a__law_refused fd__law_refused)(b_24:Binds K fd__law_refused ["_law_store","_law_taking","_law_many","_law_basket"] []){a__law_full:Addr}{fd__law_full:FuncData}(c_18:Cal P w K mg base "_law_full" 8 ["_law_wares","_law_far","_law_most"] 3 q0k a__law_full fd__law_full)(b_18:Binds K fd__law_full ["_law_wares","_law_far","_law_most"] [])(n_tuple:mg "tuple" = none)(hr:Room 8 (A.deeper (envOfC "law" (qg q7l) s.heap.objs.size fa cdv))):
  PSs (qx CX0 P w K mg base qgu "law" (qg q7l) fa cdv A outer s H E).nox (qr q7l) (tDS K qcf):=by
 unfold qcf q27;refine(qk ?_ ?_);refine(j6 (i:=1) ?_ ?_ ?_ ?_ ?_ ?_);exact q08;exact rfl;exact(Or.inl rfl);refine(qt xc ?_ ?_);refine(qt q04 ?_ ?_);refine(zh c_21 b_21 hr (by decide) rfl ?_);walk_at "A";refine(zh c_16 b_16 hr (by decide) rfl ?_);walk_at "A";exact(qc (pv 0));walk_at "A";exact qi;exact qf;walk_at "A";exact qi;exact qf;refine(zh c_21 b_21 hr (by decide) rfl ?_);walk_at "A";refine(zh c_16 b_16 hr (by decide) rfl ?_);walk_at "A";exact(qc (pv 0));walk_at "A";exact qi;exact qf;walk_at "A";exact qi;exact qf;exact(qt q0q qi qi);exact rfl;walk_at "L";refine(qk ?_ ?_);refine(jg ?_ (ql ?_) z7);refine(ji (q31 hr.units) ?_ qi);refine(qt xc ?_ qi);refine(zh c_16 b_16 hr (by decide) rfl ?_);walk_at "A";exact(qc (pv 0));walk_at "A";exact qi;exact qf;refine(j6 (i:=1) ?_ ?_ ?_ ?_ ?_ ?_);exact q08;exact rfl;exact(Or.inl rfl);refine(qt xc ?_ ?_);refine(zh c_16 b_16 hr (by decide) rfl ?_);walk_at "A";exact(qc (pv 0));walk_at "A";exact qi;exact qf;exact(qt q0q qi qi);exact rfl;walk_at "L";refine(qk ?_ ?_);refine(j6 (i:=2) ?_ ?_ ?_ ?_ ?_ ?_);exact q08;exact rfl;exact(Or.inl rfl);refine(qt j7 qi ?_);refine(qt xc ?_ qi);refine(qt qcp ?_ qi);refine(zh c_16 b_16 hr (by decide) rfl ?_);walk_at "A";exact(qc (pv 0));walk_at "A";exact qi;exact qf;exact rfl;walk_at "L";refine(qk ?_ ?_);refine(j6 (i:=3) ?_ ?_ ?_ ?_ ?_ ?_);exact q08;exact rfl;exact(Or.inl rfl);refine(xj ?_ ?_);refine(xr ?_);refine(zw ?_);walk_at "A";exact jz;walk_at "A";exact(qt q0q qi qi);exact qf;refine(qt xc ?_ qi);refine(qt qcp ?_ qi);refine(zh c_16 b_16 hr (by decide) rfl ?_);walk_at "A";exact(qc (pv 0));walk_at "A";exact qi;exact qf;exact rfl;walk_at "L";refine(qk ?_ ?_);refine(qdk (i:=4) rfl M_Store hr (by decide) rfl b_1 .nil (fun _=>.nil) ?_ q08 rfl (Or.inl rfl));walk_at "A";exact(qc (pv 2));walk_at "A";exact(qc (pv 3));exact qf;refine(qk ?_ ?_);refine(j6 (i:=5) ?_ ?_ ?_ ?_ ?_ ?_);exact q08;exact rfl;exact(Or.inl rfl);refine(xr ?_);refine(zw ?_);walk_at "A";refine(qw ?_);walk_at "A";refine(qt j7 qi ?_);refine(qt xc ?_ qi);exact(qc (pv 1));walk_at "A";refine(qw ?_);walk_at "A";exact qi;exact qf;exact qf;walk_at "A";refine(qw ?_);walk_at "A";exact qi;walk_at "A";exact(qw qf);exact qf;walk_at "A";refine(qw ?_);walk_at "A";refine(qt j7 qi ?_);refine(qt xc ?_ qi);exact(qc (pv 1));walk_at "A";refine(qw ?_);walk_at "A";exact qi;exact qf;exact qf;exact qf;exact rfl;walk_at "L";refine(qk ?_ ?_);refine(q0r ny rfl ?_ (qcv rfl (q36 (xg q08 rfl (Or.inl rfl) (.inl rfl)) (q36 (xg q08 rfl (Or.inl rfl) (.inl rfl)) qcu))) (ql ?_));refine(q02 ?_);exact(qc (pv 5));refine(yp ?_);refine(k8 O_Store c_4 b_4 hr (by decide) (pv 4) ?_);walk_at "A";exact(qc (pv 6));walk_at "A";exact(qc (pv 7));exact qf;refine(qk ?_ ?_);refine(j6 (i:=8) ?_ ?_ ?_ ?_ ?_ ?_);exact q08;exact rfl;exact(Or.inl rfl);refine(qw ?_);walk_at "A";exact(qc (pv 2));walk_at "A";refine(q6d (q8e) rfl n_tuple DL.boot_tuple ?_);walk_at "A";exact(qc (pv 5));exact qf;exact qf;exact rfl;walk_at "L";refine(qk ?_ ?_);refine(jg ?_ (ql ?_) z7);refine(PW.pt (q7b ?_ (q6b ?_)));refine(v8 ?_);refine(ja ?_);refine(zh c_19 b_19 hr (by decide) rfl ?_);walk_at "A";exact(qc (pv 1));exact qf;refine(v8 ?_);refine(ja ?_);refine(zh c_15 b_15 hr (by decide) rfl ?_);walk_at "A";exact(qc (pv 1));exact qf;exact(z0 zr);refine(qk ?_ ?_);refine(q07 ?_ ?_ ?_);refine(PW.pt (q45 ?_ ?_));refine(q1m ?_);refine(q1l ?_);refine(k9 c_13 b_13 hr (by decide) rfl (pv 4) ?_);walk_at "A";exact(qc (pv 2));walk_at "A";exact(qc (pv 1));exact qf;refine(q3o ?_);refine(q0t (q0s hr.units) ?_ ?_);exact(wa O_Store c_3 b_3 hr (by decide) (pv 4));refine(vv ?_);exact(qc (pv 8));refine(ql ?_);exact(z0 zr);exact z7;refine(qk ?_ ?_);refine(j6 (i:=9) ?_ ?_ ?_ ?_ ?_ ?_);exact q08;exact rfl;exact(Or.inl rfl);refine(qt j7 ?_ ?_);refine(xj ?_ qi);refine(xj ?_ qi);exact(qc (pv 5));refine(xj ?_ qi);refine(xj ?_ qi);exact(qc (pv 5));exact rfl;walk_at "L";refine(qk ?_ ?_);refine(q07 ?_ ?_ ?_);refine(q1m ?_);refine(q1l ?_);refine(q6i c_20 b_20 hr (by decide) rfl (q1e ?_ ?_));refine(k9 c_24 b_24 hr (by decide) rfl (pv 4) ?_);walk_at "A";exact zr;walk_at "A";refine(qt j7 ?_ ?_);refine(qt j7 ?_ qi);exact(qc (pv 9));refine(qt xc ?_ ?_);exact(qc (pv 1));exact(qt q0q qi qi);walk_at "A";refine(qw ?_);walk_at "A";exact qi;exact qf;exact qf;refine(q21 ?_);walk_at "A";exact xa;walk_at "A";exact(qc (pv 9));exact qf;refine(ql ?_);exact(z0 zr);exact z7;refine(qk ?_ ?_);refine(q07 ?_ ?_ ?_);refine(PW.pt (qol ?_ ?_));refine(qma ?_);refine(ji ql5 ?_ qi);exact(qc (pv 2));refine(qmc ?_);refine(q1m ?_);refine(q1l ?_);refine(q6i c_20 b_20 hr (by decide) rfl (q1e ?_ ?_));refine(k9 c_24 b_24 hr (by decide) rfl (pv 4) ?_);walk_at "A";exact zr;walk_at "A";refine(qt j7 qi ?_);refine(qt xc ?_ qi);exact(qc (pv 1));walk_at "A";refine(qw ?_);walk_at "A";exact qi;exact qf;exact qf;refine(q21 ?_);walk_at "A";exact xa;walk_at "A";exact qi;exact qf;refine(ql ?_);exact(z0 zr);exact z7;refine(qk ?_ ?_);refine(q07 ?_ ?_ ?_);refine(PW.pt (q45 ?_ ?_));refine(q1m ?_);refine(q1l ?_);refine(q6i c_20 b_20 hr (by decide) rfl (q1e ?_ ?_));refine(k9 c_24 b_24 hr (by decide) rfl (pv 4) ?_);walk_at "A";exact zr;walk_at "A";exact qi;walk_at "A";exact(qw qf);exact qf;refine(q21 ?_);walk_at "A";exact xa;walk_at "A";exact qi;exact qf;refine(q3o ?_);refine(q0t (q0s hr.units) ?_ ?_);exact(wa O_Store c_3 b_3 hr (by decide) (pv 4));refine(vv ?_);exact(qc (pv 8));refine(ql ?_);exact(z0 zr);exact z7;refine(qk ?_ ?_);refine(jg ?_ (ql ?_) z7);refine(PW.pt (q94 ?_ (q7a ?_)));refine(ji (q31 hr.units) ?_ qi);refine(qt xc ?_ qi);refine(qt qcp ?_ qi);refine(zh c_16 b_16 hr (by decide) rfl ?_);walk_at "A";exact(qc (pv 0));walk_at "A";exact qi;exact qf;refine(v8 ?_);refine(ja ?_);refine(zh c_18 b_18 hr (by decide) rfl ?_);walk_at "A";exact(qc (pv 2));walk_at "A";exact(qc (pv 1));walk_at "A";refine(xj ?_ ?_);refine(xr ?_);refine(zw ?_);walk_at "A";exact jz;walk_at "A";exact qi;walk_at "A";exact(qt q0q qi qi);exact qf;refine(qt xc ?_ qi);exact(qc (pv 1));exact qf;exact(z0 zr);refine(qk ?_ ?_);refine(yp ?_);refine(k8 O_Store c_5 b_5 hr (by decide) (pv 4) ?_);walk_at "A";exact(qc (pv 9));walk_at "A";refine(qw ?_);walk_at "A";exact qi;exact qf;exact qf;refine(ql ?_);refine(qfh ?_);refine(qot (q31 hr.units) ?_ ?_);exact(wa O_Store c_3 b_3 hr (by decide) (pv 4));refine(vv ?_);refine(qw ?_);walk_at "A";exact(qc (pv 2));walk_at "A";refine(qw ?_);walk_at "A";refine(qw ?_);walk_at "A";exact qi;walk_at "A";exact(qw qf);exact qf;exact qf;exact qf
theorem qov{fa:Addr}{dV:Value}{fd:FuncData}(F:Fun2 K "law" "law" q7l dV fa fd){C_Store:Addr}(O_Store:ClsF K "Store" C_Store ["wares","window","runs"]){a_Store___init__:Addr}{fd_Store___init__:FuncData}(M_Store:MkF P w K mg base "Store" C_Store 3 ["self","wares","window"] 2 zf a_Store___init__ fd_Store___init__)(b_1:Binds K fd_Store___init__ ["self","wares","window"] []){a_Store_take:Addr}{fd_Store_take:FuncData}(c_5:CalF P w K mg base "Store" "take" C_Store 5 ["self","many","basket"] 2 je a_Store_take fd_Store_take)(b_5:Binds K fd_Store_take ["self","many","basket"] []){a_Store_put:Addr}{fd_Store_put:FuncData}(c_4:CalF P w K mg base "Store" "put" C_Store 5 ["self","many","basket"] 2 zp a_Store_put fd_Store_put)(b_4:Binds K fd_Store_put ["self","many","basket"] []){a_Store_pile:Addr}{fd_Store_pile:FuncData}(c_3:CalF P w K mg base "Store" "pile" C_Store 1 ["self"] 0 z6 a_Store_pile fd_Store_pile)(b_3:Binds K fd_Store_pile ["self"] []){a__law_is:Addr}{fd__law_is:FuncData}(c_20:Cal P w K mg base "_law_is" 1 ["_law_found","_law_word","_law_number"] 3 va a__law_is fd__law_is)(b_20:Binds K fd__law_is ["_law_found","_law_word","_law_number"] []){a__law_mixed:Addr}{fd__law_mixed:FuncData}(c_21:Cal P w K mg base "_law_mixed" 1 ["_law_cell_here","_law_k"] 2 ju a__law_mixed fd__law_mixed)(b_21:Binds K fd__law_mixed ["_law_cell_here","_law_k"] []){a__law_cell:Addr}{fd__law_cell:FuncData}(c_16:Cal P w K mg base "_law_cell" 1 ["_law_script","_law_k"] 2 zk a__law_cell fd__law_cell)(b_16:Binds K fd__law_cell ["_law_script","_law_k"] []){a__law_good_stores:Addr}{fd__law_good_stores:FuncData}(c_19:Cal P w K mg base "_law_good_stores" 6 ["_law_far"] 1 vj a__law_good_stores fd__law_good_stores)(b_19:Binds K fd__law_good_stores ["_law_far"] []){a__law_bad_stores:Addr}{fd__law_bad_stores:FuncData}(c_15:Cal P w K mg base "_law_bad_stores" 6 ["_law_far"] 1 ya a__law_bad_stores fd__law_bad_stores)(b_15:Binds K fd__law_bad_stores ["_law_far"] []){a__law_bad_runs:Addr}{fd__law_bad_runs:FuncData}(c_13:CalO P w K mg base "_law_bad_runs" "Store" 8 ["_law_store","_law_wares","_law_far"] 2 ki a__law_bad_runs fd__law_bad_runs)(b_13:Binds K fd__law_bad_runs ["_law_store","_law_wares","_law_far"] []){a__law_refused:Addr}{fd__law_refused:FuncData}(c_24:CalO P w K mg base "_law_refused" "Store" 6 ["_law_store","_law_taking","_law_many","_law_basket"] 3 zb a__law_refused fd__law_refused)(b_24:Binds K fd__law_refused ["_law_store","_law_taking","_law_many","_law_basket"] []){a__law_full:Addr}{fd__law_full:FuncData}(c_18:Cal P w K mg base "_law_full" 8 ["_law_wares","_law_far","_law_most"] 3 q0k a__law_full fd__law_full)(b_18:Binds K fd__law_full ["_law_wares","_law_far","_law_most"] [])(n_tuple:mg "tuple" = none): FnOk P w K mg base CX0 9 fa fd ["_law_script"] (spD K 1 qgv):=
 F.okn (k:=8) (n:=10) (ar:=1) (k1:=9) (u:=qcf) qou rfl rfl rfl fun cdv A outer s H E hr=>(by first|(with_reducible exact qio O_Store M_Store b_1 c_5 b_5 c_4 b_4 c_3 b_3 c_20 b_20 c_21 b_21 c_16 b_16 c_19 b_19 c_15 b_15 c_13 b_13 c_24 b_24 c_18 b_18 n_tuple hr)|exact qio O_Store M_Store b_1 c_5 b_5 c_4 b_4 c_3 b_3 c_20 b_20 c_21 b_21 c_16 b_16 c_19 b_19 c_15 b_15 c_13 b_13 c_24 b_24 c_18 b_18 n_tuple hr)
end
end My
namespace DL
open PySem L2
theorem qe1(a b:Int): decide (V.int a=V.int b)=decide (a=b):=decide_eq_decide.mpr ⟨fun h=>by injection h,fun h=>by rw [h]⟩
theorem q28(a b:Int): oEq (.int a) (.int b)=some (.bl (decide (a=b))):=by
 simp only [oEq,qjs,flD,q9w,gb,p5,g0e,qe1]
theorem qfq(a b:Int): qa2 (.int a) (.int b)=some (.bl (!decide (a=b))):=by
 simp only [qa2,flD,q9w,gb,p5,qe1]
theorem qip(a b:Bool): oEq (.bl a) (.bl b)=some (.bl (a==b)):=by
 cases a <;> cases b <;> rfl
theorem jy(a b:Int)(h:0<b): oMod (.int a) (.int b)=some (.int (a%b)):=by simp [oMod,oI,h]
theorem q3x(a b:Int)(h:0<b)(h2:b<1073741824): oDiv (.int a) (.int b)=some (.int (a / b)):=by simp [oDiv,oI,h,h2]
theorem qbc(a b:Int): jk (.int a) (.int b)=some (.int (a+b)):=rfl
theorem qe2(a b:Int): oSub (.int a) (.int b)=some (.int (a-b)):=rfl
theorem q1f(a b:Int): oLt' (.int a) (.int b)=some (.bl (decide (a<b))):=rfl
theorem q50(a b:Int): oLe (.int a) (.int b)=some (.bl (decide (a<=b))):=rfl
theorem q38(a b:Int): oGt (.int a) (.int b)=some (.bl (decide (b<a))):=rfl
theorem q7m(a b:Int): oGe (.int a) (.int b)=some (.bl (decide (b<=a))):=rfl
theorem qe3(a b:Int): oMin [.int a,.int b]=some (.int (if b<a then b else a)):=rfl
theorem qiq(xs ys:List D)(h:xs.length+ys.length<=1000000): jk (.tup xs) (.tup ys)=some (.tup (xs++ys)):=by
 show(oAdd (.tup xs) (.tup ys)).or (qd3 (.tup xs) (.tup ys))=_;simp only [oAdd,oI,g1b,qd3,lim,gr h]
theorem q3y(a b:Int)(h:0<=b)(h2:b<=1000000)(h3:a.natAbs<2 ^ 64): oPow (.int a) (.int b)=some (.int (a ^ b.toNat)):=by simp [oPow,oI,h,h2,h3]
theorem qir(ns:List Int): qgh [.lst (ns.map .int)]=some (.int ns.sum):=by simp [qgh,o1L,qb0]
theorem q9m(bs:List Bool): qa3 [.lst (bs.map .bl)]=some (.bl (bs.all id)):=by simp [qa3,o1L,q97]
theorem qah{α : Type}{xs:List α}{i:Int}(h0:0<=i): atI xs i=xs[i.toNat]? :=by
 unfold atI ixN;rw [gr h0]
 by_cases h:i<xs.length
 ·rw [gr h];rfl
 ·rw [gy h,List.getElem?_eq_none (by omega)];rfl
section
variable{b:FB}{body:FS}{d:D}{ds:List D}{ρ ρ1 ρ2:Rho}
theorem xi(h1:b d ρ = some ρ1)(h2:body ρ1=some (.nx, ρ2)): runFor b body (d :: ds) ρ = runFor b body ds ρ2:=by simp only [runFor,h1,h2,gb]
end
theorem q9n{b:FB}{c:FT}{f:FE}{ρ : Rho}(p:D->Bool)(g:D->D): ∀ {ds:List D},(∀d∈ds,∃ ρ1,b d ρ = some ρ1/\c ρ1=some (p d)/\(p d=true->f ρ1=some (g d)))->yh b c f ρ ds=some ((ds.filter p).map g)
 | [],_=>rfl
 | d :: ds,h=>by
  obtain⟨ρ1,e1,e2,e3⟩:=h d gs;have ih:=q9n p g fun e he=>h e (gw _ he);simp only [yh,e1,e2,gb];cases hp:p d with
  | true=>simp only [p5,e3 hp,gb,ih,gx,g1x,hp,m9]
  | false=>simp only [p7,g01,ih,g1x,hp]
theorem q86{b:FB}{f:FE}{ρ : Rho}(g:D->D){ds:List D}(h:∀d∈ds,∃ ρ1,b d ρ = some ρ1/\f ρ1=some (g d)): yh b q30 f ρ ds=some (ds.map g):=by
 have:=q9n (b:=b) (c:=q30) (f:=f) (ρ := ρ) (fun _=>true) g (ds:=ds) fun d hd=>let⟨ρ1,e1,e2⟩:=h d hd; ⟨ρ1,e1,rfl,fun _=>e2⟩
 rw [List.filter_eq_self.mpr (fun _ _=>rfl)] at this;exact this
theorem q87(lo:Int)(n:Nat): jj lo (n+1)=.int lo :: jj (lo+1) n:=by
 unfold jj;rw [g0l,m9,t9]
 congr 1
 ·simp
 ·apply g18
  intro a _;simp only [Function.comp,Nat.succ_eq_add_one,Int.natCast_add]
  congr 1
  omega
theorem qfr(fa:FA)(ρ : Rho)(j:Int)(h:fa ρ = some [.int j])(h1 : -(2 ^ 62)<=j)(h2:j<2 ^ 62): iR1 fa ρ = some (jj 0 j.toNat):=by
 simp only [iR1,h,gb,m7 h1,m7 h2,tx,p5]
theorem qkj{α : Type}(xs:List D)(k:Nat): cutD xs (some (k:Int)) none=xs.drop k:=by
 unfold cutD;rw [HT.sIx_nat,HT.sIx_none]
 by_cases h:k<=xs.length
 ·rw [Nat.min_eq_left h,g25 (by rw [g1s];exact gv _)]
 ·rw [Nat.min_eq_right (by omega),g1u,List.drop_eq_nil_of_le (by omega)];simp
section
variable{ρ ρ1 ρ':Rho}{f g:FE}{d x y z:D}{i n m ar:Nat}{fa fk:FA}{ds es:List D}{t t2:FT}{c:Bool}{u w:FS}{r:Option (Fl×Rho)}
theorem x_c:eC d ρ = some d:=rfl
theorem x_v(h : ρ[i]? = some (some (.fz d))): eV i ρ = some d:=by unfold eV;rw [h]
theorem qv{o:D->D->Option D}(h1:f ρ = some x)(h2:g ρ = some y)(h3:o x y=some z): eOp o f g ρ = some z:=by unfold eOp;rw [h1,gb,h2,gb,h3]
theorem qrb{o:D->Option D}(h1:f ρ = some x)(h3:o x=some z): eUn o f ρ = some z:=by unfold eUn;rw [h1,gb,h3]
theorem qj:qh ρ = some []:=rfl
theorem qb(h1:f ρ = some d)(h2:fa ρ = some ds): qa f fa ρ = some (d :: ds):=by unfold qa;rw [h1,gb,h2,gx]
theorem qqd(h1:fa ρ = some ds)(h2:fk ρ = some es)(hn:ds.length=n)(hm:es.length=m): qk1 n m fa fk ρ = some (ds++es):=by unfold qk1;rw [h1,gb,h2,gb,gr ⟨hn,hm⟩]
theorem x_call{o:List D->Option D}(h1:fa ρ = some ds)(h2:o ds=some d): qm o fa ρ = some d:=by unfold qm;rw [h1,gb,h2]
theorem zd{o:List D->Option D}{dds:List D}(h1:fa ρ = some ds)(hl:(ds++dds).length=ar)(h2:o (ds++dds)=some d): qm (qq ar dds o) fa ρ = some d:=by unfold qm qq;rw [h1,gb,gr hl,h2]
theorem qow{o:List D->Option D}(h1:fa ρ = some ds)(hl:ds.length=ar)(h2:o ds=some d): qm (qgl ar o) fa ρ = some d:=by unfold qm qgl;rw [h1,gb,gr hl,h2]
theorem zi(h1:fa ρ = some ds)(hl:ds.length<=lim): za fa ρ = some (.tup ds):=by unfold za;rw [h1,gb,gr hl]
theorem jq(h1:fa ρ = some ds)(hl:ds.length<=lim): jm fa ρ = some ds:=by unfold jm;rw [h1,gb,gr hl]
theorem x_l(h1:fa ρ = some ds): eL fa ρ = some (.lst ds):=by unfold eL;rw [h1,gx]
theorem qml{o:List D->Option (List D)}(h1:fa ρ = some ds)(h2:o ds=some es): qgi o fa ρ = some es:=by unfold qgi;rw [h1,gb,h2]
theorem qqe(h1:f ρ = some (.bl c)): qcq f ρ = some (.bl (!c)):=by unfold qcq;rw [h1,gb];rfl
theorem q51(h1:f ρ = some (.bl c))(hc:c=true)(h2:g ρ = some d): q1z f g ρ = some d:=by subst hc;unfold q1z;rw [h1,gb];exact h2
theorem q7n(h1:f ρ = some (.bl c))(hc:c=false): q1z f g ρ = some (.bl false):=by subst hc;unfold q1z;rw [h1,gb];rfl
theorem qox(h1:f ρ = some (.bl c))(hc:c=true): eOr f g ρ = some (.bl true):=by subst hc;unfold eOr;rw [h1,gb];rfl
theorem qoy(h1:f ρ = some (.bl c))(hc:c=false)(h2:g ρ = some d): eOr f g ρ = some d:=by subst hc;unfold eOr;rw [h1,gb];exact h2
theorem qfs(h1:t ρ = some c)(hc:c=true)(h2:f ρ = some d): eIf t f g ρ = some d:=by subst hc;unfold eIf;rw [h1,gb];exact h2
theorem qft(h1:t ρ = some c)(hc:c=false)(h2:g ρ = some d): eIf t f g ρ = some d:=by subst hc;unfold eIf;rw [h1,gb];exact h2
theorem qld{T:Ty}(h1:f ρ = some d): q13 T f ρ = some (.bl (zg T d)):=by unfold q13;rw [h1,gx]
theorem qkk:oNo ρ = some none:=rfl
theorem x_at{k:Int}(h1:f ρ = some (.int k)): oAt f ρ = some (some k):=by unfold oAt;rw [h1,gb]
theorem qkl{lo hi:FO}{a b:Option Int}(h1:f ρ = some x)(h2:lo ρ = some a)(h3:hi ρ = some b)(h4:oSl x a b=some y): eSl f lo hi ρ = some y:=by unfold eSl;rw [h1,gb,h2,gb,h3,gb,h4]
theorem q6x{it:FA}{cap:List (Option Nat)}{b:FB}{q:FT}(h1:it ρ = some ds)(hl:ds.length<=lim)(h2:yh b q f (q03 cap ρ) ds=some es): q43 it cap b q f ρ = some es:=by unfold q43;rw [h1,gb,gr hl,h2]
theorem kj(h1:f ρ = some d)(h2:q3i d=some ds): q12 f ρ = some ds:=by unfold q12;rw [h1,gb,h2]
theorem qis{xs ys:List D}(h1:fa ρ = some [x,y])(h2:q3i x=some xs)(h3:q3i y=some ys): qd6 fa ρ = some (q1k xs ys):=by unfold qd6;rw [h1,gb];simp only [h2,h3,gb,gx]
theorem j4{o:D->D->Option D}(h1:f ρ = some x)(h2:g ρ = some y)(h3:o x y=some (.bl c)): j9 o f g ρ = some c:=by unfold j9;rw [qv h1 h2 h3,gb];rfl
theorem q19(h1:f ρ = some d)(h2:q8b d=some c): bT f ρ = some c:=by unfold bT;rw [h1,gb,h2]
theorem yb(h1:t ρ = some c): xl t ρ = some (!c):=by unfold xl;rw [h1,gx]
theorem q5y{e:Bool}(h1:t ρ = some c)(hc:c=true)(h2:t2 ρ = some e): q1y t t2 ρ = some e:=by subst hc;unfold q1y;rw [h1,gb];exact h2
theorem q8n(h1:t ρ = some c)(hc:c=false): q1y t t2 ρ = some false:=by subst hc;unfold q1y;rw [h1,gb];rfl
theorem qfu(h1:t ρ = some c)(hc:c=true): bOr t t2 ρ = some true:=by subst hc;unfold bOr;rw [h1,gb];rfl
theorem q1g{e:Bool}(h1:t ρ = some c)(hc:c=false)(h2:t2 ρ = some e): bOr t t2 ρ = some e:=by subst hc;unfold bOr;rw [h1,gb];exact h2
theorem qp(h1:u ρ = some (.nx, ρ1))(h2:w ρ1=r): qu u w ρ = r:=by unfold qu;rw [h1,gb];exact h2
theorem q9o(h1:u ρ = some (.rt d, ρ1)): qu u w ρ = some (.rt d, ρ1):=by unfold qu;rw [h1,gb]
theorem q3z(h1:t ρ = some c)(hc:c=true)(h2:u ρ = r): sIf t u w ρ = r:=by subst hc;unfold sIf;rw [h1,gb];exact h2
theorem jb(h1:t ρ = some c)(hc:c=false)(h2:w ρ = r): sIf t u w ρ = r:=by subst hc;unfold sIf;rw [h1,gb];exact h2
theorem xk(h1:f ρ = some d): zj f ρ = some (.rt d, ρ):=by unfold zj;rw [h1,gx]
theorem z8:zo ρ = some (.nx, ρ):=rfl
theorem jw(h1:f ρ = some d): j5 i f ρ = some (.nx, ρ.set i (some (.fz d))):=by unfold j5;rw [h1,gx]
theorem qgw(h1:fa ρ = some ds): q6e i fa ρ = some (.nx, ρ.set i (some (.ow ds))):=by unfold q6e;rw [h1,gx]
theorem q8o(h0 : ρ[i]? = some (some (.ow ds)))(h1:f ρ = some d)(hl:ds.length<lim): q4e i f ρ = some (.nx, ρ.set i (some (.ow (ds++[d])))):=by unfold q4e qge;rw [h0];simp only [gb,h1,gr hl]
theorem q2h{it:FA}{b:FB}{body:FS}(h1:it ρ = some ds)(h2:runFor b body ds ρ = r): q1i it b body ρ = r:=by unfold q1i;rw [h1,gb];exact h2
theorem qle(h1:frz i ρ = ρ1)(h2:u ρ1=r): q8d i u ρ = r:=by unfold q8d;rw [h1];exact h2
theorem vf(h:u (ds.map (fun d=>some (.fz d))++List.replicate (n-ds.length) none)=some (.rt d, ρ')): jr n u ds=some d:=by unfold jr;rw [h]
end
theorem eV0(d:D)(r:Rho): eV 0 (some (.fz d) :: r)=some d:=rfl
theorem eVs(i:Nat)(x:Option B)(r:Rho): eV (i+1) (x :: r)=eV i r:=rfl
theorem qcg(ds:List D): q1j [.tup ds]=some (.int ds.length):=rfl
theorem qqf(ds:List D): q1j [.lst ds]=some (.int ds.length):=rfl
theorem qrc(i:Int): (match D.int i with | .int i=>some (some i)|_=>none:Option (Option Int))=some (some i):=rfl
theorem qrd(ds:List D)(r:Rho): frz 0 (some (.ow ds) :: r)=some (.fz (.lst ds)) :: r:=rfl
theorem frzs(i:Nat)(x:Option B)(r:Rho): frz (i+1) (x :: r)=x :: frz i r:=by
 unfold frz;rw [uk];cases h:r[i]? with
 | none=>rfl
 | some y=>
  cases y with
  | none=>rfl
  | some z=>cases z <;> rfl
theorem vn(a b:Int)(h : -(2 ^ 64)<b/\b<2 ^ 64): js (.int a) (.int b)=some (.int (a*b)):=by
 have h2:(decide (-(2 ^ 64)<b)&&decide (b<2 ^ 64))=true:=by rw [m7 h.1,m7 h.2];rfl
 show(if((decide (-(2 ^ 64)<a)&&decide (a<2 ^ 64)) || (decide (-(2 ^ 64)<b)&&decide (b<2 ^ 64)))=true then some (D.int (a*b)) else none).or _=_;rw [h2,g2h,gr rfl,g0e]
theorem qes(a b:Int)(h : -(2 ^ 64)<a/\a<2 ^ 64): js (.int a) (.int b)=some (.int (a*b)):=by
 have h2:(decide (-(2 ^ 64)<a)&&decide (a<2 ^ 64))=true:=by rw [m7 h.1,m7 h.2];rfl
 show(if((decide (-(2 ^ 64)<a)&&decide (a<2 ^ 64)) || (decide (-(2 ^ 64)<b)&&decide (b<2 ^ 64)))=true then some (D.int (a*b)) else none).or _=_;rw [h2,Bool.true_or,gr rfl,g0e]
theorem qre(ds:List D)(i:Int): oIx (.lst ds) (.int i)=atI ds i:=rfl
theorem qoz(ds:List D)(i:Int): oIx (.tup ds) (.int i)=atI ds i:=rfl
theorem qmm{α : Type}(xs:List α)(n:Nat): atI xs (no_index (OfNat.ofNat n:Int))=xs[n]? :=by
 show atI xs (n:Int)=xs[n]?;rw [qah (show(0:Int)<=(n:Int) by omega)]
 rfl
theorem qmn(ds:List D): ql8 [.lst ds]=some ds:=rfl
theorem qmo(ds:List D): ql8 [.tup ds]=some ds:=rfl
theorem qkm(ds:List D): q3j [.lst ds]=some (.tup ds):=rfl
theorem qkn(ds:List D): q3j [.tup ds]=some (.tup ds):=rfl
theorem qe4{n:Nat}{u:FS}{ds:List D}{d:D}(h:(u (ds.map (fun d=>some (.fz d))++List.replicate (n-ds.length) none)).map Prod.fst=some (.rt d)): jr n u ds=some d:=by
 cases e:u (ds.map (fun d=>some (.fz d))++List.replicate (n-ds.length) none) with
 | none=>rw [e] at h;cases h
 | some p=>
  obtain⟨fl, ρ'⟩:=p;rw [e] at h;have h':fl=.rt d:=by simpa using h
  subst h';exact vf e
theorem qmp:zg .int .non=false/\(∀b:Bool,zg .int (.bl b)=true)/\(∀i:Int,zg .int (.int i)=true)/\(∀x:Str,zg .int (.str x)=false)/\(∀ds:List D,zg .int (.tup ds)=false)/\(∀ds:List D,zg .int (.lst ds)=false)/\(∀(ks:List Key) (vs:List D),zg .int (.dct ks vs)=false)/\(∀(ks:List (List Int)) (vs:List D),zg .int (.dtt ks vs)=false)/\zg .bool .non=false/\(∀b:Bool,zg .bool (.bl b)=true)/\(∀i:Int,zg .bool (.int i)=false)/\(∀x:Str,zg .bool (.str x)=false)/\(∀ds:List D,zg .bool (.tup ds)=false)/\(∀ds:List D,zg .bool (.lst ds)=false)/\(∀(ks:List Key) (vs:List D),zg .bool (.dct ks vs)=false)/\(∀(ks:List (List Int)) (vs:List D),zg .bool (.dtt ks vs)=false)/\zg .tuple .non=false/\(∀b:Bool,zg .tuple (.bl b)=false)/\(∀i:Int,zg .tuple (.int i)=false)/\(∀x:Str,zg .tuple (.str x)=false)/\(∀ds:List D,zg .tuple (.tup ds)=true)/\(∀ds:List D,zg .tuple (.lst ds)=false)/\(∀(ks:List Key) (vs:List D),zg .tuple (.dct ks vs)=false)/\(∀(ks:List (List Int)) (vs:List D),zg .tuple (.dtt ks vs)=false)/\zg .list .non=false/\(∀b:Bool,zg .list (.bl b)=false)/\(∀i:Int,zg .list (.int i)=false)/\(∀x:Str,zg .list (.str x)=false)/\(∀ds:List D,zg .list (.tup ds)=false)/\(∀ds:List D,zg .list (.lst ds)=true)/\(∀(ks:List Key) (vs:List D),zg .list (.dct ks vs)=false)/\(∀(ks:List (List Int)) (vs:List D),zg .list (.dtt ks vs)=false)/\zg .str .non=false/\(∀b:Bool,zg .str (.bl b)=false)/\(∀i:Int,zg .str (.int i)=false)/\(∀x:Str,zg .str (.str x)=true)/\(∀ds:List D,zg .str (.tup ds)=false)/\(∀ds:List D,zg .str (.lst ds)=false)/\(∀(ks:List Key) (vs:List D),zg .str (.dct ks vs)=false)/\(∀(ks:List (List Int)) (vs:List D),zg .str (.dtt ks vs)=false)/\zg .dict .non=false/\(∀b:Bool,zg .dict (.bl b)=false)/\(∀i:Int,zg .dict (.int i)=false)/\(∀x:Str,zg .dict (.str x)=false)/\(∀ds:List D,zg .dict (.tup ds)=false)/\(∀ds:List D,zg .dict (.lst ds)=false)/\(∀(ks:List Key) (vs:List D),zg .dict (.dct ks vs)=true)/\(∀(ks:List (List Int)) (vs:List D),zg .dict (.dtt ks vs)=true):=by
 refine⟨?_,?_,?_,?_,?_,?_,?_,?_,?_,?_,?_,?_,?_,?_,?_,?_,?_,?_,?_,?_,?_,?_,?_,?_,?_,?_,?_,?_,?_,?_,?_,?_,?_,?_,?_,?_,?_,?_,?_,?_,?_,?_,?_,?_,?_,?_,?_,?_⟩ <;> intros <;> rfl
theorem qai{x:Int}{n:Nat}(hn:0<n): ∃k:Nat,k<n/\oMod (.int x) (.int (n:Int))=some (.int (k:Int)):=by
 have h1:=mq x (show(n:Int)≠0 by omega);have h2:=ml x (show(0:Int)<(n:Int) by omega);refine⟨(x%n).toNat,by omega,?_⟩;rw [jy _ _ (by omega),Int.toNat_of_nonneg h1]
section
variable{ρ ρ1 ρ2 ρ':Rho}{f g:FE}{d x y z:D}{i n m ar:Nat}{fa fk:FA}{ds es:List D}{t:FT}{b:Bool}{u w:FS}{r:Option (Fl×Rho)}{c nm:Str}{fs fs':Flds}{fm gm:FM}{am:FAM}{tm:FTM}
theorem q0l(h : ρ[i]? = some (some (.od (c,fs))))(h2:fs.lookup nm=some d): kr c i nm ρ = some d:=by
 unfold kr yg;rw [h];simp only [gb,p5,h2]
theorem q6y(h1:f ρ = some d)(h : ρ[i]? = some (some (.od (c,fs))))(hl:fs.length<100): q44 c i nm f ρ = some (.nx, ρ.set i (some (.od (c,putD nm d fs)))):=by
 unfold q44 yg;rw [h1,h];simp only [gb];rw [gr ⟨trivial,hl⟩]
theorem xw{op:Flds->List D->Option (Flds×D)}(h : ρ[i]? = some (some (.od (c,fs))))(h1:fa ρ = some ds)(hl:ds.length=ar)(hn:fs.lookup nm=none)(h2:op fs ds=some (fs',d)): xn c nm i ar op fa ρ = some (d, ρ.set i (some (.od (c,fs')))):=by
 unfold xn yg;rw [h,h1];simp only [gb,h2,gx];rw [gr ⟨trivial,hl,by rw [hn];rfl⟩]
theorem q09{op:Flds->List D->Option (Flds×D)}(h : ρ[i]? = some (some (.od (c,fs))))(h1:fa ρ = some ds)(hl:ds.length=ar)(h2:op fs ds=some (fs',d)): ku c i ar op fa ρ = some (d, ρ.set i (some (.od (c,fs')))):=by
 unfold ku yg;rw [h,h1];simp only [gb,h2,gx];rw [gr ⟨trivial,hl⟩]
theorem q29(h:f ρ = some d): mP f ρ = some (d, ρ):=by unfold mP;rw [h,gx]
theorem q5z(h:fa ρ = some ds): amP fa ρ = some (ds, ρ):=by unfold amP;rw [h,gx]
theorem qlf(h:t ρ = some b): bmP t ρ = some (b, ρ):=by unfold bmP;rw [h,gx]
theorem q0a(h1:fm ρ = some (d, ρ1))(h2:am ρ1=some (ds, ρ2)): w9 fm am ρ = some (d :: ds, ρ2):=by unfold w9;rw [h1,gb,h2,gx]
theorem q39{o:List D->Option D}{dds:List D}(h1:am ρ = some (ds, ρ1))(hl:(ds++dds).length=ar)(h2:o (ds++dds)=some d): yr (qq ar dds o) am ρ = some (d, ρ1):=by
 unfold yr qq;rw [h1,gb,gr hl,h2,gx]
theorem q33(h1:fm ρ = some (d, ρ1))(h2:q8b d=some b): mbT fm ρ = some (b, ρ1):=by unfold mbT;rw [h1,gb,h2,gx]
theorem q0m(h1:tm ρ = some (b, ρ1)): q0c tm ρ = some (!b, ρ1):=by unfold q0c;rw [h1,gx]
theorem wj{o:D->D->Option D}(h1:fm ρ = some (x, ρ1))(h2:gm ρ1=some (y, ρ2))(h3:o x y=some (.bl b)): q0d o fm gm ρ = some (b, ρ2):=by unfold q0d;rw [h1,gb,h2,gb,h3];rfl
theorem q0b{tm2:FTM}{b2:Bool}(h1:tm ρ = some (b, ρ1))(hb:b=false)(h2:tm2 ρ1=some (b2, ρ2)): q3n tm tm2 ρ = some (b2, ρ2):=by subst hb;unfold q3n;rw [h1,gb];exact h2
theorem yl(h1:tm ρ = some (b, ρ1))(hb:b=false)(h2:w ρ1=r): q15 tm u w ρ = r:=by subst hb;unfold q15;rw [h1,gb];exact h2
theorem qit(h1:fm ρ = some (d, ρ1)): q9b fm ρ = some (.rt d, ρ1):=by unfold q9b;rw [h1,gx]
theorem wk(h1:fm ρ = some (d, ρ1)): y0 fm ρ = some (.nx, ρ1):=by unfold y0;rw [h1,gx]
theorem qe5(h1:fm ρ = some (d, ρ1)): q7k i fm ρ = some (.nx, ρ1.set i (some (.fz d))):=by unfold q7k;rw [h1,gx]
theorem qgx{op:Flds->List D->Option (Flds×D)}{dds:List D}(h1:fa ρ = some ds)(no:q6j i ρ = true)(hn:(ds++dds).length=ar)(h3:op [] (ds++dds)=some (fs,.non)): qa8 c i ar dds op fa ρ = some (.nx, ρ.set i (some (.od (c,fs)))):=by
 unfold qa8;rw [h1,gb,gr ⟨no,hn⟩,h3];rfl
theorem q6z(h:u (yc n c fs ds)=some (.nx, ρ'))(h2 : ρ'[0]? = some (some (.od (c,fs')))): ko n c u fs ds=some (fs',.non):=by unfold ko yg;rw [h];simp only [h2,gb,p5]
theorem ym(h:u (yc n c fs ds)=some (.rt d, ρ'))(h2 : ρ'[0]? = some (some (.od (c,fs')))): ko n c u fs ds=some (fs',d):=by unfold ko yg;rw [h];simp only [h2,gb,p5]
end
end DL
open PySem PyProof.Rows L2 DL
local macro_rules | `(tactic| simp! [$a,*])=> `(tactic| simp (config:={decide:=true,implicitDefEqProofs:=false}) only [jr,qu,sIf,j5,zj,qpy,zo,q6e,qr6,qr7,qpz,q1i,q8d,qq3,eOp,eC,eV0,eVs,qm,qa,qh,za,eL,jm,qgi,eSl,oNo,oAt,qrc,q1y,j9,xl,bT,bOr,q1z,eOr,qcq,eIf,q13,qmp,eUn,isB,q8b,q4g,qcg,qqf,qrd,frzs,q12,q3i,qq,qgl,qk1,bN,q11,xt,q10,q03,qo3,m9,g1t,m3,nj,m6,Nat.reduceAdd,Nat.reduceSub,Nat.reduceEqDiff,List.replicate,List.cons_append,g21,mn,List.set_cons_zero,List.set_cons_succ,List.set_nil,List.getElem?_cons_zero,uk,gb,Option.bind_none,gx,Option.map_none,g0n,Option.join_none,jy,q3x,qbc,qe2,vn,qes,q28,qfq,qip,q1f,q50,q38,q7m,qkm,qkn,p5,g01,decide_true,decide_false,p7,g2c,Bool.not_false,and_true,true_and,and_self,ite_true,ite_false,Int.reduceSub,Int.reduceMod,Int.reduceAdd,Int.reduceDiv,Int.reducePow,Int.reduceMul,Int.reduceNeg,Int.reduceEq,Int.reduceLT,Int.reduceLE,Int.reduceToNat,qre,qoz,qmm,qmn,qmo,q3y,reduceCtorEq,List.isEmpty_nil,List.isEmpty_cons,List.isEmpty_iff, $a,*])
namespace My
open PySem PyProof.Rows L2 DL
local macro_rules | `(tactic| walk_at "xo")=> `(tactic| first|assumption|exact q28 _ _|exact qfq _ _|exact qip _ _|exact jy _ _ (by decide)|exact q3x _ _ (by decide) (by decide)|exact qbc _ _|exact qe2 _ _|exact q1f _ _|exact q50 _ _|exact q38 _ _|exact q7m _ _|exact qe3 _ _|rfl)
local macro_rules | `(tactic| walk_at "xb")=> `(tactic| first|assumption|rfl|exact m7 (by omega)|exact gz (by omega)|(simp;done)|(simp;omega))
local macro_rules | `(tactic| walk_at "xe")=> `(tactic| first|assumption|exact x_c|exact x_v rfl|exact qj|exact qkk|(apply qv;(walk_at "xe");(walk_at "xe");(walk_at "xo"))|(apply qrb;(walk_at "xe");(walk_at "xo"))|(apply qb;(walk_at "xe");(walk_at "xe"))|(apply zi;(walk_at "xe");(first|decide|(simp only [m3,nj];decide)))|(apply x_l;(walk_at "xe"))|(apply jq;(walk_at "xe");(first|decide|(simp only [m3,nj];decide)))|(apply qml;(walk_at "xe");(walk_at "xo"))|(apply qld;(walk_at "xe"))|(apply qqe;(walk_at "xe"))|(apply x_at;(walk_at "xe"))|(apply qkl;(walk_at "xe");(walk_at "xe");(walk_at "xe");(walk_at "xo"))|(apply zd;(walk_at "xe");exact rfl;(walk_at "xo"))|(apply qow;(walk_at "xe");exact rfl;(walk_at "xo"))|(apply qqd;(walk_at "xe");(walk_at "xe");exact rfl;exact rfl)|(apply x_call;(walk_at "xe");(walk_at "xo"))|(apply kj;(walk_at "xe");(walk_at "xo"))|(apply qis;(walk_at "xe");(walk_at "xo");(walk_at "xo"))|(apply q51;(walk_at "xe");(walk_at "xb");(walk_at "xe"))|(apply q7n;(walk_at "xe");(walk_at "xb"))|(apply qox;(walk_at "xe");(walk_at "xb"))|(apply qoy;(walk_at "xe");(walk_at "xb");(walk_at "xe"))|(apply j4;(walk_at "xe");(walk_at "xe");(walk_at "xo"))|(apply q19;(walk_at "xe");(walk_at "xo"))|(apply yb;(walk_at "xe"))|(apply q5y;(walk_at "xe");(walk_at "xb");(walk_at "xe"))|(apply q8n;(walk_at "xe");(walk_at "xb"))|(apply qfu;(walk_at "xe");(walk_at "xb"))|(apply q1g;(walk_at "xe");(walk_at "xb");(walk_at "xe")))
local macro_rules | `(tactic| walk_at "xs")=> `(tactic| first|(apply jw;(walk_at "xe"))|exact z8|(apply xk;(walk_at "xe"))|(apply qgw;(walk_at "xe"))|(apply q8o;exact rfl;(walk_at "xe");(walk_at "xo")))
abbrev TI(ns:List Int): D:=.tup (ns.map .int)
abbrev Run:=Int×List Int
abbrev runD(r:Run): D:=.tup [.int r.1,TI r.2]
abbrev jl(w:Int)(rs:List Run): D:=.tup [.int w,.tup (rs.map runD)]
def wx(rs:List Run): Int:=(rs.map (·.1)).sum
abbrev stF(w:Int)(m:D)(rs:List Run): Flds:=[("wares",.int w),("window",m),("runs",.tup (rs.map runD))]
theorem qko(a b:Int): oMax [.int a,.int b]=some (.int (if a<b then b else a)):=rfl
theorem q70:∀ns:List Int,xm (ns.map D.int)=0
 | []=>by simp [xm]
 | n :: ns=>by simp only [m9,xm,q4f,q70 ns];rfl
theorem qe6:∀ns ms:List Int,xu (ns.map D.int) (ms.map D.int)=true
 | [],ms=>by cases ms <;> rfl
 | n :: ns,[]=>rfl
 | n :: ns,m :: ms=>by simp only [m9,xu,qe6 ns ms,Bool.and_true];rfl
theorem qgy:∀ns ms:List Int,eqL (ns.map D.int) (ms.map D.int)=decide (ns=ms)
 | [],[]=>rfl
 | [],m :: ms=>rfl
 | n :: ns,[]=>rfl
 | n :: ns,m :: ms=>by
  simp only [m9,eqL,qgy ns ms];show((n==m)&&decide (ns=ms))=_;rw [g05];simp
theorem qiu(a b:List Int): oEq (TI a) (TI b)=some (.bl (decide (a=b))):=by
 show(none:Option D).or (if(xu (a.map D.int) (b.map D.int)&&decide (xm (a.map D.int)<=60))=true then some (D.bl (eqL (a.map D.int) (b.map D.int))) else none)=_;rw [qe6,q70,qgy];rfl
def isNum:D->Bool
 | .int i=>decide (0<=i)
 | _=>false
theorem q71(d:D): jt [d]=some (.bl (isNum d)):=by
 cases d <;> rfl
def okW(b:Int): D->Bool
 | .int i=>decide (0<=i)&&decide (i<b)
 | _=>false
theorem qbd(b:Int)(ds:List D): yh (bN 0) q30 (q1z (qm (qq 1 [] jt) (qa (eV 0) qh)) (eOp oLt' (eV 0) (eV 1))) [none,some (.fz (.int b))] ds=some (ds.map fun d=>.bl (okW b d)):=by
 refine q86 _ fun d _=>⟨_,rfl,?_⟩
 have hc:qm (qq 1 [] jt) (qa (eV 0) qh) [some (.fz d),some (.fz (.int b))]=some (.bl (isNum d)):=zd (qb (x_v rfl) qj) rfl (q71 d);cases hn:isNum d with
 | false=>
  rw [hn] at hc;have e:okW b d=false:=by
   cases d <;> first|rfl|skip
   simp only [isNum] at hn;simp only [okW,hn,pj]
  rw [e];exact q7n hc rfl
 | true=>
  rw [hn] at hc;cases d with
  | int i=>
   simp only [isNum] at hn;have e:okW b (.int i)=decide (i<b):=by simp only [okW,hn,g2d]
   rw [e];exact q51 hc rfl (qv (x_v rfl) (x_v rfl) (q1f _ _))
  | _=>cases hn
abbrev bnd(w:Int): Int:=if 12<w then 12 else w
theorem q9p(ds:List D)(p:D->Bool): qa3 [.lst (ds.map fun d=>.bl (p d))]=some (.bl (ds.all p)):=by
 have e:(ds.map fun d=>D.bl (p d))=(ds.map p).map D.bl:=by rw [t9];rfl
 rw [e,q9m,g2f];rfl
theorem vo{ds:List D}{w:Int}(hl:ds.length<=lim)(h:ds.all (okW (bnd w))=false): y9 [.tup ds,.int w]=some (.bl false):=by
 refine vf (ρ':=[some (.fz (.tup ds)),some (.fz (.int w)),some (.fz (.int (bnd w)))]) (qp (jb (by(walk_at "xe")) (by rfl) z8) (qp (jw (d:=.int (bnd w)) (by(walk_at "xe"))) (q9o (q3z (c:=true) ?_ rfl (xk x_c)))));have h1:=x_l (q6x (ρ :=[some (.fz (.tup ds)),some (.fz (.int w)),some (.fz (.int (bnd w)))]) (cap:=[none,some 2]) (kj (x_v (i:=0) rfl) rfl) hl (qbd (bnd w) ds));have h2:=x_call (qb h1 qj) (q9p ds (okW (bnd w)));rw [h] at h2;exact yb (q19 h2 rfl)
def rise:List Int->Bool
 | x :: y :: r=>decide (x<y)&&rise (y :: r)
 | _=>true
def gLt:D->D
 | .tup [.int a,.int b]=>.bl (decide (a<b))
 | _=>.non
theorem q8p:∀ns:List Int,(q1k (ns.map .int) ((ns.map .int).drop 1)).map gLt=(List.zipWith (fun a b=>decide (a<b)) ns (ns.drop 1)).map .bl/\(List.zipWith (fun a b=>decide (a<b)) ns (ns.drop 1)).all id=rise ns
 | []=>⟨rfl,rfl⟩
 | [x]=>⟨rfl,rfl⟩
 | x :: y :: r=>by
  obtain⟨h1,h2⟩:=q8p (y :: r)
  constructor
  ·show gLt (.tup [.int x,.int y]) :: (q1k ((y :: r).map .int) (((y :: r).map .int).drop 1)).map gLt=_
   rw [h1];rfl
  ·show(decide (x<y)&&(List.zipWith (fun a b=>decide (a<b)) (y :: r) ((y :: r).drop 1)).all id)=_
   rw [h2];rfl
theorem qmq{ns ms:List Int}{d:D}(h:d∈q1k (ns.map .int) (ms.map .int)): ∃a b:Int,d=.tup [.int a,.int b]:=by
 unfold q1k at h;obtain⟨i,hi⟩:=List.mem_iff_getElem?.mp h;rw [g2a] at hi;simp only [md] at hi;cases z1:ns[i]? with
 | none=>rw [z1] at hi;cases hi
 | some a=>
  cases z2:ms[i]? with
  | none=>rw [z1,z2] at hi;cases hi
  | some b=>rw [z1,z2] at hi;cases hi;exact⟨a,b,rfl⟩
theorem qiv(ns:List Int): yh (q11 2 (xt (bN 0) (xt (bN 1) q10))) q30 (eOp oLt' (eV 0) (eV 1)) [none,none] (q1k (ns.map .int) ((ns.map .int).drop 1))=some ((List.zipWith (fun a b=>decide (a<b)) ns (ns.drop 1)).map .bl):=by
 rw [<- (q8p ns).1];refine q86 _ fun d hd=>?_;rw [<- List.map_drop] at hd;obtain⟨a,b,rfl⟩:=qmq hd;exact⟨_,rfl,qv (x_v rfl) (x_v rfl) (q1f _ _)⟩
theorem q2i{ns:List Int}{w:Int}(hl:ns.length<=1000)(h:∀i∈ns,0<=i/\i<bnd w): y9 [TI ns,.int w]=some (.bl (rise ns)):=by
 have hlim:(ns.map D.int).length<=lim:=by rw [m6];exact mj hl (by decide)
 have ho:(ns.map D.int).all (okW (bnd w))=true:=by
  rw [g2f,g1v];intro i hi;obtain⟨h1,h2⟩:=h i hi;simp only [Function.comp,okW,m7 h1,m7 h2,tx]
 have h1:=x_l (q6x (ρ :=[some (.fz (TI ns)),some (.fz (.int w)),some (.fz (.int (bnd w)))]) (cap:=[none,some 2]) (kj (x_v (i:=0) rfl) rfl) hlim (qbd (bnd w) (ns.map .int)));have h2:=x_call (qb h1 qj) (q9p (ns.map .int) (okW (bnd w)));rw [ho] at h2;refine vf (ρ':=[some (.fz (TI ns)),some (.fz (.int w)),some (.fz (.int (bnd w)))]) (qp (jb (by(walk_at "xe")) (by rfl) z8) (qp (jw (d:=.int (bnd w)) (by(walk_at "xe"))) (qp (jb (c:=false) (yb (q19 h2 rfl)) rfl z8) (xk ?_))));have hcut:oSl (TI ns) (some 1) none=some (.tup ((ns.map .int).drop 1)):=by
  show some (D.tup (cutD (ns.map .int) (some ((1:Nat):Int)) none))=_;rw [qkj (α :=D)]
 have hz:qd6 (qa (eV 0) (qa (eSl (eV 0) (oAt (eC (.int 1))) oNo) qh)) [some (.fz (TI ns)),some (.fz (.int w)),some (.fz (.int (bnd w)))]=some (q1k (ns.map .int) ((ns.map .int).drop 1)):=
  qis (qb (x_v rfl) (qb (qkl (x_v rfl) (x_at x_c) qkk hcut) qj)) rfl rfl
 have hzl:(q1k (ns.map .int) ((ns.map .int).drop 1)).length<=lim:=by
  unfold q1k;rw [g17];exact mj (Nat.min_le_left _ _) hlim
 have h3:=x_l (q6x (cap:=[none,none]) hz hzl (qiv ns));have h4:=x_call (qb h3 qj) (q9m _);rw [(q8p ns).2] at h4;exact h4
theorem q1v{d:D}{w:Int}(h:zg .tuple d=false): y9 [d,.int w]=some (.bl false):=
 vf (ρ':=[some (.fz d),some (.fz (.int w)),none]) (q9o (q3z (c:=true) (by
  have:=yb (q19 (qld (T:=.tuple) (x_v (ρ :=[some (.fz d),some (.fz (.int w)),none]) (i:=0) (d:=d) rfl)) (c:=zg .tuple d) rfl);rw [h] at this;exact this) rfl (xk x_c)))
theorem qaj:∀ {ns:List Int},ns.Pairwise (· < ·)->rise ns=true
 | [],_=>rfl
 | [_],_=>rfl
 | x :: y :: r,.cons h t=>by
  show(decide (x<y)&&rise (y :: r))=true;rw [qaj t,m7 (h y gs)];rfl
theorem q7o:∀(pre:List Int) (x y:Int) (r:List Int),¬x<y->rise (pre++x :: y :: r)=false
 | [],x,y,r,h=>by
  show(decide (x<y)&&rise (y :: r))=false;rw [gz h];rfl
 | [a],x,y,r,h=>by
  show(decide (a<x)&&rise ([]++x :: y :: r))=false;rw [q7o [] x y r h,ud]
 | a :: b :: p,x,y,r,h=>by
  show(decide (a<b)&&rise ((b :: p)++x :: y :: r))=false;rw [q7o (b :: p) x y r h,ud]
theorem q4m{α : Type}{b:FB}{c:FT}{e:FE}{ρ : Rho}(f : α -> D)(p : α -> Bool)(g : α -> D): ∀(as:List α),(∀a∈as,∃ ρ1,b (f a) ρ = some ρ1/\c ρ1=some (p a)/\(p a=true->e ρ1=some (g a)))->yh b c e ρ (as.map f)=some ((as.filter p).map g)
 | [],_=>rfl
 | a :: as,h=>by
  obtain⟨ρ1,e1,e2,e3⟩:=h a gs;have ih:=q4m f p g as fun x hx=>h x (gw _ hx);simp only [m9,yh,e1,e2,gb,g1x];cases hp:p a with
  | true=>simp only [p5,e3 hp,gb,ih,gx,m9]
  | false=>simp only [p7,g01,ih]
theorem qiw{o1 o2:D->D->Option D}{a b c:FE}{ρ : Rho}{x y z d:D}{q:Bool}(h1:a ρ = some x)(h2:b ρ = some y)(h3:o1 x y=some (.bl q))(hq:q=true)(h4:c ρ = some z)(h5:o2 y z=some d): q3m o1 o2 a b c ρ = some d:=by
 subst hq;unfold q3m;rw [h1,gb,h2,gb,h3,gb];show(some true).bind _=_;rw [gb,gr rfl,h4,gb,h5]
theorem qix{o1 o2:D->D->Option D}{a b c:FE}{ρ : Rho}{x y:D}{q:Bool}(h1:a ρ = some x)(h2:b ρ = some y)(h3:o1 x y=some (.bl q))(hq:q=false): q3m o1 o2 a b c ρ = some (.bl false):=by
 subst hq;unfold q3m;rw [h1,gb,h2,gb,h3,gb]
 rfl
def isW(lo hi:Int): D->Bool
 | .int i=>decide (0<=i)&&(decide (lo<=i)&&decide (i<=hi))
 | _=>false
theorem q49(lo hi:Int)(d:D): zc [d,.int lo,.int hi]=some (.bl (isW lo hi d)):=by
 have n':=q71 d;have hc:qm (qq 1 [] jt) (qa (eV 0) qh) [some (.fz d),some (.fz (.int lo)),some (.fz (.int hi))]=some (.bl (isNum d)):=zd (qb (x_v rfl) qj) rfl n';cases hn:isNum d with
 | false=>
  rw [hn] at hc;have e:isW lo hi d=false:=by
   cases d <;> first|rfl|skip
   simp only [isNum] at hn;simp only [isW,hn,pj]
  rw [e];exact vf (ρ':=_) (xk (q7n hc rfl))
 | true=>
  rw [hn] at hc;cases d with
  | int i=>
   simp only [isNum] at hn;have e:isW lo hi (.int i)=(decide (lo<=i)&&decide (i<=hi)):=by simp only [isW,hn,g2d]
   rw [e];refine vf (ρ':=_) (xk (q51 hc rfl ?_))
   by_cases h1:lo<=i
   ·rw [m7 h1,g2d]
    exact qiw (x_v rfl) (x_v rfl) (q50 _ _) (m7 h1) (x_v rfl) (q50 _ _)
   ·rw [gz h1,pj]
    exact qix (x_v rfl) (x_v rfl) (q50 _ _) (gz h1)
  | _=>cases hn
theorem q8q{a lo hi:Int}(h0:0<=a)(h1:lo<=a)(h2:a<=hi): zc [.int a,.int lo,.int hi]=some (.bl true):=by
 rw [q49];simp [isW,h0,h1,h2]
structure GoodB(w:Int)(b:List Int): Prop where
 mem:∀x∈b,0<=x/\x<w
 up:b.Pairwise (· < ·)
 len:b.length<=1000
structure GoodR(w:Int)(r:Run): Prop where
 lo:1<=r.1
 hi:r.1<=1000000000000
 b:GoodB w r.2
theorem qe7{w many:Int}{b:List Int}(hw:w<=12)(g:GoodR w (many,b)): jc [.tup [.int many,TI b],.int w]=some (.bl true):=by
 have h1:=q8q (a:=many) (lo:=1) (hi:=1000000000000) (by have:=g.lo;dsimp only at this;omega) g.lo g.hi;have h2:=q2i (ns:=b) (w:=w) g.b.len fun i hi=>by
  have:=g.b.mem i hi;refine⟨this.1,?_⟩;show i<if 12<w then 12 else w
  rw [gy (by omega)];exact this.2
 rw [qaj g.b.up] at h2
 (refine qe4 ?_;simp! [q3r,h1,h2])
theorem q8r(d e:D)(w:Int){c:Bool}(he:y9 [e,.int w]=some (.bl c)): jc [.tup [d,e],.int w]=some (.bl (isW 1 1000000000000 d&&c)):=by
 have h1:=q49 1 1000000000000 d;have t1:xl (bT (q13 .tuple (eV 0))) [some (.fz (.tup [d,e])),some (.fz (.int w))]=some false:=rfl;have t2:j9 qa2 (qm q1j (qa (eV 0) qh)) (eC (.int 2)) [some (.fz (.tup [d,e])),some (.fz (.int w))]=some false:=rfl;have hw:qm (qq 3 [] zc) (qa (eOp oIx (eV 0) (eC (.int 0))) (qa (eC (.int 1)) (qa (eC (.int 1000000000000)) qh))) [some (.fz (.tup [d,e])),some (.fz (.int w))]=some (.bl (isW 1 1000000000000 d)):=zd (qb (qv (x_v rfl) x_c rfl) (qb x_c (qb x_c qj))) rfl h1;refine vf (ρ':=_) (qp (jb (c:=false) (q1g (c:=false) t1 rfl t2) rfl z8) (xk ?_));cases hq:isW 1 1000000000000 d with
 | true=>rw [hq] at hw;exact q51 hw rfl (zd (qb (qv (x_v rfl) x_c rfl) (qb (x_v rfl) qj)) rfl he)
 | false=>rw [hq] at hw;exact q7n hw rfl
def okI(m:D): Prop:=m=.non\/∃M:Int,m=.int M/\1<=M/\M<=1000000000000000
def okM(m:D)(rs:List Run): Prop:=m=.non\/∃M:Int,m=.int M/\wx rs<=M
theorem qak{w:Int}{m:D}(h0:0<=w)(h1:w<=12)(hm:okI m): zf [] [.int w,m]=some (stF w m [],.non):=by
 have e1:=q8q (a:=w) (lo:=0) (hi:=12) h0 h0 h1;refine q6z (ρ':=[some (.od ("Store",stF w m [])),some (.fz (.int w)),some (.fz m)]) ?_ rfl;refine qp (jb (c:=false) (yb (q19 (zd (qb (x_v rfl) (qb x_c (qb x_c qj))) rfl e1) rfl)) rfl z8) ?_;have t:q1y (j9 (oIs true) (eV 2) (eC .non)) (xl (bT (qm (qq 3 [] zc) (qa (eV 2) (qa (eC (.int 1)) (qa (eC (.int 1000000000000000)) qh)))))) [some (.od ("Store",([]:Flds))),some (.fz (.int w)),some (.fz m)]=some false:=by
  rcases hm with rfl|⟨M,rfl,h2,h3⟩
  ·exact q8n (c:=false) (j4 (x_v rfl) x_c rfl) rfl
  ·exact q5y (c:=true) (j4 (x_v rfl) x_c rfl) rfl (yb (q19 (zd (qb (x_v rfl) (qb x_c (qb x_c qj))) rfl (q8q (a:=M) (lo:=1) (hi:=1000000000000000) (by omega) h2 h3)) rfl))
 refine qp (jb (c:=false) t rfl z8) ?_;refine qp (ρ1:=[some (.od ("Store",[("wares",.int w)])),some (.fz (.int w)),some (.fz m)]) (q6y (fs:=[]) (x_v rfl) rfl (by show 0<100;decide)) ?_;refine qp (ρ1:=[some (.od ("Store",[("wares",.int w),("window",m)])),some (.fz (.int w)),some (.fz m)]) (q6y (fs:=[("wares",.int w)]) (x_v rfl) rfl (by show 1<100;decide)) ?_;exact q6y (fs:=[("wares",.int w),("window",m)]) (zi qj (by decide)) rfl (by show 2<100;decide)
theorem wm(w:Int)(m:D)(rs:List Run): z6 (stF w m rs) []=some (stF w m rs,jl w rs):=
 ym (xk (zi (qb (q0l rfl rfl) (qb (q0l rfl rfl) qj)) (by show 2<=1000000;decide))) rfl
theorem q60{w many:Int}{m:D}{rs:List Run}{b:List Int}(hw:w<=12)(g:GoodR w (many,b)): z5 (stF w m rs) [.int many,TI b]=some (stF w m rs,.non):=by
 refine q6z (ρ':=[some (.od ("Store",stF w m rs)),some (.fz (.int many)),some (.fz (TI b))]) ?_ rfl;exact jb (c:=false) (yb (q19 (zd (qb (zi (qb (x_v rfl) (qb (x_v rfl) qj)) (by show 2<=1000000;decide)) (qb (q0l rfl rfl) qj)) rfl (qe7 hw g)) rfl)) rfl z8
theorem q61(c:D)(rs:List Run)(hc:q3i c=some (rs.map runD))(hl:rs.length<=1000): jn [c]=some (.int (wx rs)):=by
 have h:=q4m (b:=bN 0) (c:=q30) (e:=eOp oIx (eV 0) (eC (.int 0))) (ρ :=[none]) runD (fun _=>true) (fun r=>D.int r.1) rs fun r _=>⟨_,rfl,rfl,fun _=>rfl⟩
 rw [List.filter_eq_self.mpr (fun _ _=>rfl)] at h;have h':(rs.map fun r=>D.int r.1)=(rs.map (·.1)).map D.int:=by rw [t9];rfl
 rw [h'] at h;have hl2:(rs.map runD).length<=lim:=by rw [m6];exact mj hl (by decide)
 exact vf (ρ':=_) (xk (x_call (qb (x_l (q6x (cap:=[none]) (kj (x_v rfl) hc) hl2 h)) qj) (qir _)))
def q40(rs:List Run)(b:List Int): List Run:=rs.filter fun r=>decide (r.2=b)
theorem like_eq(rs:List Run)(b:List Int)(hl:rs.length<=1000): vt [.tup (rs.map runD),TI b]=some (.lst ((q40 rs b).map runD)):=by
 have h:=q4m (b:=bN 0) (c:=j9 oEq (eOp oIx (eV 0) (eC (.int 1))) (eV 1)) (e:=eV 0) (ρ :=[none,some (.fz (TI b))]) runD (fun r=>decide (r.2=b)) runD rs fun r _=>⟨_,rfl,j4 (qv (x_v rfl) x_c rfl) (x_v rfl) (qiu r.2 b),fun _=>rfl⟩
 have hl2:(rs.map runD).length<=lim:=by rw [m6];exact mj hl (by decide)
 exact vf (ρ':=_) (xk (x_l (q6x (cap:=[none,some 1]) (kj (x_v rfl) rfl) hl2 h)))
theorem qp0(w:Int){m:D}(rs rs2:List Run)(hl:rs2.length<=1000)(hm:okM m rs2): jx (stF w m rs) [.tup (rs2.map runD)]=some (stF w m rs,.int 0):=by
 rcases hm with rfl|⟨M,rfl,hs⟩
 ·exact ym (xk (qfs (c:=true) (j4 (q0l rfl rfl) x_c rfl) rfl x_c)) rfl
 ·have e:=q61 (.tup (rs2.map runD)) rs2 rfl hl
  have hx:oMax [.int 0,.int (wx rs2-M)]=some (.int 0):=by rw [qko,gy (by omega)]
  exact ym (xk (qft (c:=false) (j4 (q0l rfl rfl) x_c rfl) rfl (x_call (qb x_c (qb (qv (zd (qb (x_v rfl) qj) rfl e) (q0l rfl rfl) rfl) qj)) hx))) rfl
def yq(sel:Run->Bool)(r:Run)(left:Int): Int:=if sel r then(if left<r.1 then left else r.1) else 0
def part(sel:Run->Bool): List Run->Int->List Run×List Run
 | [],_=>([],[])
 | r :: rs,left=>((if 0<yq sel r left then [(yq sel r left,r.2)] else [])++(part sel rs (left-yq sel r left)).1,(if yq sel r left<r.1 then [(r.1-yq sel r left,r.2)] else [])++(part sel rs (left-yq sel r left)).2)
abbrev qe8:FT:=bOr (j9 (oIs false) (eV 2) (eC .non)) (j9 oEq (eV 7) (eV 2))
theorem q88(sel:Run->Bool)(ch:D)(ht:∀(r:Run) (x0 x1 x3 x4 x5 x6 x8:Option B),qe8 [x0,x1,some (.fz ch),x3,x4,x5,x6,some (.fz (TI r.2)),x8]=some (sel r))(x0 x1:Option B): ∀(rs:List Run) (left:Int) (ga ka:List Run) (b6 b7 b8:Option B),ga.length+rs.length<=1000->ka.length+rs.length<=1000->∃l' b6' b7' b8',
  runFor (q11 2 (xt (bN 6) (xt (bN 7) q10))) q2d (rs.map runD) [x0,x1,some (.fz ch),some (.ow (ga.map runD)),some (.ow (ka.map runD)),some (.fz (.int left)),b6,b7,b8] =
   some (.nx,[x0,x1,some (.fz ch),some (.ow ((ga++(part sel rs left).1).map runD)),some (.ow ((ka++(part sel rs left).2).map runD)),some (.fz (.int l')),b6',b7',b8'])
 | [],left,ga,ka,b6,b7,b8,_,_=>⟨left,b6,b7,b8,by simp [runFor,part]⟩
 | r :: rs,left,ga,ka,b6,b7,b8,hg,hk=>by
  rw [m3] at hg hk;have e0:q11 2 (xt (bN 6) (xt (bN 7) q10)) (runD r) [x0,x1,some (.fz ch),some (.ow (ga.map runD)),some (.ow (ka.map runD)),some (.fz (.int left)),b6,b7,b8]=some [x0,x1,some (.fz ch),some (.ow (ga.map runD)),some (.ow (ka.map runD)),some (.fz (.int left)),some (.fz (.int r.1)),some (.fz (TI r.2)),b8]:=rfl;have e1:eIf qe8 (qm oMin (qa (eV 6) (qa (eV 5) qh))) (eC (.int 0)) [x0,x1,some (.fz ch),some (.ow (ga.map runD)),some (.ow (ka.map runD)),some (.fz (.int left)),some (.fz (.int r.1)),some (.fz (TI r.2)),b8]=some (.int (yq sel r left)):=by
   have t:=ht r x0 x1 (some (.ow (ga.map runD))) (some (.ow (ka.map runD))) (some (.fz (.int left))) (some (.fz (.int r.1))) b8;unfold yq;cases hs:sel r with
   | true=>rw [hs] at t;exact qfs t rfl (x_call (qb (x_v rfl) (qb (x_v rfl) qj)) (qe3 _ _))
   | false=>rw [hs] at t;exact qft t rfl x_c
  have hg':(ga.map runD).length<lim:=by rw [m6];show _<1000000;omega
  have hk':(ka.map runD).length<lim:=by rw [m6];show _<1000000;omega
  generalize hgo:yq sel r left=g at e1;obtain⟨l',b6',b7',b8',er⟩:=q88 sel ch ht x0 x1 rs (left-g) (ga++if 0<g then [(g,r.2)] else []) (ka++if g<r.1 then [(r.1-g,r.2)] else []) (some (.fz (.int r.1))) (some (.fz (TI r.2))) (some (.fz (.int g)))
   (by rw [mv];split <;> simp <;> omega) (by rw [mv];split <;> simp <;> omega)
  have body:q2d [x0,x1,some (.fz ch),some (.ow (ga.map runD)),some (.ow (ka.map runD)),some (.fz (.int left)),some (.fz (.int r.1)),some (.fz (TI r.2)),b8]=some (.nx,[x0,x1,some (.fz ch),some (.ow ((ga++if 0<g then [(g,r.2)] else []).map runD)),some (.ow ((ka++if g<r.1 then [(r.1-g,r.2)] else []).map runD)),some (.fz (.int (left-g))),some (.fz (.int r.1)),some (.fz (TI r.2)),some (.fz (.int g))]):=by
   refine qp (jw e1) (qp (jw (qv (x_v rfl) (x_v rfl) rfl)) (qp (ρ1:=[x0,x1,some (.fz ch),some (.ow ((ga++if 0<g then [(g,r.2)] else []).map runD)),some (.ow (ka.map runD)),some (.fz (.int (left-g))),some (.fz (.int r.1)),some (.fz (TI r.2)),some (.fz (.int g))]) ?_ ?_))
   ·by_cases hc:0<g
    ·rw [gr hc,g08]
     exact q3z (j4 (x_v rfl) x_c (q38 _ _)) (m7 hc) (q8o rfl (zi (qb (x_v rfl) (qb (x_v rfl) qj)) (by show 2<=1000000;decide)) hg')
    ·rw [gy hc,mn]
     exact jb (j4 (x_v rfl) x_c (q38 _ _)) (gz hc) z8
   ·by_cases hc:g<r.1
    ·rw [gr hc,show(ka++[(r.1-g,r.2)]).map runD=ka.map runD++[runD (r.1-g,r.2)] from by rw [g08];rfl]
     exact q3z (j4 (x_v rfl) (x_v rfl) (q1f _ _)) (m7 hc) (q8o rfl (zi (qb (qv (x_v rfl) (x_v rfl) rfl) (qb (x_v rfl) qj)) (by show 2<=1000000;decide)) hk')
    ·rw [gy hc,mn]
     exact jb (j4 (x_v rfl) (x_v rfl) (q1f _ _)) (gz hc) z8
  refine⟨l',b6',b7',b8',?_⟩;rw [m9,xi e0 body,er,part,hgo,g0i,g0i]
theorem qbe(sel:Run->Bool)(ch:D)(ht:∀(r:Run) (x0 x1 x3 x4 x5 x6 x8:Option B),qe8 [x0,x1,some (.fz ch),x3,x4,x5,x6,some (.fz (TI r.2)),x8]=some (sel r))(rs:List Run)(left:Int)(hl:rs.length<=900):
  vi [.tup (rs.map runD),.int left,ch]=some (.tup [.tup ((part sel rs left).1.map runD),.tup ((part sel rs left).2.map runD)]):=by
 obtain⟨l',b6,b7,b8,e⟩:=q88 sel ch ht (some (.fz (.tup (rs.map runD)))) (some (.fz (.int left))) rs left [] [] none none none (by simp;omega) (by simp;omega);rw [g21,g21] at e;refine vf (ρ':=_) (qp (qgw (jq qj (by decide))) (qp (qgw (jq qj (by decide))) (qp (jw (x_v rfl)) (qp (q2h (kj (x_v rfl) rfl) e) (qle rfl (qle rfl (xk (zi (qb (x_call (qb (x_v rfl) qj) rfl) (qb (x_call (qb (x_v rfl) qj) rfl) qj)) (by show 2<=1000000;decide)))))))))
theorem qmr(r:Run)(x0 x1 x3 x4 x5 x6 x8:Option B): qe8 [x0,x1,some (.fz .non),x3,x4,x5,x6,some (.fz (TI r.2)),x8]=some ((fun _=>true) r):=qfu (c:=true) (j4 (x_v rfl) x_c rfl) rfl
theorem qqg(b:List Int)(r:Run)(x0 x1 x3 x4 x5 x6 x8:Option B): qe8 [x0,x1,some (.fz (TI b)),x3,x4,x5,x6,some (.fz (TI r.2)),x8]=some ((fun r:Run=>decide (r.2=b)) r):=
 q1g (c:=false) (j4 (x_v rfl) x_c rfl) rfl (j4 (x_v rfl) (x_v rfl) (qiu r.2 b))
abbrev qkp:Run->Bool:=fun _=>true
abbrev q2v(b:List Int): Run->Bool:=fun r=>decide (r.2=b)
theorem qbf:∀rs:List Run,(∀r∈rs,1<=r.1)->part qkp rs 0=([],rs)
 | [],_=>rfl
 | r :: rs,h=>by
  have h1:=h r gs;have g0:yq qkp r 0=0:=by unfold yq;rw [gr rfl,gr (by omega)]
  rw [part,g0,g0d,g0d,qbf rs fun x hx=>h x (gw _ hx),gy (by decide),gr (by omega)]
  rfl
theorem q52{w many:Int}{m:D}{rs:List Run}{b:List Int}(hw:w<=12)(hl:rs.length<200)(hp:∀r∈rs,1<=r.1)(g:GoodR w (many,b))(hm:okM m (rs++[(many,b)])):
  zp (stF w m rs) [.int many,TI b]=some (stF w m (rs++[(many,b)]),.tup []):=by
 have e1:=q60 (m:=m) (rs:=rs) hw g;have hl2:(rs++[(many,b)]).length<=900:=by rw [mv];simp;omega
 have hp2:∀r∈rs++[(many,b)],1<=r.1:=fun r hr=>by
  rcases g1y.mp hr with h|h
  ·exact hp r h
  ·cases p8.mp h;exact g.lo
 have e2:=qp0 w rs (rs++[(many,b)]) (by omega) hm;have e3:=qbe qkp .non qmr (rs++[(many,b)]) 0 hl2;rw [qbf _ hp2] at e3;have hx:rs.map runD++[runD (many,b)]=(rs++[(many,b)]).map runD:=by rw [g08];rfl
 have e4:jk (.tup (rs.map runD)) (.tup [runD (many,b)])=some (.tup ((rs++[(many,b)]).map runD)):=by
  rw [qiq _ _ (by rw [m6];simp;omega),hx]
 have hge:qm q1j (qa (kr "Store" 0 "runs") qh) [some (.od ("Store",stF w m rs)),some (.fz (.int many)),some (.fz (TI b)),none,none]=some (.int (rs.length:Int)):=by
  refine x_call (qb (q0l rfl rfl) qj) ?_;rw [qcg,m6]
 refine ym (ρ':=[some (.od ("Store",stF w m (rs++[(many,b)]))),some (.fz (.int many)),some (.fz (TI b)),some (.fz (.tup ((rs++[(many,b)]).map runD))),some (.fz (.tup [.tup [],.tup ((rs++[(many,b)]).map runD)]))]) ?_ rfl;refine qp (ρ1:=[some (.od ("Store",stF w m rs)),some (.fz (.int many)),some (.fz (TI b)),none,none]) (wk (xw rfl (qb (x_v rfl) (qb (x_v rfl) qj)) rfl rfl e1)) ?_;refine qp (jb (j4 hge x_c (q7m _ _)) (gz (by omega)) z8) ?_;refine qp (ρ1:=[some (.od ("Store",stF w m rs)),some (.fz (.int many)),some (.fz (TI b)),some (.fz (.tup ((rs++[(many,b)]).map runD))),none]) (jw (qv (q0l rfl rfl) (zi (qb (zi (qb (x_v rfl) (qb (x_v rfl) qj)) (by show 2<=1000000;decide)) qj) (by show 1<=1000000;decide)) e4)) ?_;refine qp (ρ1:=[some (.od ("Store",stF w m rs)),some (.fz (.int many)),some (.fz (TI b)),some (.fz (.tup ((rs++[(many,b)]).map runD))),some (.fz (.tup [.tup [],.tup ((rs++[(many,b)]).map runD)]))]) (qe5 (q39 (q0a (q29 (x_v rfl)) (q0a (xw rfl (qb (x_v rfl) qj) rfl rfl e2) (q5z qj))) rfl e3)) ?_;refine qp (ρ1:=[some (.od ("Store",stF w m (rs++[(many,b)]))),some (.fz (.int many)),some (.fz (TI b)),some (.fz (.tup ((rs++[(many,b)]).map runD))),some (.fz (.tup [.tup [],.tup ((rs++[(many,b)]).map runD)]))]) (q6y (fs:=stF w m rs) (qv (x_v rfl) x_c rfl) rfl (by show 3<100;decide)) ?_;exact xk (qv (x_v rfl) x_c rfl)
def there(rs:List Run)(b:List Int): Int:=wx (q40 rs b)
theorem qfv{w many:Int}{m:D}{rs:List Run}{b:List Int}(hw:w<=12)(hl:rs.length<=900)(g:GoodR w (many,b))(ht:many<=there rs b):
  je (stF w m rs) [.int many,TI b]=some (stF w m (part (q2v b) rs many).2,.non):=by
 have e1:=q60 (m:=m) (rs:=rs) hw g;have e2:=like_eq rs b (by omega);have hll:(q40 rs b).length<=1000:=mj (g2b _ _) (by omega);have e3:=q61 (.lst ((q40 rs b).map runD)) (q40 rs b) rfl hll;have e4:=qbe (q2v b) (TI b) (qqg b) rs many (by omega);generalize hp:part (q2v b) rs many=P at e4 ⊢;refine q6z (ρ':=[some (.od ("Store",stF w m P.2)),some (.fz (.int many)),some (.fz (TI b)),some (.fz (.int (there rs b)))]) ?_ rfl;refine qp (ρ1:=[some (.od ("Store",stF w m rs)),some (.fz (.int many)),some (.fz (TI b)),none]) (wk (xw rfl (qb (x_v rfl) (qb (x_v rfl) qj)) rfl rfl e1)) ?_;refine qp (ρ1:=[some (.od ("Store",stF w m rs)),some (.fz (.int many)),some (.fz (TI b)),some (.fz (.int (there rs b)))]) (jw (zd (qb (zd (qb (q0l rfl rfl) (qb (x_v rfl) qj)) rfl e2) qj) rfl e3)) ?_;refine qp (jb (j4 (x_v rfl) (x_v rfl) (q1f _ _)) (gz (by omega)) z8) ?_;exact q6y (fs:=stF w m rs) (qv (zd (qb (q0l rfl rfl) (qb (x_v rfl) (qb (x_v rfl) qj))) rfl e4) x_c rfl) rfl (by show 3<100;decide)
theorem qp1{u:FS}{v:FX}{ρ ρ1:Rho}{r:Option (XV×Rho)}(h:u ρ = some (.nx, ρ1))(h2:v ρ1=r): q16 u kc v ρ = r:=by
 unfold q16 kc;rw [h,g1b];exact h2
theorem q53{u:FS}{v v':FX}{ρ : Rho}{p:XV×Rho}(h:v ρ = some p): q16 u v v' ρ = some p:=by unfold q16;rw [h,g0e]
theorem q3a{t:FT}{a b:FX}{ρ : Rho}{c:Bool}{r:Option (XV×Rho)}(h:t ρ = some c)(hc:c=true)(h2:a ρ = r): xIf t a b ρ = r:=by subst hc;unfold xIf;rw [h,gb];exact h2
abbrev qe9(i:Int): XV:=("NotThere",some ("there",i))
theorem qal{t:FT}{a b:FX}{ρ : Rho}{c:Bool}{r:Option (XV×Rho)}(h:t ρ = some c)(hc:c=false)(h2:b ρ = r): xIf t a b ρ = r:=by subst hc;unfold xIf;rw [h,gb];exact h2
theorem qam{u:FS}{v v':FX}{ρ ρ1:Rho}{r:Option (XV×Rho)}(h0:v ρ = none)(h:u ρ = some (.nx, ρ1))(h2:v' ρ1=r): q16 u v v' ρ = r:=by
 unfold q16;rw [h0,h,g1b];exact h2
theorem q54{c nm:Str}{i ar:Nat}{op:Flds->List D->Option (XV×Flds)}{fa:FA}{ρ : Rho}{fs:Flds}{ds:List D}{r:Option (XV×Flds)}(h : ρ[i]? = some (some (.od (c,fs))))(h1:fa ρ = some ds)(hl:ds.length=ar)(hn:fs.lookup nm=none)(h2:op fs ds=r): q1n c nm i ar op fa ρ = r.map fun p=>(p.1, ρ.set i (some (.od (c,p.2)))):=by
 unfold q1n yg;rw [h];dsimp only;rw [gb,h1,gb,gr ⟨rfl,hl,by rw [hn];rfl⟩,h2]
abbrev q8s:XV:=("NoRun",none)
theorem qan(w:Int)(m:D)(rs:List Run)(d e:D){c:Bool}(h:jc [.tup [d,e],.int w]=some (.bl c)): x_Store_check_run (stF w m rs) [d,e]=if c then none else some (q8s,stF w m rs):=by
 have ht:xl (bT (qm (qq 2 [] jc) (qa (za (qa (eV 1) (qa (eV 2) qh))) (qa (kr "Store" 0 "wares") qh)))) [some (.od ("Store",stF w m rs)),some (.fz d),some (.fz e)]=some (!c):=yb (q19 (zd (qb (zi (qb (x_v rfl) (qb (x_v rfl) qj)) (by show 2<=1000000;decide)) (qb (q0l rfl rfl) qj)) rfl h) rfl);unfold x_Store_check_run;rw [show yc 3 "Store" (stF w m rs) [d,e]=[some (.od ("Store",stF w m rs)),some (.fz d),some (.fz e)] from rfl];cases c with
 | true=>rw [show xy [some (.od ("Store",stF w m rs)),some (.fz d),some (.fz e)]=none from qal ht rfl rfl];rfl
 | false=>rw [show xy [some (.od ("Store",stF w m rs)),some (.fz d),some (.fz e)]=some (q8s,[some (.od ("Store",stF w m rs)),some (.fz d),some (.fz e)]) from q3a ht rfl rfl];rfl
theorem qp2{w many:Int}{m:D}{rs:List Run}{b:List Int}(hw:w<=12)(g:GoodR w (many,b)): x_Store_check_run (stF w m rs) [.int many,TI b]=none:=by
 rw [qan w m rs _ _ (qe7 hw g)];rfl
theorem qp3(w:Int)(m:D)(rs:List Run)(d e:D)(h:jc [.tup [d,e],.int w]=some (.bl false)): x_Store_take (stF w m rs) [d,e]=some (q8s,stF w m rs):=by
 have h0:=qan w m rs d e h;have hv:kf [some (.od ("Store",stF w m rs)),some (.fz d),some (.fz e),none]=some (q8s,[some (.od ("Store",stF w m rs)),some (.fz d),some (.fz e),none]):=
  q53 (q54 rfl (qb (x_v rfl) (qb (x_v rfl) qj)) rfl rfl h0)
 unfold x_Store_take;rw [show yc 4 "Store" (stF w m rs) [d,e]=[some (.od ("Store",stF w m rs)),some (.fz d),some (.fz e),none] from rfl,hv]
 rfl
theorem qqh(w:Int)(m:D)(rs:List Run)(d e:D)(h:jc [.tup [d,e],.int w]=some (.bl false)): x_Store_put (stF w m rs) [d,e]=some (q8s,stF w m rs):=by
 have h0:=qan w m rs d e h;have hv:we [some (.od ("Store",stF w m rs)),some (.fz d),some (.fz e),none,none]=some (q8s,[some (.od ("Store",stF w m rs)),some (.fz d),some (.fz e),none,none]):=
  q53 (q54 rfl (qb (x_v rfl) (qb (x_v rfl) qj)) rfl rfl h0)
 unfold x_Store_put;rw [show yc 5 "Store" (stF w m rs) [d,e]=[some (.od ("Store",stF w m rs)),some (.fz d),some (.fz e),none,none] from rfl,hv]
 rfl
abbrev qea:XV:=("TooGreat",some ("most",200))
theorem qqi{w many:Int}{m:D}{rs:List Run}{b:List Int}(hw:w<=12)(hl:200<=rs.length)(g:GoodR w (many,b)): x_Store_put (stF w m rs) [.int many,TI b]=some (qea,stF w m rs):=by
 have e1:=q60 (m:=m) (rs:=rs) hw g;have hge:qm q1j (qa (kr "Store" 0 "runs") qh) [some (.od ("Store",stF w m rs)),some (.fz (.int many)),some (.fz (TI b)),none,none]=some (.int (rs.length:Int)):=by
  refine x_call (qb (q0l rfl rfl) qj) ?_;rw [qcg,m6]
 have hv:we [some (.od ("Store",stF w m rs)),some (.fz (.int many)),some (.fz (TI b)),none,none]=some (qea,[some (.od ("Store",stF w m rs)),some (.fz (.int many)),some (.fz (TI b)),none,none]):=by
  refine qam (ρ1:=[some (.od ("Store",stF w m rs)),some (.fz (.int many)),some (.fz (TI b)),none,none]) (q54 rfl (qb (x_v rfl) (qb (x_v rfl) qj)) rfl rfl (qp2 hw g)) (wk (xw rfl (qb (x_v rfl) (qb (x_v rfl) qj)) rfl rfl e1)) ?_;refine q53 (q3a (j4 hge x_c (q7m _ _)) (m7 (by omega)) ?_);unfold q4x;rw [x_c (d:=.int 200),gb];dsimp only;rw [gr (by decide)]
 unfold x_Store_put;rw [show yc 5 "Store" (stF w m rs) [.int many,TI b]=[some (.od ("Store",stF w m rs)),some (.fz (.int many)),some (.fz (TI b)),none,none] from rfl,hv]
 rfl
theorem qp4{w many:Int}{m:D}{rs:List Run}{b:List Int}(hw:w<=12)(hl:rs.length<200)(g:GoodR w (many,b))(ht:there rs b<many)(hb:(there rs b).natAbs.log2<1920):
  x_Store_take (stF w m rs) [.int many,TI b]=some (qe9 (there rs b),stF w m rs):=by
 have e1:=q60 (m:=m) (rs:=rs) hw g;have e2:=like_eq rs b (by omega);have hll:(q40 rs b).length<=1000:=mj (g2b _ _) (by omega);have e3:=q61 (.lst ((q40 rs b).map runD)) (q40 rs b) rfl hll;have hv:kf [some (.od ("Store",stF w m rs)),some (.fz (.int many)),some (.fz (TI b)),none]=some (qe9 (there rs b),[some (.od ("Store",stF w m rs)),some (.fz (.int many)),some (.fz (TI b)),some (.fz (.int (there rs b)))]):=by
  refine qam (ρ1:=[some (.od ("Store",stF w m rs)),some (.fz (.int many)),some (.fz (TI b)),none]) (q54 rfl (qb (x_v rfl) (qb (x_v rfl) qj)) rfl rfl (qp2 hw g)) (wk (xw rfl (qb (x_v rfl) (qb (x_v rfl) qj)) rfl rfl e1)) ?_;refine qp1 (ρ1:=[some (.od ("Store",stF w m rs)),some (.fz (.int many)),some (.fz (TI b)),some (.fz (.int (there rs b)))]) (jw (zd (qb (zd (qb (q0l rfl rfl) (qb (x_v rfl) qj)) rfl e2) qj) rfl e3)) ?_;refine q53 (q3a (j4 (x_v rfl) (x_v rfl) (q1f _ _)) (m7 ht) ?_);unfold q4x;rw [x_v (d:=.int (there rs b)) rfl,gb];dsimp only;rw [gr hb]
 unfold x_Store_take;rw [show yc 4 "Store" (stF w m rs) [.int many,TI b]=[some (.od ("Store",stF w m rs)),some (.fz (.int many)),some (.fz (TI b)),none] from rfl,hv]
 rfl
theorem q4a(r:Run)(rs:List Run): wx (r :: rs)=r.1+wx rs:=by unfold wx;rw [m9,List.sum_cons]
theorem qeb(a b:List Run): wx (a++b)=wx a+wx b:=by unfold wx;rw [g08,List.sum_append]
theorem qfw:∀(rs:List Run),(∀r∈rs,1<=r.1)->0<=wx rs
 | [],_=>g1d _
 | r :: rs,h=>by
  have:=qfw rs fun x hx=>h x (gw _ hx);have:=h r gs;rw [q4a];omega
end My
open PySem PyProof.Rows L2 DL
namespace My
open PySem PyProof.Rows L2 DL
theorem q2j(ns:List Int)(k:Int)(h0:0<=k): ∃c:Int,zk [.lst (ns.map .int),.int k]=some (.int c):=by
 by_cases h:k<(ns.length:Int)
 ·have hk:k.toNat<ns.length:=by omega
  have hi:atI (ns.map D.int) k=some (.int ns[k.toNat]):=by rw [qah h0,md,List.getElem?_eq_getElem hk];rfl
  refine⟨ns[k.toNat],?_⟩
  (refine qe4 ?_;simp! [q0f,h,hi])
 ·refine⟨0,?_⟩
  (refine qe4 ?_;simp! [q0f,h])
theorem q72(c k:Int)(h0:0<=k)(h1:k<=1000000): ∃m,ju [.int c,.int k]=some (.int m)/\0<=m/\m<2147483579:=by
 have hkk:js (.int k) (.int k)=some (.int (k*k)):=vn _ _ ⟨by omega,by omega⟩;have hx:∀x:Int,js (.int (x%2147483647)) (.int (x%2147483647))=some (.int ((x%2147483647)*(x%2147483647))):=fun x=>
  vn _ _ ⟨by have:=mq x (show(2147483647:Int)≠0 by decide);omega,by have:=ml x (show(0:Int)<2147483647 by decide);omega⟩
 have hy:∀x y:Int,js (.int x) (.int (y%2147483629))=some (.int (x*(y%2147483629))):=fun x y=>
  vn _ _ ⟨by have:=mq y (show(2147483629:Int)≠0 by decide);omega,by have:=ml y (show(0:Int)<2147483629 by decide);omega⟩
 have hl:∀x:Int,js (.int x) (.int 48271)=some (.int (x*48271)):=fun x=>vn _ _ ⟨by decide,by decide⟩;have hl2:∀x:Int,js (.int x) (.int 7919)=some (.int (x*7919)):=fun x=>vn _ _ ⟨by decide,by decide⟩;have hl3:∀x:Int,js (.int x) (.int 69621)=some (.int (x*69621)):=fun x=>vn _ _ ⟨by decide,by decide⟩;have hl4:∀x:Int,js (.int x) (.int 40692)=some (.int (x*40692)):=fun x=>vn _ _ ⟨by decide,by decide⟩;have fin:∀x:Int,0<=x%2147483579/\x%2147483579<2147483579:=fun x=>⟨mq x (by decide),ml x (by decide)⟩
 simp! [ju,q0u,hkk,hx,hy,hl,hl2,hl3,hl4];exact⟨_,rfl,fin _⟩
theorem qkq:∀b:List Int,xu (b.map D.int) (b.map D.int)=true:=fun b=>qe6 b b
theorem qms(b:List Int): eqL (b.map D.int) (b.map D.int)=true:=by rw [qgy];simp
theorem q8t:∀rs:List Run,xu (rs.map runD) (rs.map runD)=true
 | []=>rfl
 | r :: rs=>by simp only [m9,xu,okE,q8t rs,qkq,tx];rfl
theorem qao:∀rs:List Run,eqL (rs.map runD) (rs.map runD)=true
 | []=>rfl
 | r :: rs=>by
  have h:eqF (.int r.1) (.int r.1)=true:=by show(r.1==r.1)=true;exact pq _
  simp only [m9,eqL,eqD,qao rs,qms,h,tx]
theorem q8u:∀rs:List Run,xm (rs.map runD)<=2
 | []=>by simp [xm]
 | r :: rs=>by
  have:=q8u rs;simp only [m9,xm,q4f,q70];omega
theorem q3b(w:Int)(rs:List Run): q2q (jl w rs) (jl w rs)=some (.bl false):=by
 have h:eqF (.int w) (.int w)=true:=by show(w==w)=true;exact pq _
 have ho:xu [.int w,.tup (rs.map runD)] [.int w,.tup (rs.map runD)]=true:=by simp only [xu,okE,q8t rs,tx];rfl
 have he:eqL [.int w,.tup (rs.map runD)] [.int w,.tup (rs.map runD)]=true:=by simp only [eqL,eqD,qao rs,h,tx]
 have hd:xm [.int w,.tup (rs.map runD)]<=60:=by
  have:=q8u rs;simp only [xm,q4f];omega
 show(none:Option D).or (if(xu [.int w,.tup (rs.map runD)] [.int w,.tup (rs.map runD)]&&decide (xm [.int w,.tup (rs.map runD)]<=60))=true then some (D.bl (!eqL [.int w,.tup (rs.map runD)] [.int w,.tup (rs.map runD)])) else none)=_;rw [ho,he,m7 hd];rfl
theorem qmt(w:Int)(rs:List Run): oEq (jl w rs) (jl w rs)=some (.bl true):=by
 have h:eqF (.int w) (.int w)=true:=by show(w==w)=true;exact pq _
 have ho:xu [.int w,.tup (rs.map runD)] [.int w,.tup (rs.map runD)]=true:=by simp only [xu,okE,q8t rs,tx];rfl
 have he:eqL [.int w,.tup (rs.map runD)] [.int w,.tup (rs.map runD)]=true:=by simp only [eqL,eqD,qao rs,h,tx]
 have hd:xm [.int w,.tup (rs.map runD)]<=60:=by
  have:=q8u rs;simp only [xm,q4f];omega
 show(none:Option D).or (if(xu [.int w,.tup (rs.map runD)] [.int w,.tup (rs.map runD)]&&decide (xm [.int w,.tup (rs.map runD)]<=60))=true then some (D.bl (eqL [.int w,.tup (rs.map runD)] [.int w,.tup (rs.map runD)])) else none)=_;rw [ho,he,m7 hd];rfl
theorem qkr(f:Option (Str×Int)): jf [.exc "NoStore" f]=some (.lst [.str "store"]):=rfl
theorem qp5(f:Option (Str×Int)): jf [.exc "NoRun" f]=some (.lst [.str "run"]):=rfl
theorem qks(f:Option (Str×Int)): jf [.exc "TooGreat" f]=some (.lst [.str "great"]):=rfl
theorem qkt(f:Option (Str×Int)): jf [.exc "NotThere" f]=some (.lst [.str "there"]):=rfl
noncomputable abbrev vbR:FX:=xIf (bT (eV 1)) (q1n "Store" "take" 0 2 x_Store_take (qa (eV 2) (qa (eV 3) qh))) (q1n "Store" "put" 0 2 x_Store_put (qa (eV 2) (qa (eV 3) qh)))
noncomputable abbrev qku:FS:=sIf (bT (eV 1)) (y0 (xn "Store" "take" 0 2 je (qa (eV 2) (qa (eV 3) qh)))) (y0 (xn "Store" "put" 0 2 zp (qa (eV 2) (qa (eV 3) qh))))
abbrev hdR:Str->Option (Str×Int)->FS:=qke [("NoRun",(sAs 5 "NoRun" (j5 4 (eV 5)))),("NotThere",(sAs 5 "NotThere" (j5 4 (eV 5)))),("TooGreat",(sAs 5 "TooGreat" (j5 4 (eV 5))))]
theorem qgz{w:Int}{m:D}{rs:List Run}{tk:Bool}{d e:D}{p:XV}(h:(if tk then x_Store_take else x_Store_put) (stF w m rs) [d,e]=some (p,stF w m rs)): vbR [some (.od ("Store",stF w m rs)),some (.fz (.bl tk)),some (.fz d),some (.fz e),some (.fz .non),none,none]=some (p,[some (.od ("Store",stF w m rs)),some (.fz (.bl tk)),some (.fz d),some (.fz e),some (.fz .non),none,none]):=by
 cases tk with
 | true=>exact q3a (c:=true) rfl rfl ((q54 rfl (qb (x_v rfl) (qb (x_v rfl) qj)) rfl rfl h).trans rfl)
 | false=>exact qal (c:=false) rfl rfl ((q54 rfl (qb (x_v rfl) (qb (x_v rfl) qj)) rfl rfl h).trans rfl)
theorem qmu(w:Int)(m:D)(rs:List Run)(tk:Bool)(d e:D)(h:jc [.tup [d,e],.int w]=some (.bl false)): zb (stF w m rs) [.bl tk,d,e]=some (stF w m rs,.lst [.lst [.str "run"],.non]):=by
 have hv:vbR [some (.od ("Store",stF w m rs)),some (.fz (.bl tk)),some (.fz d),some (.fz e),some (.fz .non),none,none]=some (q8s,[some (.od ("Store",stF w m rs)),some (.fz (.bl tk)),some (.fz d),some (.fz e),some (.fz .non),none,none]):=qgz (by cases tk;exact qqh w m rs d e h;exact qp3 w m rs d e h);refine ym (ρ':=[some (.od ("Store",stF w m rs)),some (.fz (.bl tk)),some (.fz d),some (.fz e),some (.fz (.exc "NoRun" none)),none,some (.fz (.lst [.str "run"]))]) ?_ rfl;refine qp (ρ1:=[some (.od ("Store",stF w m rs)),some (.fz (.bl tk)),some (.fz d),some (.fz e),some (.fz .non),none,none]) (jw x_c) ?_;refine qp (ρ1:=[some (.od ("Store",stF w m rs)),some (.fz (.bl tk)),some (.fz d),some (.fz e),some (.fz (.exc "NoRun" none)),none,none]) ?_ ?_
 ·show q1o qku vbR ["NoRun","NotThere","TooGreat"] hdR _=_
  unfold q1o;rw [hv]
  rfl
 refine qp (jb (c:=false) (j4 (x_v rfl) x_c rfl) rfl z8) ?_;refine qp (jw (zd (qb (x_v rfl) qj) rfl (qp5 none))) ?_;refine qp (jb (c:=false) (j4 (x_v rfl) (x_l (jq (qb x_c qj) (by decide))) rfl) rfl z8) ?_;refine qp (jb (c:=false) (j4 (x_v rfl) (x_l (jq (qb x_c qj) (by decide))) rfl) rfl z8) ?_;exact xk (x_l (jq (qb (x_v rfl) (qb x_c qj)) (by show 2<=1000000;decide)))
theorem qbg{w many:Int}{m:D}{rs:List Run}{b:List Int}(hw:w<=12)(hl:200<=rs.length)(g:GoodR w (many,b)): zb (stF w m rs) [.bl false,.int many,TI b]=some (stF w m rs,.lst [.lst [.str "great"],.int 200]):=by
 have hv:vbR [some (.od ("Store",stF w m rs)),some (.fz (.bl false)),some (.fz (.int many)),some (.fz (TI b)),some (.fz .non),none,none]=some (qea,[some (.od ("Store",stF w m rs)),some (.fz (.bl false)),some (.fz (.int many)),some (.fz (TI b)),some (.fz .non),none,none]):=qgz (tk:=false) (qqi hw hl g);refine ym (ρ':=[some (.od ("Store",stF w m rs)),some (.fz (.bl false)),some (.fz (.int many)),some (.fz (TI b)),some (.fz (.exc "TooGreat" (some ("most",200)))),none,some (.fz (.lst [.str "great"]))]) ?_ rfl;refine qp (ρ1:=[some (.od ("Store",stF w m rs)),some (.fz (.bl false)),some (.fz (.int many)),some (.fz (TI b)),some (.fz .non),none,none]) (jw x_c) ?_;refine qp (ρ1:=[some (.od ("Store",stF w m rs)),some (.fz (.bl false)),some (.fz (.int many)),some (.fz (TI b)),some (.fz (.exc "TooGreat" (some ("most",200)))),none,none]) ?_ ?_
 ·show q1o qku vbR ["NoRun","NotThere","TooGreat"] hdR _=_
  unfold q1o;rw [hv]
  rfl
 refine qp (jb (c:=false) (j4 (x_v rfl) x_c rfl) rfl z8) ?_;refine qp (jw (zd (qb (x_v rfl) qj) rfl (qks _))) ?_;exact q9o (q3z (c:=true) (j4 (x_v rfl) (x_l (jq (qb x_c qj) (by decide))) rfl) rfl (xk (x_l (jq (qb (x_v rfl) (qb (f:=eXF "TooGreat" "most" (eV 4)) (d:=.int 200) (by unfold eXF;rw [x_v (d:=.exc "TooGreat" (some ("most",200))) rfl];rfl) qj)) (by show 2<=1000000;decide)))))
theorem q73{w many:Int}{m:D}{rs:List Run}{b:List Int}(hw:w<=12)(hl:rs.length<200)(g:GoodR w (many,b))(ht:there rs b<many)(hb:(there rs b).natAbs.log2<1920): zb (stF w m rs) [.bl true,.int many,TI b]=some (stF w m rs,.lst [.lst [.str "there"],.int (there rs b)]):=by
 have hv:vbR [some (.od ("Store",stF w m rs)),some (.fz (.bl true)),some (.fz (.int many)),some (.fz (TI b)),some (.fz .non),none,none]=some (qe9 (there rs b),[some (.od ("Store",stF w m rs)),some (.fz (.bl true)),some (.fz (.int many)),some (.fz (TI b)),some (.fz .non),none,none]):=qgz (tk:=true) (qp4 hw hl g ht hb);refine ym (ρ':=[some (.od ("Store",stF w m rs)),some (.fz (.bl true)),some (.fz (.int many)),some (.fz (TI b)),some (.fz (.exc "NotThere" (some ("there",(there rs b))))),none,some (.fz (.lst [.str "there"]))]) ?_ rfl;refine qp (ρ1:=[some (.od ("Store",stF w m rs)),some (.fz (.bl true)),some (.fz (.int many)),some (.fz (TI b)),some (.fz .non),none,none]) (jw x_c) ?_;refine qp (ρ1:=[some (.od ("Store",stF w m rs)),some (.fz (.bl true)),some (.fz (.int many)),some (.fz (TI b)),some (.fz (.exc "NotThere" (some ("there",(there rs b))))),none,none]) ?_ ?_
 ·show q1o qku vbR ["NoRun","NotThere","TooGreat"] hdR _=_
  unfold q1o;rw [hv]
  rfl
 refine qp (jb (c:=false) (j4 (x_v rfl) x_c rfl) rfl z8) ?_;refine qp (jw (zd (qb (x_v rfl) qj) rfl (qkt _))) ?_;refine qp (jb (c:=false) (j4 (x_v rfl) (x_l (jq (qb x_c qj) (by decide))) rfl) rfl z8) ?_;exact q9o (q3z (c:=true) (j4 (x_v rfl) (x_l (jq (qb x_c qj) (by decide))) rfl) rfl (xk (x_l (jq (qb (x_v rfl) (qb (f:=eXF "NotThere" "there" (eV 4)) (d:=.int (there rs b)) (by unfold eXF;rw [x_v (d:=.exc "NotThere" (some ("there",(there rs b)))) rfl];rfl) qj)) (by show 2<=1000000;decide)))))
theorem qfx(n:Int): va [.lst [.lst [.str "great"],.int n],.str "great",.int n]=some (.bl true):=by
 have t0:j9 qdf (eOp oIx (eV 0) (eC (.int 0))) (eL (jm (qa (eV 1) qh))) [some (.fz (.lst [.lst [.str "great"],.int n])),some (.fz (.str "great")),some (.fz (.int n))]=some false:=j4 (qv (x_v rfl) x_c rfl) (x_l (jq (qb (x_v rfl) qj) (by show 1<=1000000;decide))) rfl;have t1:xl (bT (q13 .int (eOp oIx (eV 0) (eC (.int 1))))) [some (.fz (.lst [.lst [.str "great"],.int n])),some (.fz (.str "great")),some (.fz (.int n))]=some false:=rfl;have t2:bT (q13 .bool (eOp oIx (eV 0) (eC (.int 1)))) [some (.fz (.lst [.lst [.str "great"],.int n])),some (.fz (.str "great")),some (.fz (.int n))]=some false:=rfl;refine(vf (ρ':=_) (qp (jb (c:=false) (q1g (c:=false) t0 rfl (q1g (c:=false) t1 rfl t2)) rfl z8) (xk (qv (qv (x_v rfl) x_c rfl) (x_v rfl) (q28 _ _))))).trans ?_;simp
theorem qap(n:Int): va [.lst [.lst [.str "there"],.int n],.str "there",.int n]=some (.bl true):=by
 have t0:j9 qdf (eOp oIx (eV 0) (eC (.int 0))) (eL (jm (qa (eV 1) qh))) [some (.fz (.lst [.lst [.str "there"],.int n])),some (.fz (.str "there")),some (.fz (.int n))]=some false:=j4 (qv (x_v rfl) x_c rfl) (x_l (jq (qb (x_v rfl) qj) (by show 1<=1000000;decide))) rfl;have t1:xl (bT (q13 .int (eOp oIx (eV 0) (eC (.int 1))))) [some (.fz (.lst [.lst [.str "there"],.int n])),some (.fz (.str "there")),some (.fz (.int n))]=some false:=rfl;have t2:bT (q13 .bool (eOp oIx (eV 0) (eC (.int 1)))) [some (.fz (.lst [.lst [.str "there"],.int n])),some (.fz (.str "there")),some (.fz (.int n))]=some false:=rfl;refine(vf (ρ':=_) (qp (jb (c:=false) (q1g (c:=false) t0 rfl (q1g (c:=false) t1 rfl t2)) rfl z8) (xk (qv (qv (x_v rfl) x_c rfl) (x_v rfl) (q28 _ _))))).trans ?_;simp
theorem qec(w:Int)(m:D)(rs:List Run)(tk:Bool)(d e:D)(h:jc [.tup [d,e],.int w]=some (.bl false)): q1t [some (.od ("Store",stF w m rs)),some (.fz d),some (.fz e),some (.fz (jl w rs)),some (.fz (.bl tk))]=some (.nx,[some (.od ("Store",stF w m rs)),some (.fz d),some (.fz e),some (.fz (jl w rs)),some (.fz (.bl tk))]):=by
 refine yl (b:=false) (q0b (b:=false) (wj (q09 rfl (qb (x_v rfl) (qb (x_v rfl) (qb (x_v rfl) qj))) rfl (qmu w m rs tk d e h)) (q29 (x_l (jq (qb (x_l (jq (qb x_c qj) (by decide))) (qb x_c qj)) (by show 2<=1000000;decide)))) rfl) rfl (wj (xw rfl qj rfl rfl (wm w m rs)) (q29 (x_v rfl)) (q3b w rs))) rfl z8
theorem q4b(w:Int)(m:D)(rs:List Run)(d e:D)(h:jc [.tup [d,e],.int w]=some (.bl false)): jv (stF w m rs) [d,e]=some (stF w m rs,.bl true):=by
 refine ym (ρ':=[some (.od ("Store",stF w m rs)),some (.fz d),some (.fz e),some (.fz (jl w rs)),some (.fz (.bl false))]) ?_ rfl;refine qp (ρ1:=[some (.od ("Store",stF w m rs)),some (.fz d),some (.fz e),some (.fz (jl w rs)),none]) (qe5 (xw rfl qj rfl rfl (wm w m rs))) ?_;refine qp (q2h (kj (x_l (jq (qb x_c (qb x_c qj)) (by show 2<=1000000;decide))) rfl) ((xi (b:=bN 4) rfl (qec w m rs true d e h)).trans ((xi (b:=bN 4) rfl (qec w m rs false d e h)).trans rfl))) (xk x_c)
end My
open PySem PyProof.Rows L2 DL
namespace My
open PySem PyProof.Rows L2 DL
theorem qrf:oPow (.int 10) (.int 12)=some (.int (10 ^ 12)):=q3y 10 12 (by decide) (by decide) (by decide)
theorem q8v:oPow (.int 10) (.int 15)=some (.int (10 ^ 15)):=q3y 10 15 (by decide) (by decide) (by decide)
theorem hp9:oPow (.int 10) (.int 9)=some (.int (10 ^ 9)):=q3y 10 9 (by decide) (by decide) (by decide)
theorem qrg:oPow (.int 10) (.int 11)=some (.int (10 ^ 11)):=q3y 10 11 (by decide) (by decide) (by decide)
abbrev qh0(w far:Int): List D:=[.lst [.int (w-1)],.tup [.int (w-1),.int (w-1)],.tup [.int w],.tup [.int (w+far)],.tup [.int (-1)],.tup [.int (-1-far),.int (w-1)],.tup [.bl true],.tup [.non],.tup [.str "0"],.tup [.tup [.int 0]],.non,.int (w-1),.str "0",.dct [] [],.tup [.int 0,.int (w-1),.int w],.tup [.int (w-1),.int 0]]
theorem qet(w far:Int): kg [.int w,.int far]=some (.lst (qh0 w far)):=rfl
theorem qlg{w:Int}{d:D}(h:y9 [d,.int w]=some (.bl false))(n:D): jc [.tup [n,d],.int w]=some (.bl false):=by rw [q8r n d w h,ud]
theorem q34{b:Int}{d:D}{ds:List D}(h:okW b d=false)(hm:d∈ds): ds.all (okW b)=false:=by
 rw [List.all_eq_false];exact⟨d,hm,by rw [h];exact gp⟩
theorem qlh{w:Int}(h:w<=12): bnd w=w:=gy (by omega)
theorem qfy{w far:Int}(h1:1<=w)(h6:w<=6)(hf:0<=far): ∀d∈qh0 w far,y9 [d,.int w]=some (.bl false):=by
 intro d hd;have hb:=qlh (w:=w) (by omega);simp only [qh0,m5,mz,nv] at hd;rcases hd with rfl|rfl|rfl|rfl|rfl|rfl|rfl|rfl|rfl|rfl|rfl|rfl|rfl|rfl|rfl|rfl
 ·exact q1v rfl
 ·refine(q2i (ns:=[w-1,w-1]) (by simp) fun i hi=>?_).trans ?_
  ·rw [hb]
   simp only [m5,mz,nv,or_self] at hi;omega
  ·rw [show rise [w-1,w-1]=false from q7o [] (w-1) (w-1) [] (by omega)]
 ·exact vo (by simp only [m3,nj];decide) (q34 (d:=.int w) (by rw [hb];simp [okW]) gs)
 ·exact vo (by simp only [m3,nj];decide) (q34 (d:=.int (w+far)) (by rw [hb];simp only [okW,gz (show ¬w+far<w by omega),ud]) gs)
 ·exact vo (by simp only [m3,nj];decide) (q34 (d:=.int (-1)) (by simp [okW]) gs)
 ·exact vo (by simp only [m3,nj];decide) (q34 (d:=.int (-1-far)) (by simp only [okW,gz (show ¬ 0 <= -1-far by omega),pj]) gs)
 ·exact vo (by simp only [m3,nj];decide) (q34 (d:=.bl true) rfl gs)
 ·exact vo (by simp only [m3,nj];decide) (q34 (d:=.non) rfl gs)
 ·exact vo (by simp only [m3,nj];decide) (q34 (d:=.str "0") rfl gs)
 ·exact vo (by simp only [m3,nj];decide) (q34 (d:=.tup [.int 0]) rfl gs)
 ·exact q1v rfl
 ·exact q1v rfl
 ·exact q1v rfl
 ·exact q1v rfl
 ·exact vo (by simp only [m3,nj];decide) (q34 (d:=.int w) (by rw [hb];simp [okW]) (gw _ (gw _ gs)))
 ·refine(q2i (ns:=[w-1,0]) (by simp) fun i hi=>?_).trans ?_
  ·rw [hb]
   simp only [m5,mz,nv] at hi;omega
  ·rw [show rise [w-1,0]=false from q7o [] (w-1) 0 [] (by omega)]
abbrev qkv(far:Int): List D:=[.int 0,.int (-1-far),.bl true,.non,.str "1",.int (10 ^ 12+1+far),.tup [.int 1],.lst [.int 1]]
theorem qp6{far:Int}(hf:0<=far): ∀d∈qkv far,isW 1 1000000000000 d=false:=by
 intro d hd;simp only [qkv,m5,mz,nv] at hd;rcases hd with rfl|rfl|rfl|rfl|rfl|rfl|rfl|rfl
 ·rfl
 ·simp only [isW,gz (show ¬ 0 <= -1-far by omega),pj]
 ·rfl
 ·rfl
 ·rfl
 ·simp only [isW,gz (show ¬ 10 ^ 12+1+far<=1000000000000 by omega),ud]
 ·rfl
 ·rfl
theorem qbh(w:Int)(m:D)(rs:List Run)(g:D)(x1 x2 x5:Option B): ∀(ds:List D),(∀d∈ds,jc [.tup [d,g],.int w]=some (.bl false))->∀b4:Option B,∃b4',
  runFor (bN 4) yx ds [some (.od ("Store",stF w m rs)),x1,x2,some (.fz g),b4,x5]=some (.nx,[some (.od ("Store",stF w m rs)),x1,x2,some (.fz g),b4',x5])
 | [],_,b4=>⟨b4,rfl⟩
 | d :: ds,h,b4=>by
  obtain⟨b4',e⟩:=qbh w m rs g x1 x2 x5 ds (fun x hx=>h x (gw _ hx)) (some (.fz d));have body:yx [some (.od ("Store",stF w m rs)),x1,x2,some (.fz g),some (.fz d),x5]=some (.nx,[some (.od ("Store",stF w m rs)),x1,x2,some (.fz g),some (.fz d),x5]):=
   yl (b:=false) (q0m (q33 (q09 rfl (qb (x_v rfl) (qb (x_v rfl) qj)) rfl (q4b w m rs d g (h d gs))) rfl)) rfl z8
  exact⟨b4',by rw [xi (b:=bN 4) rfl body,e]⟩
theorem qbi(w:Int)(m:D)(rs:List Run)(x1 x2 x3 x4:Option B): ∀(ds:List D),(∀d∈ds,jc [.tup [.int 1,d],.int w]=some (.bl false))->∀b5:Option B,∃b5',
  runFor (bN 5) yy ds [some (.od ("Store",stF w m rs)),x1,x2,x3,x4,b5]=some (.nx,[some (.od ("Store",stF w m rs)),x1,x2,x3,x4,b5'])
 | [],_,b5=>⟨b5,rfl⟩
 | d :: ds,h,b5=>by
  obtain⟨b5',e⟩:=qbi w m rs x1 x2 x3 x4 ds (fun x hx=>h x (gw _ hx)) (some (.fz d));have body:yy [some (.od ("Store",stF w m rs)),x1,x2,x3,x4,some (.fz d)]=some (.nx,[some (.od ("Store",stF w m rs)),x1,x2,x3,x4,some (.fz d)]):=
   yl (b:=false) (q0m (q33 (q09 rfl (qb x_c (qb (x_v rfl) qj)) rfl (q4b w m rs (.int 1) d (h d gs))) rfl)) rfl z8
  exact⟨b5',by rw [xi (b:=bN 5) rfl body,e]⟩
def zt(lo:Nat)(n:Nat): List Int:=(List.range n).map fun i:Nat=>((lo+i:Nat):Int)
theorem qfz(lo n:Nat): jj (lo:Int) n=(zt lo n).map D.int:=by
 unfold jj zt;rw [t9];apply g18;intro i _;simp
theorem qed(lo n w:Nat)(h:lo+n<=w)(hn:n<=1000): GoodB (w:Int) (zt lo n):=by
 refine⟨fun x hx=>?_,?_,?_⟩
 ·unfold zt at hx
  obtain⟨i,hi,rfl⟩:=List.mem_map.mp hx;have:=g27.mp hi;omega
 ·unfold zt
  rw [List.pairwise_map];refine List.Pairwise.imp ?_ (List.pairwise_lt_range (n:=n));intro a b h;omega
 ·unfold zt
  rw [m6,g0j];exact hn
theorem qli{w:Int}{b:List Int}(hw:w<=12)(g:GoodB w b): y9 [TI b,.int w]=some (.bl true):=by
 rw [q2i g.len fun i hi=>by rw [qlh hw];exact g.mem i hi,qaj g.up]
theorem qp7(w:Nat)(h:w<=1000){f:FE}{ρ : Rho}(hf:f ρ = some (.int (w:Int))): q99 f ρ = some (TI (zt 0 w)):=by
 unfold q99;rw [hf,gb];dsimp only;rw [gr (by simp;omega),g0h];show some (D.tup (jj ((0:Nat):Int) w))=_;rw [qfz]
theorem qeu(w:Nat)(far:Int)(m:D)(rs:List Run)(h1:1<=w)(h6:w<=6)(hf:0<=far): ki (stF (w:Int) m rs) [.int (w:Int),.int far]=some (stF (w:Int) m rs,.bl true):=by
 obtain⟨b4,e1⟩:=qbh (w:Int) m rs (TI (zt 0 w)) (some (.fz (.int (w:Int)))) (some (.fz (.int far))) none (qkv far) (fun d hd=>by rw [q8r d _ (w:Int) (qli (by omega) (qed 0 w w (by omega) (by omega))),qp6 hf d hd];rfl) none;obtain⟨b5,e2⟩:=qbi (w:Int) m rs (some (.fz (.int (w:Int)))) (some (.fz (.int far))) (some (.fz (TI (zt 0 w)))) b4 (qh0 (w:Int) far) (fun d hd=>qlg (qfy (by omega) (by omega) hf d hd) _) none;refine ym (ρ':=[some (.od ("Store",stF (w:Int) m rs)),some (.fz (.int (w:Int))),some (.fz (.int far)),some (.fz (TI (zt 0 w))),b4,b5]) ?_ rfl;refine qp (jw (qp7 w (by omega) (x_v rfl))) ?_;refine qp (q2h (kj (x_l (jq (qb x_c (qb (qv rfl (x_v rfl) rfl) (qb x_c (qb x_c (qb x_c (qb (qv (qv (qv x_c x_c qrf) x_c rfl) (x_v rfl) rfl) (qb (zi (qb x_c qj) (by decide)) (qb (x_l (jq (qb x_c qj) (by decide))) qj)))))))) (by show 8<=1000000;decide))) rfl) e1) ?_;exact qp (q2h (kj (zd (qb (x_v rfl) (qb (x_v rfl) qj)) rfl (qet (w:Int) far)) rfl) e2) (xk x_c)
abbrev qee:XV:=("NoStore",none)
theorem qp8(d m:D)(h:isW 0 12 d=false\/(isW 0 12 d=true/\oIs true m .non=some (.bl true)/\isW 1 1000000000000000 m=false)): x_Store___init__ [] [d,m]=some (qee,[]):=by
 have t1:xl (bT (qm (qq 3 [] zc) (qa (eV 1) (qa (eC (.int 0)) (qa (eC (.int 12)) qh))))) [some (.od ("Store",([]:Flds))),some (.fz d),some (.fz m)]=some (!isW 0 12 d):=yb (q19 (zd (qb (x_v rfl) (qb x_c (qb x_c qj))) rfl (q49 0 12 d)) rfl);have hv:y8 [some (.od ("Store",([]:Flds))),some (.fz d),some (.fz m)]=some (qee,[some (.od ("Store",([]:Flds))),some (.fz d),some (.fz m)]):=by
  rcases h with h|⟨h,hi,hm⟩
  ·rw [h] at t1
   exact q53 (q3a t1 rfl rfl)
  ·rw [h] at t1
   have t2:q1y (j9 (oIs true) (eV 2) (eC .non)) (xl (bT (qm (qq 3 [] zc) (qa (eV 2) (qa (eC (.int 1)) (qa (eC (.int 1000000000000000)) qh)))))) [some (.od ("Store",([]:Flds))),some (.fz d),some (.fz m)]=some true:=by
    refine q5y (c:=true) (j4 (x_v rfl) x_c hi) rfl ?_;have:=yb (q19 (zd (qb (x_v (ρ :=[some (.od ("Store",([]:Flds))),some (.fz d),some (.fz m)]) (i:=2) (d:=m) rfl) (qb x_c (qb x_c qj))) rfl (q49 1 1000000000000000 m)) rfl);rw [hm] at this;exact this
   exact qam (qal t1 rfl rfl) (jb t1 rfl z8) (q53 (q3a t2 rfl rfl))
 unfold x_Store___init__;rw [show yc 3 "Store" [] [d,m]=[some (.od ("Store",([]:Flds))),some (.fz d),some (.fz m)] from rfl,hv]
 rfl
theorem q89(d m:D)(h:isW 0 12 d=false\/(isW 0 12 d=true/\oIs true m .non=some (.bl true)/\isW 1 1000000000000000 m=false)): xh [d,m]=some (.bl true):=by
 have hv:qgt 2 x_Store___init__ (qa (eV 0) (qa (eV 1) qh)) [some (.fz d),some (.fz m),some (.fz .non),none]=some (qee,[some (.fz d),some (.fz m),some (.fz .non),none]):=by
  unfold qgt;rw [qb (x_v (d:=d) rfl) (qb (x_v (d:=m) rfl) qj),gb,gr (show [d,m].length=2 from rfl),qp8 d m h]
  rfl
 refine vf (ρ':=[some (.fz d),some (.fz m),some (.fz (.exc "NoStore" none)),none]) ?_;refine qp (ρ1:=[some (.fz d),some (.fz m),some (.fz .non),none]) (jw x_c) ?_;refine qp (ρ1:=[some (.fz d),some (.fz m),some (.fz (.exc "NoStore" none)),none]) ?_ ?_
 ·unfold q1o
  rw [hv]
  rfl
 exact xk (q51 (qv (x_v rfl) x_c rfl) rfl (qv (zd (qb (x_v rfl) qj) rfl (qkr none)) (x_l (jq (qb x_c qj) (by decide))) rfl))
abbrev qkw(far:Int): List D:=[.int (-1),.int 13,.int (13+far),.int (-1-far),.bl true,.bl false,.non,.str "3",.tup [.int 3],.lst [.int 3],.dct [] [],.tup [],.str ""]
abbrev qkx(far:Int): List D:=[.int 0,.int (-1-far),.bl true,.bl false,.str "5",.int (10 ^ 15+1),.int (10 ^ 15+1+far),.tup [],.lst [.int 5],.dct [] []]
theorem qp9{far:Int}(hf:0<=far): ∀d∈qkw far,isW 0 12 d=false:=by
 intro d hd;simp only [qkw,m5,mz,nv] at hd;rcases hd with rfl|rfl|rfl|rfl|rfl|rfl|rfl|rfl|rfl|rfl|rfl|rfl|rfl <;> first|rfl|skip
 ·simp only [isW,gz (show ¬ 13+far<=12 by omega),ud]
 ·simp only [isW,gz (show ¬ 0 <= -1-far by omega),pj]
theorem qpa{far:Int}(hf:0<=far): ∀d∈qkx far,oIs true d .non=some (.bl true)/\isW 1 1000000000000000 d=false:=by
 intro d hd;simp only [qkx,m5,mz,nv] at hd;rcases hd with rfl|rfl|rfl|rfl|rfl|rfl|rfl|rfl|rfl|rfl <;> refine⟨rfl,?_⟩ <;> first|rfl|skip
 ·simp only [isW,gz (show ¬ 0 <= -1-far by omega),pj]
 ·simp only [isW,gz (show ¬ 10 ^ 15+1+far<=1000000000000000 by omega),ud]
theorem qef(x0 x2:Option B): ∀(ds:List D),(∀d∈ds,xh [d,.non]=some (.bl true))->∀b1:Option B,∃b1',runFor (bN 1) ye ds [x0,b1,x2]=some (.nx,[x0,b1',x2])
 | [],_,b1=>⟨b1,rfl⟩
 | d :: ds,h,b1=>by
  obtain⟨b1',e⟩:=qef x0 x2 ds (fun x hx=>h x (gw _ hx)) (some (.fz d));have body:ye [x0,some (.fz d),x2]=some (.nx,[x0,some (.fz d),x2]):=jb (c:=false) (yb (q19 (zd (qb (x_v rfl) (qb x_c qj)) rfl (h d gs)) rfl)) rfl z8;exact⟨b1',by rw [xi (b:=bN 1) rfl body,e]⟩
theorem qeg(x0 x1:Option B): ∀(ds:List D),(∀d∈ds,xh [.int 2,d]=some (.bl true))->∀b2:Option B,∃b2',runFor (bN 2) yf ds [x0,x1,b2]=some (.nx,[x0,x1,b2'])
 | [],_,b2=>⟨b2,rfl⟩
 | d :: ds,h,b2=>by
  obtain⟨b2',e⟩:=qeg x0 x1 ds (fun x hx=>h x (gw _ hx)) (some (.fz d));have body:yf [x0,x1,some (.fz d)]=some (.nx,[x0,x1,some (.fz d)]):=jb (c:=false) (yb (q19 (zd (qb x_c (qb (x_v rfl) qj)) rfl (h d gs)) rfl)) rfl z8;exact⟨b2',by rw [xi (b:=bN 2) rfl body,e]⟩
theorem qc3(far:Int)(hf:0<=far): ya [.int far]=some (.bl true):=by
 obtain⟨b1,e1⟩:=qef (some (.fz (.int far))) none (qkw far) (fun d hd=>q89 d .non (.inl (qp9 hf d hd))) none;obtain⟨b2,e2⟩:=qeg (some (.fz (.int far))) b1 (qkx far) (fun d hd=>q89 (.int 2) d (.inr ⟨rfl,qpa hf d hd⟩)) none;refine vf (ρ':=[some (.fz (.int far)),b1,b2]) ?_;refine qp (q2h (kj (x_l (jq (qb rfl (qb x_c (qb (qv x_c (x_v rfl) rfl) (qb (qv rfl (x_v rfl) rfl) (qb x_c (qb x_c (qb x_c (qb x_c (qb (zi (qb x_c qj) (by decide)) (qb (x_l (jq (qb x_c qj) (by decide))) (qb rfl (qb (zi qj (by decide)) (qb x_c qj))))))))))))) (by show 13<=1000000;decide))) rfl) e1) ?_;exact qp (q2h (kj (x_l (jq (qb x_c (qb (qv rfl (x_v rfl) rfl) (qb x_c (qb x_c (qb x_c (qb (qv (qv x_c x_c q8v) x_c rfl) (qb (qv (qv (qv x_c x_c q8v) x_c rfl) (x_v rfl) rfl) (qb (zi qj (by decide)) (qb (x_l (jq (qb x_c qj) (by decide))) (qb rfl qj)))))))))) (by show 10<=1000000;decide))) rfl) e2) (xk x_c)
end My
open PySem PyProof.Rows L2 DL
namespace My
open PySem PyProof.Rows L2 DL
theorem qiy{w:Int}{rs:List Run}(h:∀r∈rs,GoodR w r){r:Run}(hr:r∈rs): 1<=there rs r.2:=by
 unfold there;have hm:r∈q40 rs r.2:=g0q.mpr ⟨hr,m7 rfl⟩;have hg:∀x∈q40 rs r.2,1<=x.1:=fun x hx=>(h x (g0q.mp hx).1).lo;generalize q40 rs r.2=l at hm hg
 induction l with
 | nil=>cases hm
 | cons y l ih=>
  rw [q4a];have h1:=hg y gs;have h2:=qfw l fun x hx=>hg x (gw _ hx);omega
section
variable{ρ ρ1 ρ2:Rho}{fm gm:FM}{am:FAM}{tm tm2:FTM}{x y d:D}{ds:List D}{b b2:Bool}
theorem qlj{o:D->D->Option D}(h1:fm ρ = some (x, ρ1))(h2:gm ρ1=some (y, ρ2))(h3:o x y=some d): mOp o fm gm ρ = some (d, ρ2):=by unfold mOp;rw [h1,gb,h2,gb,h3];rfl
theorem qmv{o:List D->Option D}(h1:am ρ = some (ds, ρ1))(h2:o ds=some d): yr o am ρ = some (d, ρ1):=by unfold yr;rw [h1,gb,h2];rfl
theorem qiz(h1:tm ρ = some (b, ρ1))(hb:b=true)(h2:tm2 ρ1=some (b2, ρ2)): q5j tm tm2 ρ = some (b2, ρ2):=by subst hb;unfold q5j;rw [h1,gb];exact h2
theorem qj0(h1:tm ρ = some (b, ρ1))(hb:b=false): q5j tm tm2 ρ = some (false, ρ1):=by subst hb;unfold q5j;rw [h1];rfl
end
def q4c(w:Nat): List Int:=if w=0 then [] else [(w:Int)-1]
theorem last_eq:∀w:Nat,w<=12->oSl (TI (zt 0 w)) (some (-1)) none=some (TI (q4c w)):=by
 intro w h;have:w=0\/w=1\/w=2\/w=3\/w=4\/w=5\/w=6\/w=7\/w=8\/w=9\/w=10\/w=11\/w=12:=by omega
 rcases this with rfl|rfl|rfl|rfl|rfl|rfl|rfl|rfl|rfl|rfl|rfl|rfl|rfl <;> rfl
theorem qj1(w:Nat): GoodB (w:Int) (q4c w):=by
 unfold q4c
 split
 ·exact⟨(fun x hx=>by cases hx),.nil,by decide⟩
 ·exact⟨(fun x hx=>by cases p8.mp hx;omega),pe _ _,by simp⟩
theorem qqj{m:D}(h:okI m){b:List Int}: okM m ([]++[((1:Int),b)]):=by
 rcases h with h|⟨M,h,h1,_⟩
 ·exact .inl h
 ·exact .inr ⟨M,h,by show 1+0<=M;omega⟩
abbrev oB(d:Option D): Option B:=d.map B.fz
theorem qj2(far:Int)(w:Nat)(hw:w<=12)(m:D)(hm:okI m)(b3:Option B)(d4:Option D): ∃b3' d4',vk [some (.fz (.int far)),some (.fz (.int (w:Int))),some (.fz m),b3,oB d4]=some (.nx,[some (.fz (.int far)),some (.fz (.int (w:Int))),some (.fz m),b3',oB d4']):=by
 have ei:=qak (w:=(w:Int)) (m:=m) (by omega) (by omega) hm;have ep:=q52 (w:=(w:Int)) (many:=1) (m:=m) (rs:=[]) (b:=q4c w) (by omega) (by decide) (fun r hr=>by cases hr) ⟨g1d _,(by show(1:Int)<=1000000000000;decide),qj1 w⟩ (qqj hm);have no:q6j 3 [some (.fz (.int far)),some (.fz (.int (w:Int))),some (.fz m),b3,oB d4]=true:=by cases d4 <;> rfl
 refine⟨some (.od ("Store",stF (w:Int) m ([]++[((1:Int),q4c w)]))),some (TI (q4c w)),?_⟩;refine qp (qgx (qb (x_v rfl) (qb (x_v rfl) qj)) no rfl ei) ?_;refine qp (jw (qkl (qp7 w (by omega) (x_v rfl)) (x_at rfl) qkk (last_eq w hw))) ?_;exact yl (b:=false) (q0b (b:=false) (wj (xw rfl qj rfl rfl (wm (w:Int) m [])) (q29 (zi (qb (x_v rfl) (qb (zi qj (by decide)) qj)) (by show 2<=1000000;decide))) (q3b (w:Int) [])) rfl
  (q0b (b:=false) (wj (xw rfl (qb x_c (qb (x_v rfl) qj)) rfl rfl ep) (q29 (zi qj (by decide))) rfl) rfl
   (wj (xw rfl qj rfl rfl (wm (w:Int) m ([]++[((1:Int),q4c w)]))) (q29 (zi (qb (x_v rfl) (qb (zi (qb (zi (qb x_c (qb (x_v rfl) qj)) (by show 2<=1000000;decide)) qj) (by show 1<=1000000;decide)) qj)) (by show 2<=1000000;decide))) (q3b (w:Int) [((1:Int),q4c w)])))) rfl z8
theorem qg0(far:Int)(w:Nat)(hw:w<=12): ∀(ms:List D),(∀m∈ms,okI m)->∀(d2:Option B) (b3:Option B) (d4:Option D),∃b2' b3' d4',runFor (bN 2) vk ms [some (.fz (.int far)),some (.fz (.int (w:Int))),d2,b3,oB d4]=some (.nx,[some (.fz (.int far)),some (.fz (.int (w:Int))),b2',b3',oB d4'])
 | [],_,d2,b3,d4=>⟨d2,b3,d4,rfl⟩
 | m :: ms,h,d2,b3,d4=>by
  obtain⟨c3,c4,eb⟩:=qj2 far w hw m (h m gs) b3 d4;obtain⟨b2',b3',d4',e⟩:=qg0 far w hw ms (fun x hx=>h x (gw _ hx)) (some (.fz m)) c3 c4;exact⟨b2',b3',d4',by rw [xi (b:=bN 2) rfl eb,e]⟩
theorem qeh(far:Int)(hf:0<=far): ∀(n k:Nat),k+n<=13->∀(b1 b2 b3:Option B) (d4:Option D),∃ ρ',runFor (bN 1) vm (jj (k:Int) n) [some (.fz (.int far)),b1,b2,b3,oB d4]=some (.nx, ρ')
 | 0,k,_,b1,b2,b3,d4=>⟨_,rfl⟩
 | n+1,k,h,b1,b2,b3,d4=>by
  have m0:=mq far (show(10 ^ 9:Int)≠0 by decide);have m1:=ml far (show(0:Int)<10 ^ 9 by decide);obtain⟨c2,c3,c4,e⟩:=qg0 far k (by omega) [.non,.int (1+far%10 ^ 9),.int (10 ^ 15)] (fun m hm=>by
   simp only [m5,mz,nv] at hm;rcases hm with rfl|rfl|rfl
   ·exact .inl rfl
   ·exact .inr ⟨_,rfl,by omega,by omega⟩
   ·exact .inr ⟨_,rfl,by decide,by decide⟩) b2 b3 d4
  have body:vm [some (.fz (.int far)),some (.fz (.int (k:Int))),b2,b3,oB d4]=some (.nx,[some (.fz (.int far)),some (.fz (.int (k:Int))),c2,c3,oB c4]):=
   q2h (kj (x_l (jq (qb x_c (qb (qv x_c (qv (x_v rfl) (qv x_c x_c hp9) (jy _ _ (by decide))) rfl) (qb (qv x_c x_c q8v) qj))) (by show 3<=1000000;decide))) rfl) e
  obtain⟨ρ',er⟩:=qeh far hf n (k+1) (by omega) (some (.fz (.int (k:Int)))) c2 c3 c4;refine⟨ρ',?_⟩;rw [q87,xi (b:=bN 1) rfl body,show(k:Int)+1=((k+1:Nat):Int) by omega,er]
theorem qaq(far:Int)(hf:0<=far): vj [.int far]=some (.bl true):=by
 obtain⟨ρ',e⟩:=qeh far hf 13 0 (by omega) none none none none;have hr:iR1 (qa (eC (.int 13)) qh) [some (.fz (.int far)),none,none,none,none]=some (jj 0 13):=by
  rw [qfr _ _ 13 (qb x_c qj) (by omega) (by omega)];rfl
 exact vf (ρ':= ρ') (qp (q2h hr e) (xk x_c))
def q2k(w i:Nat): Run:=(1+((i%3:Nat):Int),zt (i%w) (w-i%w))
def yn(w k:Nat): List Run:=(List.range k).map (q2k w)
theorem q62(w k:Nat): yn w (k+1)=yn w k++[q2k w k]:=by unfold yn;rw [List.range_succ,g08];rfl
theorem qbj(w k:Nat): (yn w k).length=k:=by unfold yn;rw [m6,g0j]
theorem q9q(w i:Nat)(h:1<=w)(h6:w<=6): GoodR (w:Int) (q2k w i):=by
 have:=Nat.mod_lt i (show 0<w by omega);exact⟨by show(1:Int)<=1+((i%3:Nat):Int);omega,by show 1+((i%3:Nat):Int)<=_;omega,qed _ _ _ (by omega) (by omega)⟩
theorem q9r(w k:Nat)(h:1<=w)(h6:w<=6): ∀r∈yn w k,GoodR (w:Int) r:=fun r hr=>by
 unfold yn at hr;obtain⟨i,_,rfl⟩:=List.mem_map.mp hr;exact q9q w i h h6
theorem q74(w:Nat): ∀k,wx (yn w k)=2*(k:Int)-(if k%3=0 then 0 else 1)
 | 0=>rfl
 | k+1=>by
  rw [q62,qeb,q74 w k,q4a];show _+((1+((k%3:Nat):Int))+0)=_;have:k%3=0\/k%3=1\/k%3=2:=by omega
  rcases this with h|h|h
  ·rw [h,gr rfl,gy (by omega)];omega
  ·rw [h,gy (by omega),gy (by omega)];omega
  ·rw [h,gy (by omega),gr (by omega)];omega
theorem qky(w k:Nat): wx (yn w k)<=2*(k:Int):=by rw [q74];split <;> omega
def okF(m:D): Prop:=m=.non\/∃M:Int,m=.int M/\400<=M/\M<=1000000000000000
theorem qlk{m:D}(h:okF m): okI m:=h.elim .inl fun⟨M,e,a,b⟩=>.inr ⟨M,e,by omega,b⟩
theorem q9s{m:D}{rs:List Run}(h:okF m)(hs:wx rs<=400): okM m rs:=h.elim .inl fun⟨M,e,a,b⟩=>.inr ⟨M,e,by omega⟩
theorem qqk(lo w:Nat)(h:lo<=w)(hw:w<=1000){f g:FE}{ρ : Rho}(hf:f ρ = some (.int (lo:Int)))(hg:g ρ = some (.int (w:Int))): q9a f g ρ = some (TI (zt lo (w-lo))):=by
 unfold q9a;rw [hf,gb,hg,gb];dsimp only;rw [gr (by simp;omega),show((w:Int)-(lo:Int)).toNat=w-lo by omega,qfz]
theorem qbk(w:Nat)(far:Int)(m:D)(h1:1<=w)(h6:w<=6)(hm:okF m): ∀(n k:Nat),k+n<=200->∀b4:Option B,∃b4',runFor (bN 4) q0x (jj (k:Int) n) [some (.fz (.int (w:Int))),some (.fz (.int far)),some (.fz m),some (.od ("Store",stF (w:Int) m (yn w k))),b4,none]=some (.nx,[some (.fz (.int (w:Int))),some (.fz (.int far)),some (.fz m),some (.od ("Store",stF (w:Int) m (yn w (k+n)))),b4',none])
 | 0,k,_,b4=>⟨b4,rfl⟩
 | n+1,k,h,b4=>by
  have hs:=qky w (k+1);rw [q62] at hs;have ep:=q52 (w:=(w:Int)) (m:=m) (rs:=yn w k) (many:=(q2k w k).1) (b:=(q2k w k).2) (by omega) (by rw [qbj];omega) (fun r hr=>(q9r w k h1 h6 r hr).lo) (q9q w k h1 h6) (q9s hm (show wx (yn w k++[q2k w k])<=400 by omega));rw [show((q2k w k).1,(q2k w k).2)=q2k w k from rfl, <- q62] at ep;have hlt:=Nat.mod_lt k (show 0<w by omega);have e3:oMod (.int (k:Int)) (.int 3)=some (.int ((k%3:Nat):Int)):=by rw [jy _ _ (by decide)];rfl
  have ew:oMod (.int (k:Int)) (.int (w:Int))=some (.int ((k%w:Nat):Int)):=by rw [jy _ _ (by omega)];rfl
  have body:q0x [some (.fz (.int (w:Int))),some (.fz (.int far)),some (.fz m),some (.od ("Store",stF (w:Int) m (yn w k))),some (.fz (.int (k:Int))),none]=some (.nx,[some (.fz (.int (w:Int))),some (.fz (.int far)),some (.fz m),some (.od ("Store",stF (w:Int) m (yn w (k+1)))),some (.fz (.int (k:Int))),none]):=
   wk (xw rfl (qb (qv x_c (qv (x_v rfl) x_c e3) rfl) (qb (qqk (k%w) w (by omega) (by omega) (qv (x_v rfl) (x_v rfl) ew) (x_v rfl)) qj)) rfl rfl ep)
  obtain⟨b4',er⟩:=qbk w far m h1 h6 hm n (k+1) (by omega) (some (.fz (.int (k:Int))));refine⟨b4',?_⟩;rw [q87,xi (b:=bN 4) rfl body,show(k:Int)+1=((k+1:Nat):Int) by omega,er,show k+1+n=k+(n+1) by omega]
theorem q9t(sel:Run->Bool): ∀rs:List Run,(∀r∈rs,1<=r.1)->(part sel rs 0).2=rs
 | [],_=>rfl
 | r :: rs,h=>by
  have h1:=h r gs;have g0:yq sel r 0=0:=by unfold yq;split <;> first|rfl|(rw [gr (by omega)])
  rw [part];dsimp only;rw [g0,g0d,g0d,q9t sel rs fun x hx=>h x (gw _ hx),gr (by omega)]
  rfl
def q63(w n:Nat): List Run:=(List.range n).map fun i=>q2k w (i+1)
theorem q9u(w n:Nat): yn w (n+1)=(1,zt 0 w) :: q63 w n:=by
 unfold yn q63;rw [g0l,m9,t9]
 congr 1
theorem qmw(w:Nat)(far:Int)(m:D)(h1:1<=w)(h6:w<=6)(hm:okF m)(hf:0<=far): q0k [.int (w:Int),.int far,m]=some (.bl true):=by
 have hw12:(w:Int)<=12:=by omega
 have ei:=qak (w:=(w:Int)) (m:=m) (by omega) (by omega) (qlk hm);obtain⟨b4,el⟩:=qbk w far m h1 h6 hm 200 0 (by omega) none;rw [show 0+200=199+1 from rfl,q9u] at el;have hg:=q9r w (199+1) h1 h6;have hs:=q74 w (199+1);have hlen:=qbj w (199+1);rw [q9u] at hg hs hlen;rw [q4a] at hs;have gR:∀r∈q63 w 199,GoodR (w:Int) r:=fun r hr=>hg r (gw _ hr);have hrl:(q63 w 199).length=199:=by rw [m3] at hlen;omega
 have hsR:wx (q63 w 199)=398:=by
  rw [gy (by decide)] at hs;have:((199+1:Nat):Int)=200:=by decide
  rw [this] at hs;show _=_;have h2:(1:Int)+wx (q63 w 199)=2*200-1:=hs;omega
 generalize q63 w 199=R at el hg gR hrl hsR hlen;clear hs;have m0:=mq far (show(9:Int)≠0 by decide);have m1:=ml far (show(0:Int)<9 by decide);have g0:GoodB (w:Int) [0]:=⟨(fun x hx=>by cases p8.mp hx;omega),pe _ _,by decide⟩
 have gE:GoodB (w:Int) []:=⟨(fun x hx=>by cases hx),.nil,by decide⟩
 have er1:=qbg (w:=(w:Int)) (m:=m) (rs:=(1,zt 0 w) :: R) (many:=5+far%9) (b:=[0]) hw12 (by rw [hlen];decide) ⟨by show 1<=5+far%9;omega,by show 5+far%9<=_;omega,g0⟩;have en1:=q4b (w:Int) m ((1,zt 0 w) :: R) (.int 1) (.tup [.int (w:Int)]) (qlg (qfy (w:=(w:Int)) (far:=0) (by omega) (by omega) (by omega) (.tup [.int (w:Int)]) (by simp)) _);have en2:=q4b (w:Int) m ((1,zt 0 w) :: R) (.int 0) (.tup [.int 0]) (by rw [q8r (.int 0) (.tup [.int 0]) (w:Int) (qli hw12 g0)];rfl);have g1:GoodR (w:Int) (1,zt 0 w):=hg _ gs;have et:=qfv (w:=(w:Int)) (m:=m) (rs:=(1,zt 0 w) :: R) (many:=1) (b:=zt 0 w) hw12 (by rw [hlen];decide) g1 (qiy hg gs);have hpt:(part (q2v (zt 0 w)) ((1,zt 0 w) :: R) 1).2=R:=by
  have gg:yq (q2v (zt 0 w)) (1,zt 0 w) 1=1:=by unfold yq q2v;rw [m7 rfl,gr rfl,gy (by show ¬(1:Int)<1;decide)]
  rw [part];dsimp only;rw [gg,gy (by decide),show(1:Int)-1=0 from rfl,q9t _ R fun r hr=>(gR r hr).lo]
  rfl
 rw [hpt] at et;have ep:=q52 (w:=(w:Int)) (m:=m) (rs:=R) (many:=1) (b:=[0]) hw12 (by omega) (fun r hr=>(gR r hr).lo) ⟨g1d _,(by show(1:Int)<=1000000000000;decide),g0⟩ (q9s hm (by rw [qeb,hsR];decide));have hl2:(R++[((1:Int),[(0:Int)])]).length=200:=by rw [mv,hrl];rfl
 have er2:=qbg (w:=(w:Int)) (m:=m) (rs:=R++[((1:Int),[(0:Int)])]) (many:=1) (b:=[]) hw12 (by rw [hl2];decide) ⟨g1d _,(by show(1:Int)<=1000000000000;decide),gE⟩;have hr:iR1 (qa (eC (.int 200)) qh) [some (.fz (.int (w:Int))),some (.fz (.int far)),some (.fz m),some (.od ("Store",stF (w:Int) m [])),none,none]=some (jj 0 200):=by
  rw [qfr _ _ 200 (qb x_c qj) (by omega) (by omega)];rfl
 have no:q6j 3 [some (.fz (.int (w:Int))),some (.fz (.int far)),some (.fz m),none,none,none]=true:=rfl;have e9:oMod (.int far) (.int 9)=some (.int (far%9)):=jy _ _ (by decide);have hln:q1j [.tup ((R++[((1:Int),[(0:Int)])]).map runD)]=some (.int 200):=by rw [qcg,m6,hl2];rfl
 have q0:oIx (.tup (((1,zt 0 w) :: R).map runD)) (.int 0)=some (runD (1,zt 0 w)):=by rw [qoz,qah (by decide)];rfl
 have q1:eOp oIx (eOp oIx (eOp oIx (eV 5) (eC (.int 1))) (eC (.int 0))) (eC (.int 0)) [some (.fz (.int (w:Int))),some (.fz (.int far)),some (.fz m),some (.od ("Store",stF (w:Int) m ((1,zt 0 w) :: R))),b4,some (.fz (jl (w:Int) ((1,zt 0 w) :: R)))]=some (.int 1):=qv (qv (qv (x_v rfl) x_c rfl) x_c q0) x_c rfl;have q2:eOp oIx (eOp oIx (eOp oIx (eV 5) (eC (.int 1))) (eC (.int 0))) (eC (.int 1)) [some (.fz (.int (w:Int))),some (.fz (.int far)),some (.fz m),some (.od ("Store",stF (w:Int) m ((1,zt 0 w) :: R))),b4,some (.fz (jl (w:Int) ((1,zt 0 w) :: R)))]=some (TI (zt 0 w)):=qv (qv (qv (x_v rfl) x_c rfl) x_c q0) x_c rfl;refine vf (ρ':=[some (.fz (.int (w:Int))),some (.fz (.int far)),some (.fz m),some (.od ("Store",stF (w:Int) m (R++[((1:Int),[(0:Int)])]))),b4,some (.fz (jl (w:Int) ((1,zt 0 w) :: R)))]) ?_;refine qp (qgx (qb (x_v rfl) (qb (x_v rfl) qj)) no rfl ei) ?_;refine qp (ρ1:=[some (.fz (.int (w:Int))),some (.fz (.int far)),some (.fz m),some (.od ("Store",stF (w:Int) m ((1,zt 0 w) :: R))),b4,none]) (q2h hr el) ?_;refine qp (ρ1:=[some (.fz (.int (w:Int))),some (.fz (.int far)),some (.fz m),some (.od ("Store",stF (w:Int) m ((1,zt 0 w) :: R))),b4,some (.fz (jl (w:Int) ((1,zt 0 w) :: R)))]) (qe5 (xw rfl qj rfl rfl (wm (w:Int) m ((1,zt 0 w) :: R)))) ?_;refine qp (ρ1:=[some (.fz (.int (w:Int))),some (.fz (.int far)),some (.fz m),some (.od ("Store",stF (w:Int) m ((1,zt 0 w) :: R))),b4,some (.fz (jl (w:Int) ((1,zt 0 w) :: R)))]) (yl (b:=false) (q0b (b:=false) (q0m (q33 (q39 (q0a (q09 rfl (qb x_c (qb (qv x_c (qv (x_v rfl) x_c e9) rfl) (qb (zi (qb x_c qj) (by decide)) qj))) rfl er1) (q5z (qb x_c (qb x_c qj)))) rfl (qfx 200)) rfl)) rfl (wj (xw rfl qj rfl rfl (wm (w:Int) m ((1,zt 0 w) :: R))) (q29 (x_v rfl)) (q3b (w:Int) ((1,zt 0 w) :: R)))) rfl z8) ?_;refine qp (ρ1:=[some (.fz (.int (w:Int))),some (.fz (.int far)),some (.fz m),some (.od ("Store",stF (w:Int) m ((1,zt 0 w) :: R))),b4,some (.fz (jl (w:Int) ((1,zt 0 w) :: R)))]) (yl (b:=false) (q0b (b:=false) (q0m (q33 (q09 rfl (qb x_c (qb (zi (qb (x_v rfl) qj) (by show 1<=1000000;decide)) qj)) rfl en1) rfl)) rfl (q0m (q33 (q09 rfl (qb x_c (qb (zi (qb x_c qj) (by decide)) qj)) rfl en2) rfl))) rfl z8) ?_;refine qp (ρ1:=[some (.fz (.int (w:Int))),some (.fz (.int far)),some (.fz m),some (.od ("Store",stF (w:Int) m R)),b4,some (.fz (jl (w:Int) ((1,zt 0 w) :: R)))]) (wk (xw rfl (qb q1 (qb q2 qj)) rfl rfl et)) ?_;refine qp (ρ1:=[some (.fz (.int (w:Int))),some (.fz (.int far)),some (.fz m),some (.od ("Store",stF (w:Int) m (R++[((1:Int),[(0:Int)])]))),b4,some (.fz (jl (w:Int) ((1,zt 0 w) :: R)))]) (yl (b:=false) (q0b (b:=false) (wj (xw rfl (qb x_c (qb (zi (qb x_c qj) (by decide)) qj)) rfl rfl ep) (q29 (zi qj (by decide))) rfl) rfl (wj (qmv (q0a (qlj (xw rfl qj rfl rfl (wm (w:Int) m (R++[((1:Int),[(0:Int)])]))) (q29 x_c) rfl) (q5z qj)) hln) (q29 x_c) rfl)) rfl z8) ?_;exact qit (q39 (q0a (q09 rfl (qb x_c (qb x_c (qb (zi qj (by decide)) qj))) rfl er2) (q5z (qb x_c (qb x_c qj)))) rfl (qfx 200))
end My
open PySem PyProof.Rows L2 DL
namespace My
open PySem PyProof.Rows L2 DL
abbrev R3(far:Int): List Run:=[(1+far%7,[0]),(2,[]),(3+far%5,[0])]
abbrev thr(far:Int): Int:=(1+far%7)+(3+far%5)
theorem th0(far:Int): there (R3 far) [0]=thr far:=by
 show(1+far%7)+((3+far%5)+0)=(1+far%7)+(3+far%5);rw [Int.add_zero]
theorem th1(far:Int): there (R3 far) [1]=0:=rfl
theorem the(far:Int): there (R3 far) []=2:=rfl
theorem qpb(far:Int)(hf:0<=far): (part (q2v [0]) (R3 far) (thr far)).2=[(2,[])]:=by
 have a0:=mq far (show(7:Int)≠0 by decide);have c0:=mq far (show(5:Int)≠0 by decide);have ht:thr far=(1+far%7)+(3+far%5):=rfl;have g1:yq (q2v [0]) (1+far%7,[0]) (thr far)=1+far%7:=by unfold yq;rw [gr (show q2v [0] (1+far%7,[0])=true from rfl),gy (by show ¬thr far<1+far%7;omega)]
 have g2:∀l,yq (q2v [0]) ((2:Int),([]:List Int)) l=0:=fun l=>by unfold yq;rw [gy (by decide)]
 have g3:yq (q2v [0]) (3+far%5,[0]) (3+far%5)=3+far%5:=by unfold yq;rw [gr (show q2v [0] (3+far%5,[0])=true from rfl),gy (by show ¬ 3+far%5<3+far%5;omega)]
 rw [part];dsimp only;rw [g1,gy (by omega),show thr far-(1+far%7)=3+far%5 by omega,part];dsimp only;rw [g2,gr (by decide),g0d,g0d,part];dsimp only;rw [g3,gy (by omega)]
 rfl
theorem qj3{t:Int}(h0:0<=t)(h1:t<100): t.natAbs.log2<1920:=by
 by_cases hz:t.natAbs=0
 ·rw [hz];decide
 ·refine Nat.lt_trans ((Nat.log2_lt hz).mpr (show t.natAbs<2 ^ 64 from ?_)) (by decide)
  omega
theorem qpc(ns:List Int): ∃far:Int,0<=far/\far<10 ^ 15/\∀(x2 x3 x4 x5 x6 x7 x8 x9:Option B),∃x1,(j5 1 (eOp oMod (eOp js (qm (qq 2 [] ju) (qa (qm (qq 2 [] zk) (qa (eV 0) (qa (eC (.int 1)) qh))) (qa (eC (.int 1)) qh))) (qm (qq 2 [] ju) (qa (qm (qq 2 [] zk) (qa (eV 0) (qa (eC (.int 2)) qh))) (qa (eC (.int 2)) qh)))) (eOp oPow (eC (.int 10)) (eC (.int 15))))) [some (.fz (.lst (ns.map .int))),none,x2,x3,x4,x5,x6,x7,x8,x9]=some (.nx,[some (.fz (.lst (ns.map .int))),x1,x2,x3,x4,x5,x6,x7,x8,x9]) /\
  (sIf (j9 oEq (eOp oMod (qm (qq 2 [] zk) (qa (eV 0) (qa (eC (.int 0)) qh))) (eC (.int 2))) (eC (.int 0))) (j5 1 (eOp oMod (qm (qq 2 [] zk) (qa (eV 0) (qa (eC (.int 1)) qh))) (eOp oPow (eC (.int 10)) (eC (.int 15))))) zo) [some (.fz (.lst (ns.map .int))),x1,x2,x3,x4,x5,x6,x7,x8,x9]=some (.nx,[some (.fz (.lst (ns.map .int))),some (.fz (.int far)),x2,x3,x4,x5,x6,x7,x8,x9]):=by
 obtain⟨c0,e0⟩:=q2j ns 0 (by decide);obtain⟨c1,e1⟩:=q2j ns 1 (by decide);obtain⟨c2,e2⟩:=q2j ns 2 (by decide);obtain⟨m1,em1,p1,q1⟩:=q72 c1 1 (by decide) (by decide);obtain⟨m2,em2,p2,q2⟩:=q72 c2 2 (by decide) (by decide);have ht:js (.int m1) (.int m2)=some (.int (m1*m2)):=vn _ _ ⟨by omega,by omega⟩;have f1:∀x:Int,oMod (.int x) (.int (10 ^ 15))=some (.int (x%10 ^ 15)):=fun x=>jy _ _ (by decide);have bd:∀x:Int,0<=x%10 ^ 15/\x%10 ^ 15<10 ^ 15:=fun x=>⟨mq x (by decide),ml x (by decide)⟩
 have s1:∀(x2 x3 x4 x5 x6 x7 x8 x9:Option B),(j5 1 (eOp oMod (eOp js (qm (qq 2 [] ju) (qa (qm (qq 2 [] zk) (qa (eV 0) (qa (eC (.int 1)) qh))) (qa (eC (.int 1)) qh))) (qm (qq 2 [] ju) (qa (qm (qq 2 [] zk) (qa (eV 0) (qa (eC (.int 2)) qh))) (qa (eC (.int 2)) qh)))) (eOp oPow (eC (.int 10)) (eC (.int 15))))) [some (.fz (.lst (ns.map .int))),none,x2,x3,x4,x5,x6,x7,x8,x9]=some (.nx,[some (.fz (.lst (ns.map .int))),some (.fz (.int (m1*m2%10 ^ 15))),x2,x3,x4,x5,x6,x7,x8,x9]):=fun x2 x3 x4 x5 x6 x7 x8 x9=>
  jw (qv (qv (zd (qb (zd (qb (x_v rfl) (qb x_c qj)) rfl e1) (qb x_c qj)) rfl em1) (zd (qb (zd (qb (x_v rfl) (qb x_c qj)) rfl e2) (qb x_c qj)) rfl em2) ht) (qv x_c x_c q8v) (f1 _))
 by_cases h:c0%2=0
 ·refine⟨c1%10 ^ 15,(bd _).1,(bd _).2,fun x2 x3 x4 x5 x6 x7 x8 x9=>⟨_,s1 x2 x3 x4 x5 x6 x7 x8 x9,?_⟩⟩
  exact q3z (j4 (qv (zd (qb (x_v rfl) (qb x_c qj)) rfl e0) x_c (jy _ _ (by decide))) x_c (q28 _ _)) (m7 h) (jw (qv (zd (qb (x_v rfl) (qb x_c qj)) rfl e1) (qv x_c x_c q8v) (f1 _)))
 ·refine⟨m1*m2%10 ^ 15,(bd _).1,(bd _).2,fun x2 x3 x4 x5 x6 x7 x8 x9=>⟨_,s1 x2 x3 x4 x5 x6 x7 x8 x9,?_⟩⟩
  exact jb (j4 (qv (zd (qb (x_v rfl) (qb x_c qj)) rfl e0) x_c (jy _ _ (by decide))) x_c (q28 _ _)) (gz h) z8
theorem qmx(ns:List Int)(far:Int)(w:Nat)(m:D)(hf:0<=far)(h1:1<=w)(h6:w<=6)(hm:okF m): ∃b6 b7,runFor (q11 2 (xt (bN 6) (xt (bN 7) q10))) q27 ((R3 far).map runD) [some (.fz (.lst (ns.map .int))),some (.fz (.int far)),some (.fz (.int (w:Int))),some (.fz m),some (.od ("Store",stF (w:Int) m [])),some (.fz (.lst ((R3 far).map runD))),none,none,none,none]=some (.nx,[some (.fz (.lst (ns.map .int))),some (.fz (.int far)),some (.fz (.int (w:Int))),some (.fz m),some (.od ("Store",stF (w:Int) m (R3 far))),some (.fz (.lst ((R3 far).map runD))),b6,b7,none,none]):=by
 have hw12:(w:Int)<=12:=by omega
 have a0:=mq far (show(7:Int)≠0 by decide);have a1:=ml far (show(0:Int)<7 by decide);have c0:=mq far (show(5:Int)≠0 by decide);have c1:=ml far (show(0:Int)<5 by decide);have g0:GoodB (w:Int) [0]:=⟨(fun x hx=>by cases p8.mp hx;omega),pe _ _,by decide⟩
 have gE:GoodB (w:Int) []:=⟨(fun x hx=>by cases hx),.nil,by decide⟩
 have r1:GoodR (w:Int) (1+far%7,[0]):=⟨by show 1<=1+far%7;omega,by show 1+far%7<=_;omega,g0⟩
 have r2:GoodR (w:Int) (2,[]):=⟨by show(1:Int)<=2;decide,by show(2:Int)<=1000000000000;decide,gE⟩
 have r3:GoodR (w:Int) (3+far%5,[0]):=⟨by show 1<=3+far%5;omega,by show 3+far%5<=_;omega,g0⟩
 have p1:=q52 (w:=(w:Int)) (m:=m) (rs:=[]) (many:=1+far%7) (b:=[0]) hw12 (by decide) (fun r hr=>by cases hr) r1 (q9s hm (by show 1+far%7+0<=400;omega));have p2:=q52 (w:=(w:Int)) (m:=m) (rs:=[(1+far%7,[0])]) (many:=2) (b:=[]) hw12 (by show 1<200;decide) (fun r hr=>by cases p8.mp hr;exact r1.lo) r2 (q9s hm (by show 1+far%7+(2+0)<=400;omega));have p3:=q52 (w:=(w:Int)) (m:=m) (rs:=[(1+far%7,[0]),(2,[])]) (many:=3+far%5) (b:=[0]) hw12 (by show 2<200;decide) (fun r hr=>by
  simp only [m5,mz,nv] at hr;rcases hr with rfl|rfl
  ·exact r1.lo
  ·exact r2.lo) r3 (q9s hm (by show 1+far%7+(2+(3+far%5+0))<=400;omega))
 have b1:q27 [some (.fz (.lst (ns.map .int))),some (.fz (.int far)),some (.fz (.int (w:Int))),some (.fz m),some (.od ("Store",stF (w:Int) m [])),some (.fz (.lst ((R3 far).map runD))),some (.fz (.int (1+far%7))),some (.fz (TI [0])),none,none]=some (.nx,[some (.fz (.lst (ns.map .int))),some (.fz (.int far)),some (.fz (.int (w:Int))),some (.fz m),some (.od ("Store",stF (w:Int) m [(1+far%7,[0])])),some (.fz (.lst ((R3 far).map runD))),some (.fz (.int (1+far%7))),some (.fz (TI [0])),none,none]):=wk (xw rfl (qb (x_v rfl) (qb (x_v rfl) qj)) rfl rfl p1);have b2:q27 [some (.fz (.lst (ns.map .int))),some (.fz (.int far)),some (.fz (.int (w:Int))),some (.fz m),some (.od ("Store",stF (w:Int) m [(1+far%7,[0])])),some (.fz (.lst ((R3 far).map runD))),some (.fz (.int 2)),some (.fz (TI [])),none,none]=some (.nx,[some (.fz (.lst (ns.map .int))),some (.fz (.int far)),some (.fz (.int (w:Int))),some (.fz m),some (.od ("Store",stF (w:Int) m [(1+far%7,[0]),(2,[])])),some (.fz (.lst ((R3 far).map runD))),some (.fz (.int 2)),some (.fz (TI [])),none,none]):=wk (xw rfl (qb (x_v rfl) (qb (x_v rfl) qj)) rfl rfl p2);have b3:q27 [some (.fz (.lst (ns.map .int))),some (.fz (.int far)),some (.fz (.int (w:Int))),some (.fz m),some (.od ("Store",stF (w:Int) m [(1+far%7,[0]),(2,[])])),some (.fz (.lst ((R3 far).map runD))),some (.fz (.int (3+far%5))),some (.fz (TI [0])),none,none]=some (.nx,[some (.fz (.lst (ns.map .int))),some (.fz (.int far)),some (.fz (.int (w:Int))),some (.fz m),some (.od ("Store",stF (w:Int) m (R3 far))),some (.fz (.lst ((R3 far).map runD))),some (.fz (.int (3+far%5))),some (.fz (TI [0])),none,none]):=wk (xw rfl (qb (x_v rfl) (qb (x_v rfl) qj)) rfl rfl p3);exact⟨_,_,(xi (b:=q11 2 (xt (bN 6) (xt (bN 7) q10))) rfl b1).trans ((xi (b:=q11 2 (xt (bN 6) (xt (bN 7) q10))) rfl b2).trans ((xi (b:=q11 2 (xt (bN 6) (xt (bN 7) q10))) rfl b3).trans rfl))⟩
theorem qkz:∀ns:List Int,ns.length<=63->qgv [.lst (ns.map .int)]=some (.bl true):=by
 intro ns hl;obtain⟨far,hf,hf2,hfar⟩:=qpc ns;obtain⟨x1,ef1,ef2⟩:=hfar none none none none none none none none;obtain⟨c,ec⟩:=q2j ns 0 (by decide);obtain⟨k,hk,em⟩:=qai (x:=c / 2) (n:=6) (by decide);obtain⟨w,ew⟩:∃w:Nat,w=k+1:=⟨_,rfl⟩
 have h1:1<=w:=by omega
 have h6:w<=6:=by omega
 have ew1:jk (.int 1) (.int (k:Int))=some (.int (w:Int)):=by
  show some (D.int (1+(k:Int)))=_;rw [show 1+(k:Int)=(w:Int) by omega]
 obtain⟨j,hj,ej⟩:=qai (x:=c / 12) (n:=2) (by decide);obtain⟨m,hm,eq⟩:∃m,okF m/\oIx (.lst [.non,.int (10 ^ 15)]) (.int (j:Int))=some m:=by
  have:j=0\/j=1:=by omega
  rcases this with rfl|rfl
  ·exact⟨.non,.inl rfl,rfl⟩
  ·exact⟨.int (10 ^ 15),.inr ⟨_,rfl,by decide,by decide⟩,rfl⟩
 have hw12:(w:Int)<=12:=by omega
 have ei:=qak (w:=(w:Int)) (m:=m) (by omega) (by omega) (qlk hm);obtain⟨b6,b7,ep⟩:=qmx ns far w m hf h1 h6 hm;have a0:=mq far (show(7:Int)≠0 by decide);have a1:=ml far (show(0:Int)<7 by decide);have c0:=mq far (show(5:Int)≠0 by decide);have c1:=ml far (show(0:Int)<5 by decide);have d0:=mq far (show(10 ^ 11:Int)≠0 by decide);have d1:=ml far (show(0:Int)<10 ^ 11 by decide);have n0:=mq far (show(9:Int)≠0 by decide);have n1:=ml far (show(0:Int)<9 by decide);have g0:GoodB (w:Int) [0]:=⟨(fun x hx=>by cases p8.mp hx;omega),pe _ _,by decide⟩
 have gE:GoodB (w:Int) []:=⟨(fun x hx=>by cases hx),.nil,by decide⟩
 have t0:=th0 far;have hthr:thr far=(1+far%7)+(3+far%5):=rfl;have er0:=q73 (w:=(w:Int)) (m:=m) (rs:=R3 far) (many:=thr far+1+far%10 ^ 11) (b:=[0]) hw12 (by show 3<200;decide) ⟨by show 1<=thr far+1+far%10 ^ 11;omega,by show thr far+1+far%10 ^ 11<=_;omega,g0⟩ (by rw [t0];omega) (by rw [t0];exact qj3 (by omega) (by omega));rw [t0] at er0;have er2:=q73 (w:=(w:Int)) (m:=m) (rs:=R3 far) (many:=3) (b:=[]) hw12 (by show 3<200;decide) ⟨by show(1:Int)<=3;decide,by show(3:Int)<=1000000000000;decide,gE⟩ (by rw [the];decide) (by rw [the];decide);rw [the] at er2;have et:=qfv (w:=(w:Int)) (m:=m) (rs:=R3 far) (many:=thr far) (b:=[0]) hw12 (by show 3<=900;decide) ⟨by show 1<=thr far;omega,by show thr far<=_;omega,g0⟩ (by rw [t0];exact g1d _);rw [qpb far hf] at et;have e7:oMod (.int far) (.int 7)=some (.int (far%7)):=jy _ _ (by decide);have e5:oMod (.int far) (.int 5)=some (.int (far%5)):=jy _ _ (by decide);have e9:oMod (.int far) (.int 9)=some (.int (far%9)):=jy _ _ (by decide);have e11:oMod (.int far) (.int (10 ^ 11))=some (.int (far%10 ^ 11)):=jy _ _ (by decide);have eb:=qeu w far m (R3 far) h1 h6 hf
 -- wares > 1
 have hw1:q15 (q5j (bmP (j9 oGt (eV 2) (eC (.int 1)))) (q0c (mbT (yr (qq 3 [] va) (w9 (ku "Store" 4 3 zb (qa (eC (.bl true)) (qa (eOp jk (eC (.int 1)) (eOp oMod (eV 1) (eC (.int 9)))) (qa (za (qa (eC (.int 1)) qh)) qh)))) (amP (qa (eC (.str "there")) (qa (eC (.int 0)) qh)))))))) (zj (eC (.bl false))) zo [some (.fz (.lst (ns.map .int))),some (.fz (.int far)),some (.fz (.int (w:Int))),some (.fz m),some (.od ("Store",stF (w:Int) m (R3 far))),some (.fz (.lst ((R3 far).map runD))),b6,b7,some (.fz (jl (w:Int) (R3 far))),some (.fz (.int (thr far)))]=some (.nx,[some (.fz (.lst (ns.map .int))),some (.fz (.int far)),some (.fz (.int (w:Int))),some (.fz m),some (.od ("Store",stF (w:Int) m (R3 far))),some (.fz (.lst ((R3 far).map runD))),b6,b7,some (.fz (jl (w:Int) (R3 far))),some (.fz (.int (thr far)))]):=by
  by_cases hg:1<(w:Int)
  ·have g1:GoodB (w:Int) [1]:=⟨(fun x hx=>by cases p8.mp hx;omega),pe _ _,by decide⟩
   have er1:=q73 (w:=(w:Int)) (m:=m) (rs:=R3 far) (many:=1+far%9) (b:=[1]) hw12 (by show 3<200;decide) ⟨by show 1<=1+far%9;omega,by show 1+far%9<=_;omega,g1⟩ (by rw [th1];omega) (by rw [th1];decide);rw [th1] at er1;exact yl (b:=false) (qiz (qlf (j4 (x_v rfl) x_c (q38 _ _))) (m7 hg) (q0m (q33 (q39 (q0a (q09 rfl (qb x_c (qb (qv x_c (qv (x_v rfl) x_c e9) rfl) (qb (zi (qb x_c qj) (by decide)) qj))) rfl er1) (q5z (qb x_c (qb x_c qj)))) rfl (qap 0)) rfl))) rfl z8
  ·exact yl (b:=false) (qj0 (qlf (j4 (x_v rfl) x_c (q38 _ _))) (gz hg)) rfl z8
 -- a full store
 obtain⟨j3,hj3,ej3⟩:=qai (x:=far) (n:=3) (by decide);obtain⟨m',hm',eq'⟩:∃m,okF m/\oIx (.lst [.non,.int 400,.int (10 ^ 15)]) (.int (j3:Int))=some m:=by
  have:j3=0\/j3=1\/j3=2:=by omega
  rcases this with rfl|rfl|rfl
  ·exact⟨.non,.inl rfl,rfl⟩
  ·exact⟨.int 400,.inr ⟨_,rfl,by decide,by decide⟩,rfl⟩
  ·exact⟨.int (10 ^ 15),.inr ⟨_,rfl,by decide,by decide⟩,rfl⟩
 have hfull:sIf (q1y (j9 oEq (eOp oMod (eOp oDiv (qm (qq 2 [] zk) (qa (eV 0) (qa (eC (.int 0)) qh))) (eC (.int 24))) (eC (.int 4))) (eC (.int 0))) (xl (bT (qm (qq 3 [] q0k) (qa (eV 2) (qa (eV 1) (qa (eOp oIx (eL (jm (qa (eC .non) (qa (eC (.int 400)) (qa (eOp oPow (eC (.int 10)) (eC (.int 15))) qh))))) (eOp oMod (eV 1) (eC (.int 3)))) qh))))))) (zj (eC (.bl false))) zo [some (.fz (.lst (ns.map .int))),some (.fz (.int far)),some (.fz (.int (w:Int))),some (.fz m),some (.od ("Store",stF (w:Int) m (R3 far))),some (.fz (.lst ((R3 far).map runD))),b6,b7,some (.fz (jl (w:Int) (R3 far))),some (.fz (.int (thr far)))]=some (.nx,[some (.fz (.lst (ns.map .int))),some (.fz (.int far)),some (.fz (.int (w:Int))),some (.fz m),some (.od ("Store",stF (w:Int) m (R3 far))),some (.fz (.lst ((R3 far).map runD))),b6,b7,some (.fz (jl (w:Int) (R3 far))),some (.fz (.int (thr far)))]):=by
  have tc:j9 oEq (eOp oMod (eOp oDiv (qm (qq 2 [] zk) (qa (eV 0) (qa (eC (.int 0)) qh))) (eC (.int 24))) (eC (.int 4))) (eC (.int 0)) [some (.fz (.lst (ns.map .int))),some (.fz (.int far)),some (.fz (.int (w:Int))),some (.fz m),some (.od ("Store",stF (w:Int) m (R3 far))),some (.fz (.lst ((R3 far).map runD))),b6,b7,some (.fz (jl (w:Int) (R3 far))),some (.fz (.int (thr far)))]=some (decide (c / 24%4=0)):=j4 (qv (qv (zd (qb (x_v rfl) (qb x_c qj)) rfl ec) x_c (q3x _ _ (by decide) (by decide))) x_c (jy _ _ (by decide))) x_c (q28 _ _)
  by_cases hz:c / 24%4=0
  ·exact jb (c:=false) (q5y tc (m7 hz) (yb (q19 (zd (qb (x_v rfl) (qb (x_v rfl) (qb (qv (x_l (jq (qb x_c (qb x_c (qb (qv x_c x_c q8v) qj))) (by show 3<=1000000;decide))) (qv (x_v rfl) x_c ej3) eq') qj))) rfl (qmw w far m' h1 h6 hm' hf)) rfl))) rfl z8
  ·exact jb (c:=false) (q8n tc (gz hz)) rfl z8
 refine vf (ρ':=[some (.fz (.lst (ns.map .int))),some (.fz (.int far)),some (.fz (.int (w:Int))),some (.fz m),some (.od ("Store",stF (w:Int) m [(2,[])])),some (.fz (.lst ((R3 far).map runD))),b6,b7,some (.fz (jl (w:Int) (R3 far))),some (.fz (.int (thr far)))]) ?_;refine qp ef1 (qp ef2 ?_);refine qp (jw (qv x_c (qv (qv (zd (qb (x_v rfl) (qb x_c qj)) rfl ec) x_c (q3x _ _ (by decide) (by decide))) x_c em) ew1)) ?_;refine qp (jw (qv (x_l (jq (qb x_c (qb (qv x_c x_c q8v) qj)) (by show 2<=1000000;decide))) (qv (qv (zd (qb (x_v rfl) (qb x_c qj)) rfl ec) x_c (q3x _ _ (by decide) (by decide))) x_c ej) eq)) ?_;refine qp (ρ1:=[some (.fz (.lst (ns.map .int))),some (.fz (.int far)),some (.fz (.int (w:Int))),some (.fz m),some (.od ("Store",stF (w:Int) m [])),none,none,none,none,none]) (qgx (qb (x_v rfl) (qb (x_v rfl) qj)) rfl rfl ei) ?_;refine qp (ρ1:=[some (.fz (.lst (ns.map .int))),some (.fz (.int far)),some (.fz (.int (w:Int))),some (.fz m),some (.od ("Store",stF (w:Int) m [])),some (.fz (.lst ((R3 far).map runD))),none,none,none,none]) (jw (x_l (jq (qb (zi (qb (qv x_c (qv (x_v rfl) x_c e7) rfl) (qb (zi (qb x_c qj) (by show 1<=1000000;decide)) qj)) (by show 2<=1000000;decide)) (qb (zi (qb x_c (qb (zi qj (by decide)) qj)) (by show 2<=1000000;decide)) (qb (zi (qb (qv x_c (qv (x_v rfl) x_c e5) rfl) (qb (zi (qb x_c qj) (by show 1<=1000000;decide)) qj)) (by show 2<=1000000;decide)) qj))) (by show 3<=1000000;decide)))) ?_;refine qp (ρ1:=[some (.fz (.lst (ns.map .int))),some (.fz (.int far)),some (.fz (.int (w:Int))),some (.fz m),some (.od ("Store",stF (w:Int) m (R3 far))),some (.fz (.lst ((R3 far).map runD))),b6,b7,none,none]) (q2h (kj (x_v rfl) rfl) ep) ?_;refine qp (ρ1:=[some (.fz (.lst (ns.map .int))),some (.fz (.int far)),some (.fz (.int (w:Int))),some (.fz m),some (.od ("Store",stF (w:Int) m (R3 far))),some (.fz (.lst ((R3 far).map runD))),b6,b7,some (.fz (jl (w:Int) (R3 far))),none]) (jw (zi (qb (x_v rfl) (qb (x_call (qb (x_v rfl) qj) rfl) qj)) (by show 2<=1000000;decide))) ?_;refine qp (jb (c:=false) (q1g (c:=false) (yb (q19 (zd (qb (x_v rfl) qj) rfl (qaq far hf)) rfl)) rfl (yb (q19 (zd (qb (x_v rfl) qj) rfl (qc3 far hf)) rfl))) rfl z8) ?_;refine qp (ρ1:=[some (.fz (.lst (ns.map .int))),some (.fz (.int far)),some (.fz (.int (w:Int))),some (.fz m),some (.od ("Store",stF (w:Int) m (R3 far))),some (.fz (.lst ((R3 far).map runD))),b6,b7,some (.fz (jl (w:Int) (R3 far))),none]) (yl (b:=false) (q0b (b:=false) (q0m (q33 (q09 rfl (qb (x_v rfl) (qb (x_v rfl) qj)) rfl eb) rfl)) rfl (wj (xw rfl qj rfl rfl (wm (w:Int) m (R3 far))) (q29 (x_v rfl)) (q3b (w:Int) (R3 far)))) rfl z8) ?_;refine qp (ρ1:=[some (.fz (.lst (ns.map .int))),some (.fz (.int far)),some (.fz (.int (w:Int))),some (.fz m),some (.od ("Store",stF (w:Int) m (R3 far))),some (.fz (.lst ((R3 far).map runD))),b6,b7,some (.fz (jl (w:Int) (R3 far))),some (.fz (.int (thr far)))]) (jw (qv (qv (qv (x_v rfl) x_c rfl) x_c rfl) (qv (qv (x_v rfl) x_c rfl) x_c rfl) rfl)) ?_;refine qp (ρ1:=[some (.fz (.lst (ns.map .int))),some (.fz (.int far)),some (.fz (.int (w:Int))),some (.fz m),some (.od ("Store",stF (w:Int) m (R3 far))),some (.fz (.lst ((R3 far).map runD))),b6,b7,some (.fz (jl (w:Int) (R3 far))),some (.fz (.int (thr far)))]) (yl (b:=false) (q0m (q33 (q39 (q0a (q09 rfl (qb x_c (qb (qv (qv (x_v rfl) x_c rfl) (qv (x_v rfl) (qv x_c x_c qrg) e11) rfl) (qb (zi (qb x_c qj) (by decide)) qj))) rfl er0) (q5z (qb x_c (qb (x_v rfl) qj)))) rfl (qap (thr far))) rfl)) rfl z8) ?_;refine qp hw1 ?_;refine qp (ρ1:=[some (.fz (.lst (ns.map .int))),some (.fz (.int far)),some (.fz (.int (w:Int))),some (.fz m),some (.od ("Store",stF (w:Int) m (R3 far))),some (.fz (.lst ((R3 far).map runD))),b6,b7,some (.fz (jl (w:Int) (R3 far))),some (.fz (.int (thr far)))]) (yl (b:=false) (q0b (b:=false) (q0m (q33 (q39 (q0a (q09 rfl (qb x_c (qb x_c (qb (zi qj (by decide)) qj))) rfl er2) (q5z (qb x_c (qb x_c qj)))) rfl (qap 2)) rfl)) rfl (wj (xw rfl qj rfl rfl (wm (w:Int) m (R3 far))) (q29 (x_v rfl)) (q3b (w:Int) (R3 far)))) rfl z8) ?_;refine qp hfull ?_;refine qp (ρ1:=[some (.fz (.lst (ns.map .int))),some (.fz (.int far)),some (.fz (.int (w:Int))),some (.fz m),some (.od ("Store",stF (w:Int) m [(2,[])])),some (.fz (.lst ((R3 far).map runD))),b6,b7,some (.fz (jl (w:Int) (R3 far))),some (.fz (.int (thr far)))]) (wk (xw rfl (qb (x_v rfl) (qb (zi (qb x_c qj) (by decide)) qj)) rfl rfl et)) ?_;exact qit (qlj (xw rfl qj rfl rfl (wm (w:Int) m [(2,[])])) (q29 (zi (qb (x_v rfl) (qb (zi (qb (zi (qb x_c (qb (zi qj (by decide)) qj)) (by show 2<=1000000;decide)) qj) (by show 1<=1000000;decide)) qj)) (by show 2<=1000000;decide))) (qmt (w:Int) [(2,[])]))
end My
namespace My
open PySem PySem.Spec PyProof.Rows L2 DL
open PySem.W (nsIn fnOf keepIn codeIn mg_of subIn mg_none_of findIn plainGet)
theorem ln1{s:Shared}{fd:FuncData}{ps:List Str}(h:∀a0,BindsTo s fd ⟨[a0],[]⟩ (ps.zip ([a0]++[]))): ∀us:List Value,(us++[]).length=1->BindsTo s fd ⟨us,[]⟩ (ps.zip (us++[]))
 | [a0],_=>h a0
theorem ln2{s:Shared}{fd:FuncData}{ps:List Str}(h:∀a0 a1,BindsTo s fd ⟨[a0,a1],[]⟩ (ps.zip ([a0,a1]++[]))): ∀us:List Value,(us++[]).length=2->BindsTo s fd ⟨us,[]⟩ (ps.zip (us++[]))
 | [a0,a1],_=>h a0 a1
theorem ln3{s:Shared}{fd:FuncData}{ps:List Str}(h:∀a0 a1 a2,BindsTo s fd ⟨[a0,a1,a2],[]⟩ (ps.zip ([a0,a1,a2]++[]))): ∀us:List Value,(us++[]).length=3->BindsTo s fd ⟨us,[]⟩ (ps.zip (us++[]))
 | [a0,a1,a2],_=>h a0 a1 a2
theorem ln4{s:Shared}{fd:FuncData}{ps:List Str}(h:∀a0 a1 a2 a3,BindsTo s fd ⟨[a0,a1,a2,a3],[]⟩ (ps.zip ([a0,a1,a2,a3]++[]))): ∀us:List Value,(us++[]).length=4->BindsTo s fd ⟨us,[]⟩ (ps.zip (us++[]))
 | [a0,a1,a2,a3],_=>h a0 a1 a2 a3
theorem all_mk[Lam]{l:PySem.W.OpenLaw}{w:World}{K:Frag}{h:Heap}{mg:Str->Option Value}{fa:Addr}(X:K.In h)(G:h.Ns mainGlobals mg)(hfa:mg "law" = some (.ref fa))(hm:∀ns:List Int,ns.length<=63->qgv [.lst (ns.map .int)]=some (.bl true))
  {C_Store:Addr}
  (x_Store:nsIn K mainGlobals "Store" = some (some (.ref C_Store)))
  (mk_Store:PySem.W.makesIn K C_Store=true)
  (kp_Store:keepIn K (.ref C_Store)=true)
  (pg_Store:plainGet K C_Store Str.empty=true)
  (hd_Store:PySem.W.hasDictIn K C_Store=true)
  (po_Store:PySem.W.plainOver K C_Store=true)
  (sa_Store:findIn K (.ref C_Store) "__setattr__" = some (some (.builtin "object.__setattr__")))
  (nawares_Store:findIn K (.ref C_Store) "wares" = some none)
  (nawindow_Store:findIn K (.ref C_Store) "window" = some none)
  (naruns_Store:findIn K (.ref C_Store) "runs" = some none)
  {fa_9:Addr} {fd_is_number:FuncData} (x_is_number:nsIn K mainGlobals "is_number" = some (some (.ref fa_9))) (F_is_number:Fun2 K "is_number" "is_number" wb .none fa_9 fd_is_number)
  {fa_12:Addr} {fd_is_within:FuncData} (x_is_within:nsIn K mainGlobals "is_within" = some (some (.ref fa_12))) (F_is_within:Fun2 K "is_within" "is_within" wc .none fa_12 fd_is_within)
  {fa_1:Addr} {od_1 an_1:Option Addr} {sl_1:Array (Option Value)} {oc_1 kV_1 dc_1 pm_1 cd_1 ct_1:Value} {T_Store___init__:Addr}
  (x_Store___init__:findIn K (.ref C_Store) "__init__" = some (some (.ref fa_1))) (i_1:PySem.W.isFn K (.ref fa_1)=true)
  (l_1:K.lookup fa_1=some ⟨oc_1,od_1,.func (fnOf "__init__" "Store.__init__" (v9 ze) (qr ze) (qg ze) (.ref T_Store___init__) kV_1 dc_1 pm_1 an_1 cd_1 ct_1),sl_1⟩)
  (q_1:codeIn K cd_1 "Store.__init__" = true) (k_1:keepIn K (.ref fa_1)=true)
  {ocd_Store___init__:Value} {odd_Store___init__:Option Addr} {nd_Store___init__:Nat} {sld_Store___init__:Array (Option Value)} (d_Store___init__:K.lookup T_Store___init__=some ⟨ocd_Store___init__,odd_Store___init__,.seq #[.none] nd_Store___init__,sld_Store___init__⟩)
  {fa_11:Addr} {od_11 an_11:Option Addr} {sl_11:Array (Option Value)} {oc_11 kV_11 dc_11 pm_11 cd_11 ct_11:Value} {T_is_set:Addr}
  (x_is_set:nsIn K mainGlobals "is_set" = some (some (.ref fa_11)))
  (l_11:K.lookup fa_11=some ⟨oc_11,od_11,.func (fnOf "is_set" "is_set" (v9 ky) (qr ky) (qg ky) (.ref T_is_set) kV_11 dc_11 pm_11 an_11 cd_11 ct_11),sl_11⟩)
  (q_11:codeIn K cd_11 "is_set" = true) (k_11:keepIn K (.ref fa_11)=true)
  {t_is_set_0:Tok} {ocd_is_set:Value} {odd_is_set:Option Addr} {nd_is_set:Nat} {sld_is_set:Array (Option Value)} (d_is_set:K.lookup T_is_set=some ⟨ocd_is_set,odd_is_set,.seq #[.int 12 t_is_set_0] nd_is_set,sld_is_set⟩)
  {fa_10:Addr} {fd_is_run:FuncData} (x_is_run:nsIn K mainGlobals "is_run" = some (some (.ref fa_10))) (F_is_run:Fun2 K "is_run" "is_run" q22 .none fa_10 fd_is_run)
  {fa_2:Addr} {od_2 an_2:Option Addr} {sl_2:Array (Option Value)} {oc_2 kV_2 dc_2 pm_2 cd_2 ct_2:Value}
  (x_Store_check_run:findIn K (.ref C_Store) "check_run" = some (some (.ref fa_2))) (i_2:PySem.W.isFn K (.ref fa_2)=true)
  (l_2:K.lookup fa_2=some ⟨oc_2,od_2,.func (fnOf "check_run" "Store.check_run" (v9 z9) (qr z9) (qg z9) .none kV_2 dc_2 pm_2 an_2 cd_2 ct_2),sl_2⟩)
  (q_2:codeIn K cd_2 "Store.check_run" = true) (k_2:keepIn K (.ref fa_2)=true)
  {fa_8:Addr} {fd_baskets_of:FuncData} (x_baskets_of:nsIn K mainGlobals "baskets_of" = some (some (.ref fa_8))) (F_baskets_of:Fun2 K "baskets_of" "baskets_of" ke .none fa_8 fd_baskets_of)
  {fa_26:Addr} {fd_runs_like:FuncData} (x_runs_like:nsIn K mainGlobals "runs_like" = some (some (.ref fa_26))) (F_runs_like:Fun2 K "runs_like" "runs_like" wd .none fa_26 fd_runs_like)
  {fa_25:Addr} {od_25 an_25:Option Addr} {sl_25:Array (Option Value)} {oc_25 kV_25 dc_25 pm_25 cd_25 ct_25:Value} {T_parted:Addr}
  (x_parted:nsIn K mainGlobals "parted" = some (some (.ref fa_25)))
  (l_25:K.lookup fa_25=some ⟨oc_25,od_25,.func (fnOf "parted" "parted" (v9 kz) (qr kz) (qg kz) (.ref T_parted) kV_25 dc_25 pm_25 an_25 cd_25 ct_25),sl_25⟩)
  (q_25:codeIn K cd_25 "parted" = true) (k_25:keepIn K (.ref fa_25)=true)
  {ocd_parted:Value} {odd_parted:Option Addr} {nd_parted:Nat} {sld_parted:Array (Option Value)} (d_parted:K.lookup T_parted=some ⟨ocd_parted,odd_parted,.seq #[.none] nd_parted,sld_parted⟩)
  {fa_5:Addr} {od_5 an_5:Option Addr} {sl_5:Array (Option Value)} {oc_5 kV_5 dc_5 pm_5 cd_5 ct_5:Value}
  (x_Store_take:findIn K (.ref C_Store) "take" = some (some (.ref fa_5))) (i_5:PySem.W.isFn K (.ref fa_5)=true)
  (l_5:K.lookup fa_5=some ⟨oc_5,od_5,.func (fnOf "take" "Store.take" (v9 j8) (qr j8) (qg j8) .none kV_5 dc_5 pm_5 an_5 cd_5 ct_5),sl_5⟩)
  (q_5:codeIn K cd_5 "Store.take" = true) (k_5:keepIn K (.ref fa_5)=true)
  {fa_6:Addr} {od_6 an_6:Option Addr} {sl_6:Array (Option Value)} {oc_6 kV_6 dc_6 pm_6 cd_6 ct_6:Value}
  (x_Store_too_many:findIn K (.ref C_Store) "too_many" = some (some (.ref fa_6))) (i_6:PySem.W.isFn K (.ref fa_6)=true)
  (l_6:K.lookup fa_6=some ⟨oc_6,od_6,.func (fnOf "too_many" "Store.too_many" (v9 jd) (qr jd) (qg jd) .none kV_6 dc_6 pm_6 an_6 cd_6 ct_6),sl_6⟩)
  (q_6:codeIn K cd_6 "Store.too_many" = true) (k_6:keepIn K (.ref fa_6)=true)
  {fa_4:Addr} {od_4 an_4:Option Addr} {sl_4:Array (Option Value)} {oc_4 kV_4 dc_4 pm_4 cd_4 ct_4:Value}
  (x_Store_put:findIn K (.ref C_Store) "put" = some (some (.ref fa_4))) (i_4:PySem.W.isFn K (.ref fa_4)=true)
  (l_4:K.lookup fa_4=some ⟨oc_4,od_4,.func (fnOf "put" "Store.put" (v9 jh) (qr jh) (qg jh) .none kV_4 dc_4 pm_4 an_4 cd_4 ct_4),sl_4⟩)
  (q_4:codeIn K cd_4 "Store.put" = true) (k_4:keepIn K (.ref fa_4)=true)
  {fa_3:Addr} {od_3 an_3:Option Addr} {sl_3:Array (Option Value)} {oc_3 kV_3 dc_3 pm_3 cd_3 ct_3:Value}
  (x_Store_pile:findIn K (.ref C_Store) "pile" = some (some (.ref fa_3))) (i_3:PySem.W.isFn K (.ref fa_3)=true)
  (l_3:K.lookup fa_3=some ⟨oc_3,od_3,.func (fnOf "pile" "Store.pile" (v9 xv) (qr xv) (qg xv) .none kV_3 dc_3 pm_3 an_3 cd_3 ct_3),sl_3⟩)
  (q_3:codeIn K cd_3 "Store.pile" = true) (k_3:keepIn K (.ref fa_3)=true)
  {fa_20:Addr} {fd_law_is:FuncData} (x_law_is:nsIn K mainGlobals "_law_is" = some (some (.ref fa_20))) (F_law_is:Fun2 K "_law_is" "_law_is" q23 .none fa_20 fd_law_is)
  {fa_21:Addr} {fd_law_mixed:FuncData} (x_law_mixed:nsIn K mainGlobals "_law_mixed" = some (some (.ref fa_21))) (F_law_mixed:Fun2 K "_law_mixed" "_law_mixed" wg .none fa_21 fd_law_mixed)
  {fa_16:Addr} {fd_law_cell:FuncData} (x_law_cell:nsIn K mainGlobals "_law_cell" = some (some (.ref fa_16))) (F_law_cell:Fun2 K "_law_cell" "_law_cell" q0e .none fa_16 fd_law_cell)
  {fa_19:Addr} {fd_law_good_stores:FuncData} (x_law_good_stores:nsIn K mainGlobals "_law_good_stores" = some (some (.ref fa_19))) (F_law_good_stores:Fun2 K "_law_good_stores" "_law_good_stores" v3 .none fa_19 fd_law_good_stores)
  {fa_17:Addr} {fd_law_classes:FuncData} (x_law_classes:nsIn K mainGlobals "_law_classes" = some (some (.ref fa_17))) (F_law_classes:Fun2 K "_law_classes" "_law_classes" yj .none fa_17 fd_law_classes)
  {fa_23:Addr} {fd_law_no_store:FuncData} (x_law_no_store:nsIn K mainGlobals "_law_no_store" = some (some (.ref fa_23))) (F_law_no_store:Fun2 K "_law_no_store" "_law_no_store" vw .none fa_23 fd_law_no_store)
  {fa_15:Addr} {fd_law_bad_stores:FuncData} (x_law_bad_stores:nsIn K mainGlobals "_law_bad_stores" = some (some (.ref fa_15))) (F_law_bad_stores:Fun2 K "_law_bad_stores" "_law_bad_stores" vc .none fa_15 fd_law_bad_stores)
  {fa_14:Addr} {fd_law_bad_sets:FuncData} (x_law_bad_sets:nsIn K mainGlobals "_law_bad_sets" = some (some (.ref fa_14))) (F_law_bad_sets:Fun2 K "_law_bad_sets" "_law_bad_sets" vx .none fa_14 fd_law_bad_sets)
  {fa_24:Addr} {fd_law_refused:FuncData} (x_law_refused:nsIn K mainGlobals "_law_refused" = some (some (.ref fa_24))) (F_law_refused:Fun2 K "_law_refused" "_law_refused" yk .none fa_24 fd_law_refused)
  {fa_22:Addr} {fd_law_no_run:FuncData} (x_law_no_run:nsIn K mainGlobals "_law_no_run" = some (some (.ref fa_22))) (F_law_no_run:Fun2 K "_law_no_run" "_law_no_run" kh .none fa_22 fd_law_no_run)
  {fa_13:Addr} {fd_law_bad_runs:FuncData} (x_law_bad_runs:nsIn K mainGlobals "_law_bad_runs" = some (some (.ref fa_13))) (F_law_bad_runs:Fun2 K "_law_bad_runs" "_law_bad_runs" vy .none fa_13 fd_law_bad_runs)
  {fa_18:Addr} {fd_law_full:FuncData} (x_law_full:nsIn K mainGlobals "_law_full" = some (some (.ref fa_18))) (F_law_full:Fun2 K "_law_full" "_law_full" q0j .none fa_18 fd_law_full)
  {fa_law:Addr} {fd_law:FuncData} (x_law:nsIn K mainGlobals "law" = some (some (.ref fa_law))) (F_law:Fun2 K "law" "law" q7l .none fa_law fd_law)
  {C_NoStore:Addr} (ns_NoStore:nsIn K mainGlobals "NoStore" = some (some (.ref C_NoStore)))
  {C_NoRun:Addr} (ns_NoRun:nsIn K mainGlobals "NoRun" = some (some (.ref C_NoRun)))
  {C_NotThere:Addr} (ns_NotThere:nsIn K mainGlobals "NotThere" = some (some (.ref C_NotThere)))
  {C_TooGreat:Addr} (ns_TooGreat:nsIn K mainGlobals "TooGreat" = some (some (.ref C_TooGreat)))
  {C_OftenError:Addr} (ns_OftenError:nsIn K mainGlobals "OftenError" = some (some (.ref C_OftenError)))
  {C_NoShare:Addr} (ns_NoShare:nsIn K mainGlobals "NoShare" = some (some (.ref C_NoShare)))
  {C_NoText:Addr} (ns_NoText:nsIn K mainGlobals "NoText" = some (some (.ref C_NoText)))
  {C_NoTree:Addr} (ns_NoTree:nsIn K mainGlobals "NoTree" = some (some (.ref C_NoTree)))
  (e_NoStore:PySem.W.excIn K C_NoStore vB "ValueError.__new__" = true)
  (ga_NoStore:findIn K (.ref C_NoStore) "__getattribute__" = some (some (.builtin "BaseException.__getattribute__")))
  (gk_NoStore:findIn K (.ref C_NoStore) "__getattr__" = some none)
  (cc_NoStore:findIn K (.ref C_NoStore) "__class__" = some (some (.builtin "object.__class__")))
  (cs_NoStore:PySem.W.specialIn K (.builtin "object.__class__") "__get__" = some (some (.builtin "getset_descriptor.__get__")))
  (ct_NoStore:PySem.W.takesIn K (.builtin "object.__class__")=some true)
  (cm_NoStore:PySem.W.mroIn K C_NoStore (.type "object")=some true)
  (cb_NoStore:PySem.W.mroIn K C_NoStore (.type "BaseException")=some true)
  (ciint_NoStore:PySem.W.kitOne K (.ref C_NoStore) (.type "int")=some false)
  (cibool_NoStore:PySem.W.kitOne K (.ref C_NoStore) (.type "bool")=some false)
  (cituple_NoStore:PySem.W.kitOne K (.ref C_NoStore) (.type "tuple")=some false)
  (cilist_NoStore:PySem.W.kitOne K (.ref C_NoStore) (.type "list")=some false)
  (cistr_NoStore:PySem.W.kitOne K (.ref C_NoStore) (.type "str")=some false)
  (cidict_NoStore:PySem.W.kitOne K (.ref C_NoStore) (.type "dict")=some false)
  (e_NoRun:PySem.W.excIn K C_NoRun vB "ValueError.__new__" = true)
  (ga_NoRun:findIn K (.ref C_NoRun) "__getattribute__" = some (some (.builtin "BaseException.__getattribute__")))
  (gk_NoRun:findIn K (.ref C_NoRun) "__getattr__" = some none)
  (cc_NoRun:findIn K (.ref C_NoRun) "__class__" = some (some (.builtin "object.__class__")))
  (cs_NoRun:PySem.W.specialIn K (.builtin "object.__class__") "__get__" = some (some (.builtin "getset_descriptor.__get__")))
  (ct_NoRun:PySem.W.takesIn K (.builtin "object.__class__")=some true)
  (cm_NoRun:PySem.W.mroIn K C_NoRun (.type "object")=some true)
  (cb_NoRun:PySem.W.mroIn K C_NoRun (.type "BaseException")=some true)
  (ciint_NoRun:PySem.W.kitOne K (.ref C_NoRun) (.type "int")=some false)
  (cibool_NoRun:PySem.W.kitOne K (.ref C_NoRun) (.type "bool")=some false)
  (cituple_NoRun:PySem.W.kitOne K (.ref C_NoRun) (.type "tuple")=some false)
  (cilist_NoRun:PySem.W.kitOne K (.ref C_NoRun) (.type "list")=some false)
  (cistr_NoRun:PySem.W.kitOne K (.ref C_NoRun) (.type "str")=some false)
  (cidict_NoRun:PySem.W.kitOne K (.ref C_NoRun) (.type "dict")=some false)
  {fa_0:Addr} {od_0 an_0:Option Addr} {sl_0:Array (Option Value)} {oc_0 kV_0 dc_0 pm_0 cd_0 ct_0:Value}
  (x_NotThere___init__:findIn K (.ref C_NotThere) "__init__" = some (some (.ref fa_0)))
  (l_0:K.lookup fa_0=some ⟨oc_0,od_0,.func (fnOf "__init__" "NotThere.__init__" (v9 zx) (qr zx) (qg zx) .none kV_0 dc_0 pm_0 an_0 cd_0 ct_0),sl_0⟩)
  (q_0:codeIn K cd_0 "NotThere.__init__" = true) (k_0:keepIn K (.ref fa_0)=true)
  (ei_NotThere:y6 K C_NotThere fa_0=true)
  (tI_NotThere:PySem.W.typeIn K (.ref fa_0)=some (.type "function"))
  (kp_NotThere:keepIn K (.ref C_NotThere)=true)
  (ga_NotThere:findIn K (.ref C_NotThere) "__getattribute__" = some (some (.builtin "BaseException.__getattribute__")))
  (gk_NotThere:findIn K (.ref C_NotThere) "__getattr__" = some none)
  (cc_NotThere:findIn K (.ref C_NotThere) "__class__" = some (some (.builtin "object.__class__")))
  (cs_NotThere:PySem.W.specialIn K (.builtin "object.__class__") "__get__" = some (some (.builtin "getset_descriptor.__get__")))
  (ct_NotThere:PySem.W.takesIn K (.builtin "object.__class__")=some true)
  (cm_NotThere:PySem.W.mroIn K C_NotThere (.type "object")=some true)
  (cb_NotThere:PySem.W.mroIn K C_NotThere (.type "BaseException")=some true)
  (ciint_NotThere:PySem.W.kitOne K (.ref C_NotThere) (.type "int")=some false)
  (cibool_NotThere:PySem.W.kitOne K (.ref C_NotThere) (.type "bool")=some false)
  (cituple_NotThere:PySem.W.kitOne K (.ref C_NotThere) (.type "tuple")=some false)
  (cilist_NotThere:PySem.W.kitOne K (.ref C_NotThere) (.type "list")=some false)
  (cistr_NotThere:PySem.W.kitOne K (.ref C_NotThere) (.type "str")=some false)
  (cidict_NotThere:PySem.W.kitOne K (.ref C_NotThere) (.type "dict")=some false)
  {fa_7:Addr} {od_7 an_7:Option Addr} {sl_7:Array (Option Value)} {oc_7 kV_7 dc_7 pm_7 cd_7 ct_7:Value}
  (x_TooGreat___init__:findIn K (.ref C_TooGreat) "__init__" = some (some (.ref fa_7)))
  (l_7:K.lookup fa_7=some ⟨oc_7,od_7,.func (fnOf "__init__" "TooGreat.__init__" (v9 zy) (qr zy) (qg zy) .none kV_7 dc_7 pm_7 an_7 cd_7 ct_7),sl_7⟩)
  (q_7:codeIn K cd_7 "TooGreat.__init__" = true) (k_7:keepIn K (.ref fa_7)=true)
  (ei_TooGreat:y6 K C_TooGreat fa_7=true)
  (tI_TooGreat:PySem.W.typeIn K (.ref fa_7)=some (.type "function"))
  (kp_TooGreat:keepIn K (.ref C_TooGreat)=true)
  (ga_TooGreat:findIn K (.ref C_TooGreat) "__getattribute__" = some (some (.builtin "BaseException.__getattribute__")))
  (gk_TooGreat:findIn K (.ref C_TooGreat) "__getattr__" = some none)
  (cc_TooGreat:findIn K (.ref C_TooGreat) "__class__" = some (some (.builtin "object.__class__")))
  (cs_TooGreat:PySem.W.specialIn K (.builtin "object.__class__") "__get__" = some (some (.builtin "getset_descriptor.__get__")))
  (ct_TooGreat:PySem.W.takesIn K (.builtin "object.__class__")=some true)
  (cm_TooGreat:PySem.W.mroIn K C_TooGreat (.type "object")=some true)
  (cb_TooGreat:PySem.W.mroIn K C_TooGreat (.type "BaseException")=some true)
  (ciint_TooGreat:PySem.W.kitOne K (.ref C_TooGreat) (.type "int")=some false)
  (cibool_TooGreat:PySem.W.kitOne K (.ref C_TooGreat) (.type "bool")=some false)
  (cituple_TooGreat:PySem.W.kitOne K (.ref C_TooGreat) (.type "tuple")=some false)
  (cilist_TooGreat:PySem.W.kitOne K (.ref C_TooGreat) (.type "list")=some false)
  (cistr_TooGreat:PySem.W.kitOne K (.ref C_TooGreat) (.type "str")=some false)
  (cidict_TooGreat:PySem.W.kitOne K (.ref C_TooGreat) (.type "dict")=some false)
  (tp_OftenError:PySem.W.typeIn K (.ref C_OftenError)=some (.type "type"))
  (ga_OftenError:findIn K (.ref C_OftenError) "__getattribute__" = some (some (.builtin "BaseException.__getattribute__")))
  (gk_OftenError:findIn K (.ref C_OftenError) "__getattr__" = some none)
  (cc_OftenError:findIn K (.ref C_OftenError) "__class__" = some (some (.builtin "object.__class__")))
  (cs_OftenError:PySem.W.specialIn K (.builtin "object.__class__") "__get__" = some (some (.builtin "getset_descriptor.__get__")))
  (ct_OftenError:PySem.W.takesIn K (.builtin "object.__class__")=some true)
  (cm_OftenError:PySem.W.mroIn K C_OftenError (.type "object")=some true)
  (cb_OftenError:PySem.W.mroIn K C_OftenError (.type "BaseException")=some true)
  (ciint_OftenError:PySem.W.kitOne K (.ref C_OftenError) (.type "int")=some false)
  (cibool_OftenError:PySem.W.kitOne K (.ref C_OftenError) (.type "bool")=some false)
  (cituple_OftenError:PySem.W.kitOne K (.ref C_OftenError) (.type "tuple")=some false)
  (cilist_OftenError:PySem.W.kitOne K (.ref C_OftenError) (.type "list")=some false)
  (cistr_OftenError:PySem.W.kitOne K (.ref C_OftenError) (.type "str")=some false)
  (cidict_OftenError:PySem.W.kitOne K (.ref C_OftenError) (.type "dict")=some false)
  (sa_NotThere:findIn K (.ref C_NotThere) "__setattr__" = some (some (.builtin "object.__setattr__")))
  (ov_NotThere:qce K C_NotThere=true)
  (na_NotThere:findIn K (.ref C_NotThere) "there" = some none)
  (hd_NotThere:PySem.W.hasDictIn K C_NotThere=true)
  (sa_TooGreat:findIn K (.ref C_TooGreat) "__setattr__" = some (some (.builtin "object.__setattr__")))
  (ov_TooGreat:qce K C_TooGreat=true)
  (na_TooGreat:findIn K (.ref C_TooGreat) "most" = some none)
  (hd_TooGreat:PySem.W.hasDictIn K C_TooGreat=true)
  (sp_OftenError:PySem.W.specialIn K (.ref C_OftenError) "__getattribute__" = some (some (.builtin "type.__getattribute__"))) (rd_OftenError:PySem.W.readsIn K C_OftenError (.type "type")=true) (fc_OftenError:PySem.W.findCls K (.ref C_OftenError) (.type "type") "__init__" = some (.val (.builtin "ValueError.__init__")))
  (mr_NoStore_OftenError:PySem.W.mroIn K C_NoStore (.ref C_OftenError)=some true)
  (mr_NoRun_OftenError:PySem.W.mroIn K C_NoRun (.ref C_OftenError)=some true)
  (mr_NotThere_OftenError:PySem.W.mroIn K C_NotThere (.ref C_OftenError)=some true)
  (mr_TooGreat_OftenError:PySem.W.mroIn K C_TooGreat (.ref C_OftenError)=some true)
  (kt_NoStore_NoStore:PySem.W.kitOne K (.ref C_NoStore) (.ref C_NoStore)=some true)
  (kt_NoStore_NoRun:PySem.W.kitOne K (.ref C_NoStore) (.ref C_NoRun)=some false)
  (kt_NoStore_TooGreat:PySem.W.kitOne K (.ref C_NoStore) (.ref C_TooGreat)=some false)
  (kt_NoStore_NotThere:PySem.W.kitOne K (.ref C_NoStore) (.ref C_NotThere)=some false)
  (ka_NoStore_NoShare_NoText_NoTree:PySem.W.kitAny K (.ref C_NoStore) ([C_NoShare,C_NoText,C_NoTree].map Value.ref)=some false)
  (kt_NoStore_ValueError:PySem.W.kitOne K (.ref C_NoStore) (.type "ValueError")=some true)
  (kt_NoRun_NoStore:PySem.W.kitOne K (.ref C_NoRun) (.ref C_NoStore)=some false)
  (kt_NoRun_NoRun:PySem.W.kitOne K (.ref C_NoRun) (.ref C_NoRun)=some true)
  (kt_NoRun_TooGreat:PySem.W.kitOne K (.ref C_NoRun) (.ref C_TooGreat)=some false)
  (kt_NoRun_NotThere:PySem.W.kitOne K (.ref C_NoRun) (.ref C_NotThere)=some false)
  (ka_NoRun_NoShare_NoText_NoTree:PySem.W.kitAny K (.ref C_NoRun) ([C_NoShare,C_NoText,C_NoTree].map Value.ref)=some false)
  (kt_NoRun_ValueError:PySem.W.kitOne K (.ref C_NoRun) (.type "ValueError")=some true)
  (kt_TooGreat_NoStore:PySem.W.kitOne K (.ref C_TooGreat) (.ref C_NoStore)=some false)
  (kt_TooGreat_NoRun:PySem.W.kitOne K (.ref C_TooGreat) (.ref C_NoRun)=some false)
  (kt_TooGreat_TooGreat:PySem.W.kitOne K (.ref C_TooGreat) (.ref C_TooGreat)=some true)
  (kt_TooGreat_NotThere:PySem.W.kitOne K (.ref C_TooGreat) (.ref C_NotThere)=some false)
  (ka_TooGreat_NoShare_NoText_NoTree:PySem.W.kitAny K (.ref C_TooGreat) ([C_NoShare,C_NoText,C_NoTree].map Value.ref)=some false)
  (kt_TooGreat_ValueError:PySem.W.kitOne K (.ref C_TooGreat) (.type "ValueError")=some true)
  (kt_NotThere_NoStore:PySem.W.kitOne K (.ref C_NotThere) (.ref C_NoStore)=some false)
  (kt_NotThere_NoRun:PySem.W.kitOne K (.ref C_NotThere) (.ref C_NoRun)=some false)
  (kt_NotThere_TooGreat:PySem.W.kitOne K (.ref C_NotThere) (.ref C_TooGreat)=some false)
  (kt_NotThere_NotThere:PySem.W.kitOne K (.ref C_NotThere) (.ref C_NotThere)=some true)
  (ka_NotThere_NoShare_NoText_NoTree:PySem.W.kitAny K (.ref C_NotThere) ([C_NoShare,C_NoText,C_NoTree].map Value.ref)=some false)
  (kt_NotThere_ValueError:PySem.W.kitOne K (.ref C_NotThere) (.type "ValueError")=some true)
  (z_isinstance:nsIn K mainGlobals "isinstance" = some none)
  (z_int:nsIn K mainGlobals "int" = some none)
  (z_bool:nsIn K mainGlobals "bool" = some none)
  (z_min:nsIn K mainGlobals "min" = some none)
  (z_all:nsIn K mainGlobals "all" = some none)
  (z_tuple:nsIn K mainGlobals "tuple" = some none)
  (z_zip:nsIn K mainGlobals "zip" = some none)
  (z_len:nsIn K mainGlobals "len" = some none)
  (z_sum:nsIn K mainGlobals "sum" = some none)
  (z_max:nsIn K mainGlobals "max" = some none)
  (z_range:nsIn K mainGlobals "range" = some none)
  (z_ValueError:nsIn K mainGlobals "ValueError" = some none)
  {tk_MOST_WARES:Tok} (y_MOST_WARES:nsIn K mainGlobals "MOST_WARES" = some (some (.int 12 tk_MOST_WARES)))
  {tk_MOST_WINDOW:Tok} (y_MOST_WINDOW:nsIn K mainGlobals "MOST_WINDOW" = some (some (.int 1000000000000000 tk_MOST_WINDOW)))
  {tk_MOST_MANY:Tok} (y_MOST_MANY:nsIn K mainGlobals "MOST_MANY" = some (some (.int 1000000000000 tk_MOST_MANY)))
  {tk_MOST_RUNS:Tok} (y_MOST_RUNS:nsIn K mainGlobals "MOST_RUNS" = some (some (.int 200 tk_MOST_RUNS)))
  : ∃fd:FuncData,(∀(s:Shared) (v:Value),BindsTo s fd ⟨[v],[]⟩ [("_law_script",v)])/\∀base:Heap,K.In base->base.Ns mainGlobals mg->FnOk l.prog w K mg base CX0 9 fa fd ["_law_script"] (qcc K):=by
 have O_Store:ClsF K "Store" C_Store ["wares","window","runs"]:=⟨x_Store,⟨pg_Store,hd_Store,po_Store,sa_Store⟩,fun f hf=>(by simp only [m5,uh,nv] at hf;rcases hf with rfl|rfl|rfl <;> assumption)⟩
 have k_9:=F_is_number.kp;have k_12:=F_is_within.kp;have F_Store___init__:=k6 (st:=ze) l_1 q_1 k_1;have F_is_set:=k6 (st:=ky) l_11 q_11 k_11;have k_10:=F_is_run.kp;have F_Store_check_run:=k6 (st:=z9) l_2 q_2 k_2;have k_8:=F_baskets_of.kp;have k_26:=F_runs_like.kp;have F_parted:=k6 (st:=kz) l_25 q_25 k_25;have F_Store_take:=k6 (st:=j8) l_5 q_5 k_5;have F_Store_too_many:=k6 (st:=jd) l_6 q_6 k_6;have F_Store_put:=k6 (st:=jh) l_4 q_4 k_4;have F_Store_pile:=k6 (st:=xv) l_3 q_3 k_3;have k_20:=F_law_is.kp;have k_21:=F_law_mixed.kp;have k_16:=F_law_cell.kp;have k_19:=F_law_good_stores.kp;have k_17:=F_law_classes.kp;have k_23:=F_law_no_store.kp;have k_15:=F_law_bad_stores.kp;have k_14:=F_law_bad_sets.kp;have k_24:=F_law_refused.kp;have k_22:=F_law_no_run.kp;have k_13:=F_law_bad_runs.kp;have k_18:=F_law_full.kp;have k_law:=F_law.kp;have m_NoStore:=mg_of X G ns_NoStore;have m_NoRun:=mg_of X G ns_NoRun;have m_NotThere:=mg_of X G ns_NotThere;have m_TooGreat:=mg_of X G ns_TooGreat;have m_OftenError:=mg_of X G ns_OftenError;have m_NoShare:=mg_of X G ns_NoShare;have m_NoText:=mg_of X G ns_NoText;have m_NoTree:=mg_of X G ns_NoTree;have cx_NoStore:v7 K C_NoStore:=⟨⟨ga_NoStore,gk_NoStore,cc_NoStore,cs_NoStore,ct_NoStore,cm_NoStore,cb_NoStore⟩,q4v ciint_NoStore cibool_NoStore cituple_NoStore cilist_NoStore cistr_NoStore cidict_NoStore⟩
 have cx_NoRun:v7 K C_NoRun:=⟨⟨ga_NoRun,gk_NoRun,cc_NoRun,cs_NoRun,ct_NoRun,cm_NoRun,cb_NoRun⟩,q4v ciint_NoRun cibool_NoRun cituple_NoRun cilist_NoRun cistr_NoRun cidict_NoRun⟩
 have F_NotThere___init__:=k6 (st:=zx) l_0 q_0 k_0;have cx_NotThere:v7 K C_NotThere:=⟨⟨ga_NotThere,gk_NotThere,cc_NotThere,cs_NotThere,ct_NotThere,cm_NotThere,cb_NotThere⟩,q4v ciint_NotThere cibool_NotThere cituple_NotThere cilist_NotThere cistr_NotThere cidict_NotThere⟩
 have F_TooGreat___init__:=k6 (st:=zy) l_7 q_7 k_7;have cx_TooGreat:v7 K C_TooGreat:=⟨⟨ga_TooGreat,gk_TooGreat,cc_TooGreat,cs_TooGreat,ct_TooGreat,cm_TooGreat,cb_TooGreat⟩,q4v ciint_TooGreat cibool_TooGreat cituple_TooGreat cilist_TooGreat cistr_TooGreat cidict_TooGreat⟩
 have cx_OftenError:v7 K C_OftenError:=⟨⟨ga_OftenError,gk_OftenError,cc_OftenError,cs_OftenError,ct_OftenError,cm_OftenError,cb_OftenError⟩,q4v ciint_OftenError cibool_OftenError cituple_OftenError cilist_OftenError cistr_OftenError cidict_OftenError⟩
 have ci_NotThere:ClsI K C_NotThere "there" :=⟨sa_NotThere,ov_NotThere,na_NotThere,hd_NotThere⟩
 have ci_TooGreat:ClsI K C_TooGreat "most" :=⟨sa_TooGreat,ov_TooGreat,na_TooGreat,hd_TooGreat⟩
 have n_isinstance:=mg_none_of X G z_isinstance;have n_int:=mg_none_of X G z_int;have n_bool:=mg_none_of X G z_bool;have n_min:=mg_none_of X G z_min;have n_all:=mg_none_of X G z_all;have n_tuple:=mg_none_of X G z_tuple;have n_zip:=mg_none_of X G z_zip;have n_len:=mg_none_of X G z_len;have n_sum:=mg_none_of X G z_sum;have n_max:=mg_none_of X G z_max;have n_range:=mg_none_of X G z_range;have n_ValueError:=mg_none_of X G z_ValueError;have g_MOST_WARES:∃t,mg "MOST_WARES" = some (.int 12 t):=⟨_,mg_of X G y_MOST_WARES⟩
 have g_MOST_WINDOW:∃t,mg "MOST_WINDOW" = some (.int 1000000000000000 t):=⟨_,mg_of X G y_MOST_WINDOW⟩
 have g_MOST_MANY:∃t,mg "MOST_MANY" = some (.int 1000000000000 t):=⟨_,mg_of X G y_MOST_MANY⟩
 have g_MOST_RUNS:∃t,mg "MOST_RUNS" = some (.int 200 t):=⟨_,mg_of X G y_MOST_RUNS⟩
 have e:=hfa.symm.trans (mg_of X G x_law);cases e;have b_9:Binds K _ ["thing"] []:=F_is_number.bindsTo (P:=fun fd=>Binds K fd ["thing"] []) fun _ _ _ _ _ _ s us hk hl=>ln1 (fun _=>.of_eq rfl) us hl;have b_12:Binds K _ ["thing","lowest","highest"] []:=F_is_within.bindsTo (P:=fun fd=>Binds K fd ["thing","lowest","highest"] []) fun _ _ _ _ _ _ s us hk hl=>ln3 (fun _ _ _=>.of_eq rfl) us hl;have b_1:Binds K _ ["self","wares","window"] []:=F_Store___init__.bindsTo (P:=fun fd=>Binds K fd ["self","wares","window"] []) fun _ _ _ _ _ _ s us hk hl=>ln3 (fun _ _ _=>g03 rfl (hk _ _ d_Store___init__) rfl rfl rfl) us hl;have b_11:Binds K _ ["thing","wares"] []:=F_is_set.bindsTo (P:=fun fd=>Binds K fd ["thing","wares"] []) fun _ _ _ _ _ _ s us hk hl=>ln2 (fun _ _=>g03 rfl (hk _ _ d_is_set) rfl rfl rfl) us hl;have b_10:Binds K _ ["thing","wares"] []:=F_is_run.bindsTo (P:=fun fd=>Binds K fd ["thing","wares"] []) fun _ _ _ _ _ _ s us hk hl=>ln2 (fun _ _=>.of_eq rfl) us hl;have b_2:Binds K _ ["self","many","basket"] []:=F_Store_check_run.bindsTo (P:=fun fd=>Binds K fd ["self","many","basket"] []) fun _ _ _ _ _ _ s us hk hl=>ln3 (fun _ _ _=>.of_eq rfl) us hl;have b_8:Binds K _ ["runs"] []:=F_baskets_of.bindsTo (P:=fun fd=>Binds K fd ["runs"] []) fun _ _ _ _ _ _ s us hk hl=>ln1 (fun _=>.of_eq rfl) us hl;have b_26:Binds K _ ["runs","basket"] []:=F_runs_like.bindsTo (P:=fun fd=>Binds K fd ["runs","basket"] []) fun _ _ _ _ _ _ s us hk hl=>ln2 (fun _ _=>.of_eq rfl) us hl;have b_25:Binds K _ ["runs","number","chosen"] []:=F_parted.bindsTo (P:=fun fd=>Binds K fd ["runs","number","chosen"] []) fun _ _ _ _ _ _ s us hk hl=>ln3 (fun _ _ _=>g03 rfl (hk _ _ d_parted) rfl rfl rfl) us hl;have bd_parted_1:Binds K _ ["runs","number","chosen"] [.none]:=F_parted.bindsTo (P:=fun fd=>Binds K fd ["runs","number","chosen"] [.none]) fun _ _ _ _ _ _=>qq5 2 rfl fun s us hk hl=>match us,hl with | [_,_],_=>g03 rfl (hk _ _ d_parted) rfl rfl rfl
 have dv_parted_1:Vals [V.non] [.none]:=.cons rfl (.nil);have dd_parted_1:∀ {H:Hp},RepL K H [.non] [V.non]:=fun {H}=>RepL.cons (by simp only [Rep]) (RepL.nil);have b_5:Binds K _ ["self","many","basket"] []:=F_Store_take.bindsTo (P:=fun fd=>Binds K fd ["self","many","basket"] []) fun _ _ _ _ _ _ s us hk hl=>ln3 (fun _ _ _=>.of_eq rfl) us hl;have b_6:Binds K _ ["self","runs"] []:=F_Store_too_many.bindsTo (P:=fun fd=>Binds K fd ["self","runs"] []) fun _ _ _ _ _ _ s us hk hl=>ln2 (fun _ _=>.of_eq rfl) us hl;have b_4:Binds K _ ["self","many","basket"] []:=F_Store_put.bindsTo (P:=fun fd=>Binds K fd ["self","many","basket"] []) fun _ _ _ _ _ _ s us hk hl=>ln3 (fun _ _ _=>.of_eq rfl) us hl;have b_3:Binds K _ ["self"] []:=F_Store_pile.bindsTo (P:=fun fd=>Binds K fd ["self"] []) fun _ _ _ _ _ _ s us hk hl=>ln1 (fun _=>.of_eq rfl) us hl;have b_20:Binds K _ ["_law_found","_law_word","_law_number"] []:=F_law_is.bindsTo (P:=fun fd=>Binds K fd ["_law_found","_law_word","_law_number"] []) fun _ _ _ _ _ _ s us hk hl=>ln3 (fun _ _ _=>.of_eq rfl) us hl;have b_21:Binds K _ ["_law_cell_here","_law_k"] []:=F_law_mixed.bindsTo (P:=fun fd=>Binds K fd ["_law_cell_here","_law_k"] []) fun _ _ _ _ _ _ s us hk hl=>ln2 (fun _ _=>.of_eq rfl) us hl;have b_16:Binds K _ ["_law_script","_law_k"] []:=F_law_cell.bindsTo (P:=fun fd=>Binds K fd ["_law_script","_law_k"] []) fun _ _ _ _ _ _ s us hk hl=>ln2 (fun _ _=>.of_eq rfl) us hl;have b_19:Binds K _ ["_law_far"] []:=F_law_good_stores.bindsTo (P:=fun fd=>Binds K fd ["_law_far"] []) fun _ _ _ _ _ _ s us hk hl=>ln1 (fun _=>.of_eq rfl) us hl;have b_17:Binds K _ ["_law_error"] []:=F_law_classes.bindsTo (P:=fun fd=>Binds K fd ["_law_error"] []) fun _ _ _ _ _ _ s us hk hl=>ln1 (fun _=>.of_eq rfl) us hl;have b_23:Binds K _ ["_law_wares","_law_most"] []:=F_law_no_store.bindsTo (P:=fun fd=>Binds K fd ["_law_wares","_law_most"] []) fun _ _ _ _ _ _ s us hk hl=>ln2 (fun _ _=>.of_eq rfl) us hl;have b_15:Binds K _ ["_law_far"] []:=F_law_bad_stores.bindsTo (P:=fun fd=>Binds K fd ["_law_far"] []) fun _ _ _ _ _ _ s us hk hl=>ln1 (fun _=>.of_eq rfl) us hl;have b_14:Binds K _ ["_law_wares","_law_far"] []:=F_law_bad_sets.bindsTo (P:=fun fd=>Binds K fd ["_law_wares","_law_far"] []) fun _ _ _ _ _ _ s us hk hl=>ln2 (fun _ _=>.of_eq rfl) us hl;have b_24:Binds K _ ["_law_store","_law_taking","_law_many","_law_basket"] []:=F_law_refused.bindsTo (P:=fun fd=>Binds K fd ["_law_store","_law_taking","_law_many","_law_basket"] []) fun _ _ _ _ _ _ s us hk hl=>ln4 (fun _ _ _ _=>.of_eq rfl) us hl;have b_22:Binds K _ ["_law_store","_law_many","_law_basket"] []:=F_law_no_run.bindsTo (P:=fun fd=>Binds K fd ["_law_store","_law_many","_law_basket"] []) fun _ _ _ _ _ _ s us hk hl=>ln3 (fun _ _ _=>.of_eq rfl) us hl;have b_13:Binds K _ ["_law_store","_law_wares","_law_far"] []:=F_law_bad_runs.bindsTo (P:=fun fd=>Binds K fd ["_law_store","_law_wares","_law_far"] []) fun _ _ _ _ _ _ s us hk hl=>ln3 (fun _ _ _=>.of_eq rfl) us hl;have b_18:Binds K _ ["_law_wares","_law_far","_law_most"] []:=F_law_full.bindsTo (P:=fun fd=>Binds K fd ["_law_wares","_law_far","_law_most"] []) fun _ _ _ _ _ _ s us hk hl=>ln3 (fun _ _ _=>.of_eq rfl) us hl;refine⟨_,F_law.bindsTo (P:=fun fd=>∀(s:Shared) (v:Value),BindsTo s fd ⟨[v],[]⟩ [("_law_script",v)]) (fun _ _ _ _ _ _ s v=>.of_eq rfl),fun base _ _=>?_⟩;have gI_NotThere:=q5o (P:=l.prog) (w:=w) (mg:=mg) (base:=base) F_NotThere___init__ m_OftenError sp_OftenError rd_OftenError fc_OftenError ei_NotThere ci_NotThere;have bI_NotThere:Binds K _ ["self","there"] []:=F_NotThere___init__.bindsTo (P:=fun fd=>Binds K fd ["self","there"] []) fun _ _ _ _ _ _ s us hk hl=>ln2 (fun _ _=>.of_eq rfl) us hl;have gI_TooGreat:=q5s (P:=l.prog) (w:=w) (mg:=mg) (base:=base) F_TooGreat___init__ m_OftenError sp_OftenError rd_OftenError fc_OftenError ei_TooGreat ci_TooGreat;have bI_TooGreat:Binds K _ ["self","most"] []:=F_TooGreat___init__.bindsTo (P:=fun fd=>Binds K fd ["self","most"] []) fun _ _ _ _ _ _ s us hk hl=>ln2 (fun _ _=>.of_eq rfl) us hl;have o_9:=qdp (P:=l.prog) (w:=w) (mg:=mg) (base:=base) F_is_number n_isinstance n_int n_bool;have c_9:=Cal.mk o_9 (mg_of X G x_is_number) k_9;have o_12:=qds (P:=l.prog) (w:=w) (mg:=mg) (base:=base) F_is_within c_9 b_9;have c_12:=Cal.mk o_12 (mg_of X G x_is_within) k_12;have o_1:=q7q (P:=l.prog) (w:=w) (mg:=mg) (base:=base) F_Store___init__ O_Store c_12 b_12 g_MOST_WARES g_MOST_WINDOW;have M_Store:MkF l.prog w K mg base "Store" C_Store _ _ _ _ _ _:=⟨o_1,⟨mk_Store,x_Store___init__,i_1,kp_Store⟩,mg_of X G x_Store,x_Store⟩
 have gr_Store___init__:=q6n (P:=l.prog) (w:=w) (mg:=mg) (base:=base) F_Store___init__ O_Store c_12 b_12 g_MOST_WARES g_MOST_WINDOW e_NoStore m_NoStore ns_NoStore;have o_11:=qif (P:=l.prog) (w:=w) (mg:=mg) (base:=base) F_is_set c_9 b_9 n_min n_all n_isinstance n_tuple n_zip g_MOST_WARES;have c_11:=Cal.mk o_11 (mg_of X G x_is_set) k_11;have o_10:=qii (P:=l.prog) (w:=w) (mg:=mg) (base:=base) F_is_run c_12 b_12 c_11 b_11 n_isinstance n_tuple n_len g_MOST_MANY;have c_10:=Cal.mk o_10 (mg_of X G x_is_run) k_10;have o_2:=q6q (P:=l.prog) (w:=w) (mg:=mg) (base:=base) F_Store_check_run O_Store c_10 b_10;have c_2:CalF l.prog w K mg base "Store" "check_run" C_Store _ _ _ _ _ _:=⟨o_2,⟨x_Store_check_run,i_2,k_2⟩⟩
 have gr_Store_check_run:=q66 (P:=l.prog) (w:=w) (mg:=mg) (base:=base) F_Store_check_run O_Store c_10 b_10 e_NoRun m_NoRun ns_NoRun;have o_8:=qbr (P:=l.prog) (w:=w) (mg:=mg) (base:=base) F_baskets_of n_sum;have c_8:=Cal.mk o_8 (mg_of X G x_baskets_of) k_8;have o_26:=qdv (P:=l.prog) (w:=w) (mg:=mg) (base:=base) F_runs_like;have c_26:=Cal.mk o_26 (mg_of X G x_runs_like) k_26;have o_25:=qik (P:=l.prog) (w:=w) (mg:=mg) (base:=base) F_parted n_tuple n_min;have c_25:=Cal.mk o_25 (mg_of X G x_parted) k_25;have o_5:=qbt (P:=l.prog) (w:=w) (mg:=mg) (base:=base) F_Store_take O_Store c_2 b_2 c_8 b_8 c_26 b_26 c_25 b_25;have c_5:CalF l.prog w K mg base "Store" "take" C_Store _ _ _ _ _ _:=⟨o_5,⟨x_Store_take,i_5,k_5⟩⟩
 have gr_Store_take:=qab (P:=l.prog) (w:=w) (mg:=mg) (base:=base) F_Store_take O_Store c_2 b_2 c_8 b_8 c_26 b_26 c_25 b_25 gr_Store_check_run ei_NotThere gI_NotThere bI_NotThere tI_NotThere kp_NotThere m_NotThere ns_NotThere;have o_6:=q7v (P:=l.prog) (w:=w) (mg:=mg) (base:=base) F_Store_too_many O_Store c_8 b_8 n_max;have c_6:CalF l.prog w K mg base "Store" "too_many" C_Store _ _ _ _ _ _:=⟨o_6,⟨x_Store_too_many,i_6,k_6⟩⟩
 have o_4:=qdx (P:=l.prog) (w:=w) (mg:=mg) (base:=base) F_Store_put O_Store c_2 b_2 c_25 bd_parted_1 dv_parted_1 dd_parted_1 c_6 b_6 n_len g_MOST_RUNS;have c_4:CalF l.prog w K mg base "Store" "put" C_Store _ _ _ _ _ _:=⟨o_4,⟨x_Store_put,i_4,k_4⟩⟩
 have gr_Store_put:=qbv (P:=l.prog) (w:=w) (mg:=mg) (base:=base) F_Store_put O_Store c_2 b_2 c_25 bd_parted_1 dv_parted_1 dd_parted_1 c_6 b_6 n_len g_MOST_RUNS gr_Store_check_run ei_TooGreat gI_TooGreat bI_TooGreat tI_TooGreat kp_TooGreat m_TooGreat ns_TooGreat;have o_3:=qbz (P:=l.prog) (w:=w) (mg:=mg) (base:=base) F_Store_pile O_Store;have c_3:CalF l.prog w K mg base "Store" "pile" C_Store _ _ _ _ _ _:=⟨o_3,⟨x_Store_pile,i_3,k_3⟩⟩
 have o_20:=qin (P:=l.prog) (w:=w) (mg:=mg) (base:=base) F_law_is n_isinstance n_bool n_int;have c_20:=Cal.mk o_20 (mg_of X G x_law_is) k_20;have o_21:=qe0 (P:=l.prog) (w:=w) (mg:=mg) (base:=base) F_law_mixed;have c_21:=Cal.mk o_21 (mg_of X G x_law_mixed) k_21;have o_16:=qep (P:=l.prog) (w:=w) (mg:=mg) (base:=base) F_law_cell n_len;have c_16:=Cal.mk o_16 (mg_of X G x_law_cell) k_16;have o_19:=q6w (P:=l.prog) (w:=w) (mg:=mg) (base:=base) F_law_good_stores O_Store M_Store b_1 c_3 b_3 c_4 b_4 n_range n_tuple;have c_19:=Cal.mk o_19 (mg_of X G x_law_good_stores) k_19;have o_17:=qad (P:=l.prog) (w:=w) (mg:=mg) (base:=base) F_law_classes ns_NoRun cx_NoRun m_NoRun ns_NoStore cx_NoStore m_NoStore ns_NotThere cx_NotThere m_NotThere ns_TooGreat cx_TooGreat m_TooGreat kt_NoStore_NoStore kt_NoStore_NoRun kt_NoStore_TooGreat kt_NoStore_NotThere m_NoShare m_NoText m_NoTree ka_NoStore_NoShare_NoText_NoTree kt_NoStore_ValueError kt_NoRun_NoStore kt_NoRun_NoRun kt_NoRun_TooGreat kt_NoRun_NotThere ka_NoRun_NoShare_NoText_NoTree kt_NoRun_ValueError kt_TooGreat_NoStore kt_TooGreat_NoRun kt_TooGreat_TooGreat kt_TooGreat_NotThere ka_TooGreat_NoShare_NoText_NoTree kt_TooGreat_ValueError kt_NotThere_NoStore kt_NotThere_NoRun kt_NotThere_TooGreat kt_NotThere_NotThere ka_NotThere_NoShare_NoText_NoTree kt_NotThere_ValueError n_isinstance n_ValueError;have c_17:=Cal.mk o_17 (mg_of X G x_law_classes) k_17;have o_23:=q9g (P:=l.prog) (w:=w) (mg:=mg) (base:=base) F_law_no_store O_Store M_Store b_1 c_17 b_17 ns_NoStore cx_NoStore m_NoStore ns_OftenError cx_OftenError m_OftenError tp_OftenError mr_NoStore_OftenError gr_Store___init__;have c_23:=Cal.mk o_23 (mg_of X G x_law_no_store) k_23;have o_15:=q7x (P:=l.prog) (w:=w) (mg:=mg) (base:=base) F_law_bad_stores c_23 b_23;have c_15:=Cal.mk o_15 (mg_of X G x_law_bad_stores) k_15;have o_14:=q9i (P:=l.prog) (w:=w) (mg:=mg) (base:=base) F_law_bad_sets;have c_14:=Cal.mk o_14 (mg_of X G x_law_bad_sets) k_14;have o_24:=qag (P:=l.prog) (w:=w) (mg:=mg) (base:=base) F_law_refused O_Store c_17 b_17 c_5 b_5 c_4 b_4 ns_NoRun cx_NoRun m_NoRun ns_NotThere cx_NotThere m_NotThere ns_OftenError cx_OftenError m_OftenError ns_TooGreat cx_TooGreat m_TooGreat tp_OftenError mr_NoRun_OftenError mr_NotThere_OftenError mr_TooGreat_OftenError gr_Store_take gr_Store_put ci_NotThere ci_TooGreat;have c_24:=CalO.mk o_24 (mg_of X G x_law_refused) k_24;have o_22:=qc2 (P:=l.prog) (w:=w) (mg:=mg) (base:=base) F_law_no_run O_Store c_3 b_3 c_24 b_24;have c_22:=CalO.mk o_22 (mg_of X G x_law_no_run) k_22;have o_13:=q9l (P:=l.prog) (w:=w) (mg:=mg) (base:=base) F_law_bad_runs O_Store c_14 b_14 c_22 b_22 n_tuple n_range;have c_13:=CalO.mk o_13 (mg_of X G x_law_bad_runs) k_13;have o_18:=qer (P:=l.prog) (w:=w) (mg:=mg) (base:=base) F_law_full O_Store M_Store b_1 c_3 b_3 c_5 b_5 c_4 b_4 c_20 b_20 c_24 b_24 c_22 b_22 n_range n_tuple n_len;have c_18:=Cal.mk o_18 (mg_of X G x_law_full) k_18;exact qoe (qov (P:=l.prog) (w:=w) (mg:=mg) (base:=base) F_law O_Store M_Store b_1 c_5 b_5 c_4 b_4 c_3 b_3 c_20 b_20 c_21 b_21 c_16 b_16 c_19 b_19 c_15 b_15 c_13 b_13 c_24 b_24 c_18 b_18 n_tuple) hm
end My
namespace PySem.W.Fast
theorem tw12354520125573493257 : True := trivial
theorem tw14209753646112452292 : True := trivial
theorem tw11992504914990852969 : True := trivial
theorem tw5468045933104238473 : True := trivial
theorem tw12308694680365337126 : True := trivial
theorem tw10705672639948843353 : True := trivial
theorem tw5365189692475670504 : True := trivial
theorem tw7486085620153315088 : True := trivial
theorem tw17454551546297643781 : True := trivial
theorem tw4310681859398354426 : True := trivial
theorem tw7802022493493000523 : True := trivial
theorem tw10968470018792191868 : True := trivial
theorem tw14928875906593539877 : True := trivial
theorem tw77296348430158230 : True := trivial
theorem tw16245188545643982883 : True := trivial
theorem tw714428762789620386 : True := trivial
theorem tw16255566815019443254 : True := trivial
theorem tw9627215811674851203 : True := trivial
theorem tw6537877593570070890 : True := trivial
theorem tw7212787811966157857 : True := trivial
theorem tw126996578410412659 : True := trivial
theorem tw4883546860904515932 : True := trivial
theorem tw16707209962011739958 : True := trivial
theorem tw9638063145585760956 : True := trivial
theorem tw7266255142652701708 : True := trivial
theorem tw3335747923349566584 : True := trivial
theorem tw15256889467200780861 : True := trivial
theorem tw13351059471832755726 : True := trivial
theorem tw7891451882514120866 : True := trivial
end PySem.W.Fast
open PySem PySem.W PyProof.Rows
local macro_rules | `(tactic| walk_at "F")=> `(tactic| (letI:DL.Lam:=⟨[]⟩;exact DL.k6 (by k_is) (by k_is) (by k_is)))
set_option maxHeartbeats 0 in
theorem PySem.Challenge.cw_oftentogether_k43_store_refused_holds : PySem.Challenge.rw_oftentogether_k43_store_refused.Holds := by
 w_on;o_law;k_head;(case hw=>w_witness2)
 k_fill
 letI:DL.Lam:=⟨[]⟩
 refine DL.qof rfl (l:=PySem.Challenge.rw_oftentogether_k43_store_refused) (k:=9) (x:="_law_script") rfl rfl ⟨rfl,by decide,by decide⟩ (fun w h Y=>PySem.W.kIn_of Y) ?F
 case F=>
  intro w mg fa h KX G hmg;refine' My.all_mk KX G hmg My.qkz ?x_Store ?mk_Store ?kp_Store ?pg_Store ?hd_Store ?po_Store ?sa_Store ?nawares_Store ?nawindow_Store ?naruns_Store ?x_is_number ?F_is_number ?x_is_within ?F_is_within ?x_Store___init__ ?i_1 ?l_1 ?q_1 ?k_1 ?d_Store___init__ ?x_is_set ?l_11 ?q_11 ?k_11 ?d_is_set ?x_is_run ?F_is_run ?x_Store_check_run ?i_2 ?l_2 ?q_2 ?k_2 ?x_baskets_of ?F_baskets_of ?x_runs_like ?F_runs_like ?x_parted ?l_25 ?q_25 ?k_25 ?d_parted ?x_Store_take ?i_5 ?l_5 ?q_5 ?k_5 ?x_Store_too_many ?i_6 ?l_6 ?q_6 ?k_6 ?x_Store_put ?i_4 ?l_4 ?q_4 ?k_4 ?x_Store_pile ?i_3 ?l_3 ?q_3 ?k_3 ?x_law_is ?F_law_is ?x_law_mixed ?F_law_mixed ?x_law_cell ?F_law_cell ?x_law_good_stores ?F_law_good_stores ?x_law_classes ?F_law_classes ?x_law_no_store ?F_law_no_store ?x_law_bad_stores ?F_law_bad_stores ?x_law_bad_sets ?F_law_bad_sets ?x_law_refused ?F_law_refused ?x_law_no_run ?F_law_no_run ?x_law_bad_runs ?F_law_bad_runs ?x_law_full ?F_law_full ?x_law ?F_law ?ns_NoStore ?ns_NoRun ?ns_NotThere ?ns_TooGreat ?ns_OftenError ?ns_NoShare ?ns_NoText ?ns_NoTree ?e_NoStore ?ga_NoStore ?gk_NoStore ?cc_NoStore ?cs_NoStore ?ct_NoStore ?cm_NoStore ?cb_NoStore ?ciint_NoStore ?cibool_NoStore ?cituple_NoStore ?cilist_NoStore ?cistr_NoStore ?cidict_NoStore ?e_NoRun ?ga_NoRun ?gk_NoRun ?cc_NoRun ?cs_NoRun ?ct_NoRun ?cm_NoRun ?cb_NoRun ?ciint_NoRun ?cibool_NoRun ?cituple_NoRun ?cilist_NoRun ?cistr_NoRun ?cidict_NoRun ?x_NotThere___init__ ?l_0 ?q_0 ?k_0 ?ei_NotThere ?tI_NotThere ?kp_NotThere ?ga_NotThere ?gk_NotThere ?cc_NotThere ?cs_NotThere ?ct_NotThere ?cm_NotThere ?cb_NotThere ?ciint_NotThere ?cibool_NotThere ?cituple_NotThere ?cilist_NotThere ?cistr_NotThere ?cidict_NotThere ?x_TooGreat___init__ ?l_7 ?q_7 ?k_7 ?ei_TooGreat ?tI_TooGreat ?kp_TooGreat ?ga_TooGreat ?gk_TooGreat ?cc_TooGreat ?cs_TooGreat ?ct_TooGreat ?cm_TooGreat ?cb_TooGreat ?ciint_TooGreat ?cibool_TooGreat ?cituple_TooGreat ?cilist_TooGreat ?cistr_TooGreat ?cidict_TooGreat ?tp_OftenError ?ga_OftenError ?gk_OftenError ?cc_OftenError ?cs_OftenError ?ct_OftenError ?cm_OftenError ?cb_OftenError ?ciint_OftenError ?cibool_OftenError ?cituple_OftenError ?cilist_OftenError ?cistr_OftenError ?cidict_OftenError ?sa_NotThere ?ov_NotThere ?na_NotThere ?hd_NotThere ?sa_TooGreat ?ov_TooGreat ?na_TooGreat ?hd_TooGreat ?sp_OftenError ?rd_OftenError ?fc_OftenError ?mr_NoStore_OftenError ?mr_NoRun_OftenError ?mr_NotThere_OftenError ?mr_TooGreat_OftenError ?kt_NoStore_NoStore ?kt_NoStore_NoRun ?kt_NoStore_TooGreat ?kt_NoStore_NotThere ?ka_NoStore_NoShare_NoText_NoTree ?kt_NoStore_ValueError ?kt_NoRun_NoStore ?kt_NoRun_NoRun ?kt_NoRun_TooGreat ?kt_NoRun_NotThere ?ka_NoRun_NoShare_NoText_NoTree ?kt_NoRun_ValueError ?kt_TooGreat_NoStore ?kt_TooGreat_NoRun ?kt_TooGreat_TooGreat ?kt_TooGreat_NotThere ?ka_TooGreat_NoShare_NoText_NoTree ?kt_TooGreat_ValueError ?kt_NotThere_NoStore ?kt_NotThere_NoRun ?kt_NotThere_TooGreat ?kt_NotThere_NotThere ?ka_NotThere_NoShare_NoText_NoTree ?kt_NotThere_ValueError ?z_isinstance ?z_int ?z_bool ?z_min ?z_all ?z_tuple ?z_zip ?z_len ?z_sum ?z_max ?z_range ?z_ValueError ?y_MOST_WARES ?y_MOST_WINDOW ?y_MOST_MANY ?y_MOST_RUNS
  (case x_Store=>k_is)
  (case mk_Store=>k_is)
  (case kp_Store=>k_is)
  (case pg_Store=>k_is)
  (case hd_Store=>k_is)
  (case po_Store=>k_is)
  (case sa_Store=>k_is)
  (case nawares_Store=>k_is)
  (case nawindow_Store=>k_is)
  (case naruns_Store=>k_is)
  (case x_is_number=>k_is)
  (case F_is_number=>walk_at "F")
  (case x_is_within=>k_is)
  (case F_is_within=>walk_at "F")
  (case x_Store___init__=>k_is)
  (case i_1=>k_is)
  (case l_1=>k_is)
  (case q_1=>k_is)
  (case k_1=>k_is)
  (case d_Store___init__=>k_is)
  (case x_is_set=>k_is)
  (case l_11=>k_is)
  (case q_11=>k_is)
  (case k_11=>k_is)
  (case d_is_set=>k_is)
  (case x_is_run=>k_is)
  (case F_is_run=>walk_at "F")
  (case x_Store_check_run=>k_is)
  (case i_2=>k_is)
  (case l_2=>k_is)
  (case q_2=>k_is)
  (case k_2=>k_is)
  (case x_baskets_of=>k_is)
  (case F_baskets_of=>walk_at "F")
  (case x_runs_like=>k_is)
  (case F_runs_like=>walk_at "F")
  (case x_parted=>k_is)
  (case l_25=>k_is)
  (case q_25=>k_is)
  (case k_25=>k_is)
  (case d_parted=>k_is)
  (case x_Store_take=>k_is)
  (case i_5=>k_is)
  (case l_5=>k_is)
  (case q_5=>k_is)
  (case k_5=>k_is)
  (case x_Store_too_many=>k_is)
  (case i_6=>k_is)
  (case l_6=>k_is)
  (case q_6=>k_is)
  (case k_6=>k_is)
  (case x_Store_put=>k_is)
  (case i_4=>k_is)
  (case l_4=>k_is)
  (case q_4=>k_is)
  (case k_4=>k_is)
  (case x_Store_pile=>k_is)
  (case i_3=>k_is)
  (case l_3=>k_is)
  (case q_3=>k_is)
  (case k_3=>k_is)
  (case x_law_is=>k_is)
  (case F_law_is=>walk_at "F")
  (case x_law_mixed=>k_is)
  (case F_law_mixed=>walk_at "F")
  (case x_law_cell=>k_is)
  (case F_law_cell=>walk_at "F")
  (case x_law_good_stores=>k_is)
  (case F_law_good_stores=>walk_at "F")
  (case x_law_classes=>k_is)
  (case F_law_classes=>walk_at "F")
  (case x_law_no_store=>k_is)
  (case F_law_no_store=>walk_at "F")
  (case x_law_bad_stores=>k_is)
  (case F_law_bad_stores=>walk_at "F")
  (case x_law_bad_sets=>k_is)
  (case F_law_bad_sets=>walk_at "F")
  (case x_law_refused=>k_is)
  (case F_law_refused=>walk_at "F")
  (case x_law_no_run=>k_is)
  (case F_law_no_run=>walk_at "F")
  (case x_law_bad_runs=>k_is)
  (case F_law_bad_runs=>walk_at "F")
  (case x_law_full=>k_is)
  (case F_law_full=>walk_at "F")
  (case x_law=>k_is)
  (case F_law=>walk_at "F")
  (case ns_NoStore=>k_is)
  (case ns_NoRun=>k_is)
  (case ns_NotThere=>k_is)
  (case ns_TooGreat=>k_is)
  (case ns_OftenError=>k_is)
  (case ns_NoShare=>k_is)
  (case ns_NoText=>k_is)
  (case ns_NoTree=>k_is)
  (case e_NoStore=>first|kernel_rfl|rfl)
  (case ga_NoStore=>k_is)
  (case gk_NoStore=>k_is)
  (case cc_NoStore=>k_is)
  (case cs_NoStore=>k_is)
  (case ct_NoStore=>k_is)
  (case cm_NoStore=>k_is)
  (case cb_NoStore=>k_is)
  (case ciint_NoStore=>first|kernel_rfl|rfl)
  (case cibool_NoStore=>first|kernel_rfl|rfl)
  (case cituple_NoStore=>first|kernel_rfl|rfl)
  (case cilist_NoStore=>first|kernel_rfl|rfl)
  (case cistr_NoStore=>first|kernel_rfl|rfl)
  (case cidict_NoStore=>first|kernel_rfl|rfl)
  (case e_NoRun=>first|kernel_rfl|rfl)
  (case ga_NoRun=>k_is)
  (case gk_NoRun=>k_is)
  (case cc_NoRun=>k_is)
  (case cs_NoRun=>k_is)
  (case ct_NoRun=>k_is)
  (case cm_NoRun=>k_is)
  (case cb_NoRun=>k_is)
  (case ciint_NoRun=>first|kernel_rfl|rfl)
  (case cibool_NoRun=>first|kernel_rfl|rfl)
  (case cituple_NoRun=>first|kernel_rfl|rfl)
  (case cilist_NoRun=>first|kernel_rfl|rfl)
  (case cistr_NoRun=>first|kernel_rfl|rfl)
  (case cidict_NoRun=>first|kernel_rfl|rfl)
  (case x_NotThere___init__=>k_is)
  (case l_0=>k_is)
  (case q_0=>k_is)
  (case k_0=>k_is)
  (case ei_NotThere=>first|kernel_rfl|rfl)
  (case tI_NotThere=>k_is)
  (case kp_NotThere=>k_is)
  (case ga_NotThere=>k_is)
  (case gk_NotThere=>k_is)
  (case cc_NotThere=>k_is)
  (case cs_NotThere=>k_is)
  (case ct_NotThere=>k_is)
  (case cm_NotThere=>k_is)
  (case cb_NotThere=>k_is)
  (case ciint_NotThere=>first|kernel_rfl|rfl)
  (case cibool_NotThere=>first|kernel_rfl|rfl)
  (case cituple_NotThere=>first|kernel_rfl|rfl)
  (case cilist_NotThere=>first|kernel_rfl|rfl)
  (case cistr_NotThere=>first|kernel_rfl|rfl)
  (case cidict_NotThere=>first|kernel_rfl|rfl)
  (case x_TooGreat___init__=>k_is)
  (case l_7=>k_is)
  (case q_7=>k_is)
  (case k_7=>k_is)
  (case ei_TooGreat=>first|kernel_rfl|rfl)
  (case tI_TooGreat=>k_is)
  (case kp_TooGreat=>k_is)
  (case ga_TooGreat=>k_is)
  (case gk_TooGreat=>k_is)
  (case cc_TooGreat=>k_is)
  (case cs_TooGreat=>k_is)
  (case ct_TooGreat=>k_is)
  (case cm_TooGreat=>k_is)
  (case cb_TooGreat=>k_is)
  (case ciint_TooGreat=>first|kernel_rfl|rfl)
  (case cibool_TooGreat=>first|kernel_rfl|rfl)
  (case cituple_TooGreat=>first|kernel_rfl|rfl)
  (case cilist_TooGreat=>first|kernel_rfl|rfl)
  (case cistr_TooGreat=>first|kernel_rfl|rfl)
  (case cidict_TooGreat=>first|kernel_rfl|rfl)
  (case tp_OftenError=>first|k_is|kernel_rfl|rfl)
  (case ga_OftenError=>k_is)
  (case gk_OftenError=>k_is)
  (case cc_OftenError=>k_is)
  (case cs_OftenError=>k_is)
  (case ct_OftenError=>k_is)
  (case cm_OftenError=>k_is)
  (case cb_OftenError=>k_is)
  (case ciint_OftenError=>first|kernel_rfl|rfl)
  (case cibool_OftenError=>first|kernel_rfl|rfl)
  (case cituple_OftenError=>first|kernel_rfl|rfl)
  (case cilist_OftenError=>first|kernel_rfl|rfl)
  (case cistr_OftenError=>first|kernel_rfl|rfl)
  (case cidict_OftenError=>first|kernel_rfl|rfl)
  (case sa_NotThere=>k_is)
  (case ov_NotThere=>first|kernel_rfl|rfl)
  (case na_NotThere=>k_is)
  (case hd_NotThere=>k_is)
  (case sa_TooGreat=>k_is)
  (case ov_TooGreat=>first|kernel_rfl|rfl)
  (case na_TooGreat=>k_is)
  (case hd_TooGreat=>k_is)
  (case sp_OftenError=>k_is)
  (case rd_OftenError=>k_is)
  (case fc_OftenError=>k_is)
  (case mr_NoStore_OftenError=>first|k_is|kernel_rfl|rfl)
  (case mr_NoRun_OftenError=>first|k_is|kernel_rfl|rfl)
  (case mr_NotThere_OftenError=>first|k_is|kernel_rfl|rfl)
  (case mr_TooGreat_OftenError=>first|k_is|kernel_rfl|rfl)
  (case kt_NoStore_NoStore=>first|kernel_rfl|rfl)
  (case kt_NoStore_NoRun=>first|kernel_rfl|rfl)
  (case kt_NoStore_TooGreat=>first|kernel_rfl|rfl)
  (case kt_NoStore_NotThere=>first|kernel_rfl|rfl)
  (case ka_NoStore_NoShare_NoText_NoTree=>first|kernel_rfl|rfl)
  (case kt_NoStore_ValueError=>first|kernel_rfl|rfl)
  (case kt_NoRun_NoStore=>first|kernel_rfl|rfl)
  (case kt_NoRun_NoRun=>first|kernel_rfl|rfl)
  (case kt_NoRun_TooGreat=>first|kernel_rfl|rfl)
  (case kt_NoRun_NotThere=>first|kernel_rfl|rfl)
  (case ka_NoRun_NoShare_NoText_NoTree=>first|kernel_rfl|rfl)
  (case kt_NoRun_ValueError=>first|kernel_rfl|rfl)
  (case kt_TooGreat_NoStore=>first|kernel_rfl|rfl)
  (case kt_TooGreat_NoRun=>first|kernel_rfl|rfl)
  (case kt_TooGreat_TooGreat=>first|kernel_rfl|rfl)
  (case kt_TooGreat_NotThere=>first|kernel_rfl|rfl)
  (case ka_TooGreat_NoShare_NoText_NoTree=>first|kernel_rfl|rfl)
  (case kt_TooGreat_ValueError=>first|kernel_rfl|rfl)
  (case kt_NotThere_NoStore=>first|kernel_rfl|rfl)
  (case kt_NotThere_NoRun=>first|kernel_rfl|rfl)
  (case kt_NotThere_TooGreat=>first|kernel_rfl|rfl)
  (case kt_NotThere_NotThere=>first|kernel_rfl|rfl)
  (case ka_NotThere_NoShare_NoText_NoTree=>first|kernel_rfl|rfl)
  (case kt_NotThere_ValueError=>first|kernel_rfl|rfl)
  (case z_isinstance=>k_is)
  (case z_int=>k_is)
  (case z_bool=>k_is)
  (case z_min=>k_is)
  (case z_all=>k_is)
  (case z_tuple=>k_is)
  (case z_zip=>k_is)
  (case z_len=>k_is)
  (case z_sum=>k_is)
  (case z_max=>k_is)
  (case z_range=>k_is)
  (case z_ValueError=>k_is)
  (case y_MOST_WARES=>k_is)
  (case y_MOST_WINDOW=>k_is)
  (case y_MOST_MANY=>k_is)
  (case y_MOST_RUNS=>k_is)
