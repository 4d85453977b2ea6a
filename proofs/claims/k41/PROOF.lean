import PyProof.Rows.All
import Wide.All
import OpenK.AllK
import Wide.FinOn
import Lean
import PyProof.EqAt
import PyProof.EqKinds
import PyProof.TupleCall
import PyProof.AutoSeq1
import PyProof.NeKinds
import PyProof.StationsW
import PyProof.Rows.Catch
import PySem.Challenge.RW_oftentogether_k41_put_and_taken
set_option maxRecDepth 100000
set_option maxHeartbeats 4000000
set_option Elab.async false
set_option linter.all false
abbrev g6:=@PySem.wpAny_bind
abbrev g9:=@Option.bind_eq_some_iff
abbrev gc:=@Option.bind_some
abbrev gf:=@List.getElem?_set_ne
abbrev gh:=@PySem.Heap.get?_push_of_some
abbrev gi:=@PySem.wpAny_pure
abbrev gj:=@Option.map_eq_some_iff
abbrev gp:=@List.size_toArray
abbrev gq:=@Bool.false_ne_true
abbrev gs:=@PySem.Heap.lt_size
abbrev gu:=@Ne.symm
abbrev gv:=@Nat.le_refl
abbrev gw:=@if_pos
abbrev gx:=@List.length_map
abbrev gy:=@Nat.lt_of_lt_of_le
abbrev gz:=@Option.map_some
abbrev m3:=@PySem.Heap.get?_push_size
abbrev m4:=@if_neg
abbrev m5:=@List.mem_cons_of_mem
abbrev m6:=@decide_eq_true
abbrev m7:=@Bool.and_eq_true
abbrev m8:=@decide_eq_false
abbrev m9:=@List.getElem?_map
abbrev ma:=@Nat.ne_of_lt
abbrev md:=@Nat.le_trans
abbrev mf:=@List.mem_cons
abbrev mh:=@List.mem_append_right
abbrev mi:=@List.map_cons
abbrev mj:=@List.mem_cons_self
abbrev ml:=@List.length_cons
abbrev mm:=@List.lookup_cons
abbrev mn:=@Option.some.inj
abbrev mq:=@List.length_append
abbrev mr:=@List.getElem?_eq_some_iff
abbrev mv:=@List.getElem?_append_left
abbrev mw:=@PySem.Heap.get?_update_other
abbrev mx:=@PySem.wpAny_mono
abbrev my:=@List.length_set
abbrev mz:=@List.append_nil
abbrev n8:=@PySem.wpAny_field
abbrev n9:=@List.getElem?_append_right
abbrev ng:=@PyProof.Rows.slot_tuple_getitem
abbrev nh:=@List.getElem?_replicate
abbrev ni:=@beq_iff_eq
abbrev nj:=@PySem.wpAny_holding
abbrev nk:=@PySem.Heap.size_push
abbrev nq:=@PySem.AutoSeq1.wpAny_loadPart'
abbrev nr:=@Bool.false_eq_true
abbrev nt:=@Array.getElem?_eq_some_iff
abbrev nu:=@PySem.wpAny_newObj_type
abbrev nv:=@if_true
abbrev ny:=@Nat.lt_irrefl
abbrev p5:=@PySem.wpAny_callSpecial?_slot
abbrev p6:=@Bool.or_eq_true
abbrev p7:=@List.replicate_succ
abbrev p8:=@congrArg
abbrev p9:=@List.length_take
abbrev pb:=@PySem.wpAny_seqItems
abbrev pd:=@List.not_mem_nil
abbrev pe:=@PySem.W.Looks.here
abbrev pf:=@PySem.F.attrBase_ValueError
abbrev ph:=@PySem.Obj.data_mapFields
abbrev pj:=@PySem.wpAny_setField_rec
abbrev pk:=@List.mem_filter
abbrev pq:=@Bool.eq_iff_iff
abbrev pw:=@PySem.Heap.get?_update_self
abbrev pz:=@Int.emod_nonneg
abbrev t4:=@PySem.F.slot_tuple_iterator_next
abbrev t5:=@PySem.wpAny_truthy_bool
abbrev t6:=@List.append_assoc
abbrev t7:=@PySem.Heap.get?_none_of_le
abbrev t8:=@PySem.codeAny_call_builtin
abbrev t9:=@PySem.wpAny_execs_cons
abbrev td:=@Nat.ne_of_gt
abbrev tj:=@Option.isSome_iff_exists
abbrev tq:=@if_false
abbrev tw:=@PySem.wpAny_call_entry
abbrev tx:=@Option.join_some
abbrev u0:=@List.all_eq_true
abbrev u6:=@List.map_map
abbrev u9:=@beq_eq_false_iff_ne
abbrev ua:=@PySem.mem_of_lookup
abbrev uc:=@PySem.BindsTo.of_defaults
abbrev ud:=@List.getElem?_cons_succ
abbrev ue:=@PySem.wpAny_call
abbrev uf:=@PySem.wpAny_Call_Name_kw
abbrev ug:=@PySem.W.callWith_K
abbrev uh:=@Nat.not_lt_zero
abbrev ui:=@Int.emod_lt_of_pos
abbrev uj:=@PySem.sizeLine_eq
abbrev uk:=@or_false
abbrev um:=@Int.toNat_natCast
abbrev uo:=@List.getElem?_set
abbrev uq:=@List.flatten_cons
abbrev ur:=@Nat.le_of_succ_le
abbrev uu:=@PySem.wpAny_loadPart_at
abbrev uv:=@PySem.W.methodCall_KW
abbrev uw:=@List.length_replicate
abbrev ux:=@List.map_nil
abbrev uy:=@List.cons.sizeOf_spec
abbrev uz:=@PySem.wpAny_setField
abbrev g00:=@PySem.Obj.isFreed_of_fields
abbrev g01:=@List.length_filter_le
abbrev g02:=@PyProof.Rows.callWith_type1
abbrev g03:=@beq_self_eq_true
abbrev g04:=@PySem.F.slot_tuple_mul
abbrev g05:=@PySem.F.excBase_ValueError
abbrev g06:=@Bool.and_self
abbrev g07:=@List.mem_append
abbrev g08:=@PySem.wpAny_passesOwn
abbrev g09:=@List.forIn_cons
abbrev g0a:=@List.drop_eq_getElem_cons
abbrev g0b:=@List.map_append
abbrev g0c:=@PySem.codeAny_mono
abbrev g0d:=@PySem.F.args_tuple_add_2
abbrev g0e:=@PySem.AutoSeq1.sub_tuple_tuple
abbrev g0f:=@List.mem_range
abbrev g0g:=@Option.some_or
abbrev g0h:=@PySem.F.entry_tuple_add
abbrev g0i:=@Option.some.injEq
abbrev g0j:=@of_decide_eq_true
abbrev g0k:=@PySem.wpAny_pyIter_list
abbrev g0l:=@decide_eq_true_eq
abbrev g0m:=@PySem.F.slot_tuple_add
abbrev g0n:=@List.take_of_length_le
abbrev g0o:=@List.all_cons
abbrev g0p:=@PySem.wpAny_attempt
abbrev g0q:=@Nat.lt_succ_self
abbrev g0r:=@List.mem_nil_iff
abbrev g0s:=@PySem.plainObj_wpAny_Assign_Attribute
abbrev g0t:=@List.mem_append_left
abbrev g0u:=@PySem.wpAny_execs_nil
abbrev g0v:=@List.nodup_cons
abbrev g0w:=@PyProof.Rows.callWith_builtin1
abbrev g0x:=@PySem.W.kia_one
abbrev g0y:=@PySem.wpAny_rule
abbrev g0z:=@List.all_map
abbrev g10:=@PySem.wpAny_updateSeq_pair
abbrev g11:=@PySem.F.slot_zip_next
abbrev g12:=@PySem.wpAny_ite_false
abbrev g13:=@PySem.PassesOwn.never
abbrev g14:=@List.nil_append
abbrev g15:=@List.eq_nil_of_length_eq_zero
abbrev g16:=@List.filterMap_cons
abbrev g17:=@Array.length_toList
abbrev g18:=@PySem.W.plainGet_of
abbrev g19:=@List.length_zipWith
abbrev g1a:=@Int.toNat_of_nonneg
abbrev g1b:=@List.filter_eq_self
abbrev g1c:=@PySem.wpAny_loadPart
abbrev g1d:=@PySem.F.args_tuple_iterator_next_1
abbrev g1e:=@List.forIn_nil
abbrev g1f:=@Nat.zero_le
abbrev g1g:=@List.mem_filterMap
abbrev g1h:=@PySem.Code.quiet_builtin
abbrev g1i:=@PySem.F.entry_tuple_iterator_next
abbrev g1j:=@PySem.F.args_tuple_mul_2
abbrev g1k:=@List.lookup_append
abbrev g1l:=@List.mem_singleton
abbrev g1m:=@Int.fdiv_eq_ediv_of_nonneg
abbrev g1n:=@PySem.wpAny_standAt
abbrev g1o:=@Bool.not_true
abbrev g1p:=@PySem.wpAny_onRaise
abbrev g1q:=@PySem.mem_of_lookup
abbrev g1r:=@PySem.F.entry_tuple_mul
abbrev g1s:=@PySem.call_meets
abbrev g1t:=@Option.isNone_iff_eq_none
abbrev g1u:=@PySem.concat_meets
abbrev g1v:=@PySem.noFill_tuple_add
abbrev g1w:=@List.length_drop
abbrev g1x:=@PySem.wpAny_typeOf
abbrev g1y:=@List.drop_length
abbrev g1z:=@PySem.AutoSeq1.idx_int
abbrev g20:=@List.filter_cons
abbrev g21:=@List.getElem?_eq_getElem
abbrev g22:=@List.of_mem_zip
abbrev g23:=@PySem.SeqAt.EqAt.same
abbrev g24:=@PySem.pushCells_keeps
abbrev g25:=@List.length_nil
abbrev g26:=@List.getElem?_set_self
abbrev g27:=@Nat.le_succ
abbrev g28:=@PySem.W.cellsFrom_some
abbrev g29:=@List.range_succ_eq_map
abbrev g2a:=@List.sum_replicate_nat
abbrev g2b:=@List.length_singleton
abbrev g2c:=@List.drop_zero
abbrev g2d:=@List.getElem?_zipWith
abbrev g2e:=@Option.none_or
abbrev g2f:=@Bool.and_true
abbrev g2g:=@Nat.le_of_lt
abbrev g2h:=@Bool.or_true
abbrev g2i:=@List.mem_map
namespace L2
open PySem PySem.Spec PyProof.Rows
abbrev Key:=Sum Int Str
def qjc:Key->Value->Bool
 | .inl k,v=>Value.isInt k v
 | .inr x,v=>Value.isStrOf x v
def qp2(w:World): Key->Int
 | .inl k=>hashInt k
 | .inr x=>hashStr w x
theorem jn:∀ {k:Key} {v:Value},qjc k v=true->(∃i t,k=Sum.inl i/\v=Value.int i t)\/(∃x t,k=Sum.inr x/\v=Value.str x t)
 | .inl i,v,h=>by
  obtain⟨t,e⟩:=Value.isInt_shape (k:=i) (v:=v) h;exact .inl ⟨i,t,rfl,e⟩
 | .inr x,v,h=>by
  obtain⟨t,e⟩:=Value.isStrOf_shape (x:=x) (v:=v) h;exact .inr ⟨x,t,rfl,e⟩
theorem qli(a b:Int): decide ((Sum.inl a:Key)=Sum.inl b)=(a==b):=by
 by_cases e:a=b
 ·subst e;simp
 ·have h:¬(Sum.inl a:Key)=Sum.inl b:=fun q=>e (Sum.inl.inj q)
  rw [m8 h];exact(u9.mpr e).symm
theorem qlj(a b:Str): decide ((Sum.inr a:Key)=Sum.inr b)=decide (a=b):=by
 by_cases e:a=b
 ·subst e;simp
 ·have h:¬(Sum.inr a:Key)=Sum.inr b:=fun q=>e (Sum.inr.inj q)
  rw [m8 h,m8 e]
theorem qlk(a:Int)(b:Str): decide ((Sum.inl a:Key)=Sum.inr b)=false:=m8 (fun q=>nomatch q)
theorem qll(a:Str)(b:Int): decide ((Sum.inr a:Key)=Sum.inl b)=false:=m8 (fun q=>nomatch q)
def mixKind(prog:Program)(w:World): PySem.KeyKind prog w Key where
 is:=qjc
 hash:=qp2 w
 inj:=fun v a b ha hb=>by
  rcases jn ha with⟨i,t,rfl,rfl⟩|⟨x,t,rfl,rfl⟩
  ·rcases jn hb with⟨j,u,rfl,e⟩|⟨y,u,rfl,e⟩
   ·injection e with e1 _;rw [e1]
   ·exact nomatch e
  ·rcases jn hb with⟨j,u,rfl,e⟩|⟨y,u,rfl,e⟩
   ·exact nomatch e
   ·injection e with e1 _;rw [e1]
 byValue:=fun k v h=>by
  rcases jn h with⟨i,t,rfl,rfl⟩|⟨x,t,rfl,rfl⟩ <;> rfl
 pyHash:=fun hv h=>by
  rcases jn hv with⟨i,t,rfl,rfl⟩|⟨x,t,rfl,rfl⟩
  ·exact wpAny_pyHash_int h
  ·exact wpAny_pyHash_str h
 eqBool:=fun hu hv h=>by
  rcases jn hu with⟨i,t,rfl,rfl⟩|⟨x,t,rfl,rfl⟩
  ·rcases jn hv with⟨j,u,rfl,rfl⟩|⟨y,u,rfl,rfl⟩
   ·rw [qli] at h;exact wpAny_eqBool_int h
   ·rw [qlk] at h;exact SeqAt.EqAt.int_str i t y u _ _ _ _ h
  ·rcases jn hv with⟨j,u,rfl,rfl⟩|⟨y,u,rfl,rfl⟩
   ·rw [qll] at h;exact SeqAt.EqAt.str_int x t j u _ _ _ _ h
   ·rw [qlj] at h;exact wpAny_eqBool_str h
 «strs» :=fun k x t v h=>by
  rcases jn h with⟨i,u,rfl,e⟩|⟨y,u,rfl,e⟩
  ·exact nomatch e
  ·injection e with e1 _
   subst e1;cases v <;> rfl
inductive V where
 | non|bl (b:Bool)|int (i:Int)|str (x:Str)|byt (b:Array UInt8)|flt (b:UInt64)|ref (a:Addr)|ty (n:String)
 deriving DecidableEq
def RelV:V->Value->Prop
 | .non,u=>u=Value.none
 | .bl b,u=>u=Value.bool b
 | .int i,u=>∃t,u=Value.int i t
 | .str x,u=>∃t,u=Value.str x t
 | .byt b,u=>∃t,u=Value.bytes b t
 | .flt b,u=>∃t,u=Value.float b t
 | .ref a,u=>u=Value.ref a
 | .ty n,u=>u=Value.type n
abbrev Vals:List V->List Value->Prop:=Paired RelV
theorem Vals.length{xs:List V}{us:List Value}(r:Vals xs us): xs.length=us.length:=Paired.length r
theorem Vals.get:∀ {xs:List V} {us:List Value} {i:Nat} {x:V},Vals xs us->xs[i]? = some x->∃u,us[i]? = some u/\RelV x u
 | _,_,_,_,.nil,e=>by simp at e
 | _,_,0,_,.cons r _,e=>by simp at e;subst e;exact⟨_,rfl,r⟩
 | _,_,i+1,x,.cons _ t,e=>by
  obtain⟨u,h1,h2⟩:=Vals.get (i:=i) (x:=x) t (by simpa using e);exact⟨u,by simpa using h1,h2⟩
theorem Vals.append:∀ {xs ys:List V} {us ws:List Value},Vals xs us->Vals ys ws->Vals (xs++ys) (us++ws)
 | _,_,_,_,.nil,s=>s
 | _,_,_,_,.cons r t,s=>.cons r (Vals.append t s)
theorem Vals.take:∀ {xs:List V} {us:List Value} (n:Nat),Vals xs us->Vals (xs.take n) (us.take n)
 | _,_,0,_=>.nil
 | _,_,_+1,.nil=>.nil
 | _,_,n+1,.cons r t=>.cons r (Vals.take n t)
theorem Vals.drop:∀ {xs:List V} {us:List Value} (n:Nat),Vals xs us->Vals (xs.drop n) (us.drop n)
 | _,_,0,r=>r
 | _,_,_+1,.nil=>.nil
 | _,_,n+1,.cons _ t=>Vals.drop n t
def RelO:Option V->Option Value->Prop
 | some v,some u=>RelV v u
 | none,none=>True
 | _,_=>False
def KV{κ : Type}: List (κ × V)->List (κ × Value)->Prop:=Paired fun(p : κ × V) (q : κ × Value)=>p.1=q.1/\RelV p.2 q.2
def kV:Key->V
 | .inl i=>.int i
 | .inr x=>.str x
inductive HO where
 /-- a list -/
 | lst (xs:List V)
 /-- a tuple (never changes) -/
 | tup (xs:List V)
 /-- a dict whose keys are ints and texts; one whose keys are tuples of ints and texts (the empty one is both) -/
 | dK (kvs:List (Key×V))|dT (kvs:List (List Key×V))
 /-- a set of ints: its members, its size -/
 | set (S:Int->Bool) (n:Nat)
 /-- an instance of the class at C, its dict at dx, its attributes -/
 | ins (C dx:Addr) (fs:List (Str×V))
 /-- the dict of the instance at x -/
 | own (x:Addr)
 /-- the dict of an exception -/
 | xd (fs:List (Str×V))
 /-- a bound method, f of x -/
 | met (f x:Addr)
 /-- a range object lo, lo + 1, .. below hi -/
 | rng (lo hi:Int)
 /-- a thing that is known to the object (the script; a dict while a loop walks it): read, never written while it is so -/
 | frz (o:Obj) (u:HO)
 /-- a code object's table -/
 | tbl (ps:Array Value)
 /-- any other thing, by what is true of its one object (a def of one's own: SetO a S n := HO.ext fun h => ..) -/
 | ext (φ : Heap->Prop)
abbrev Hp:=Addr->Option HO
def upd(H:Hp)(a:Addr)(o:HO): Hp:=fun b=>if b=a then some o else H b
theorem qv{H:Hp}{a:Addr}{o:HO}: upd H a o a=some o:=by unfold upd;rw [gw rfl]
theorem qo{H:Hp}{a b:Addr}{o:HO}(h:b≠a): upd H a o b=H b:=by unfold upd;rw [m4 h]
theorem je{H:Hp}{a b:Addr}{o:HO}(h:H a=some o)(h':H b=none): a≠b:=by
 intro e;subst e;rw [h] at h';cases h'
def TupX(h:Heap)(a:Addr)(items:Array Value): Prop:=∃o,h.get? a=some o/\o.cls=.type "tuple" /\ o.dict=none/\∃n,o.data=.seq items n
theorem TupX.up{h:Heap}{a:Addr}{items:Array Value}(p:TupX h a items): IsTup h a items:=let⟨o,x,y,_,z⟩:=p; ⟨o,x,y,z⟩
theorem TupX.new(h:Heap)(items:Array Value): TupX (h.push {cls:=.type "tuple",data:=.seq items}) h.objs.size items:=⟨_,m3 _ rfl,rfl,rfl,_,rfl⟩
section
variable(P:Program)(w:World)
def ObjOk(H:Hp)(h:Heap)(a:Addr): HO->Prop
 | .lst xs=>xs.length<=sizeLine/\∃(its:List Value) (n:Nat),Vals xs its/\h.get? a=some {cls:=.type "list",data:=.seq its.toArray n}
 | .tup xs=>xs.length<=sizeLine/\∃its:List Value,Vals xs its/\TupX h a its.toArray
 | .dK kvs=>kvs.length<=sizeLine/\(a==sysModules)=false/\∃vs,KV kvs vs/\h.DictOf (mixKind P w) a vs
 | .dT kvs=>kvs.length<=sizeLine/\(a==sysModules)=false/\∃xs:List (List Key×Addr×Value),
   Paired (fun(p:List Key×V) (q:List Key×Addr×Value)=>p.1=q.1/\H q.2.1=some (.tup (p.1.map kV))/\RelV p.2 q.2.2) kvs xs /\
   ∃o es ep,h.get? a=some o/\o.ExactDict/\o.data=.dict es ep/\es.toList=xs.map (entryOfKey (tupleKind (mixKind P w)))/\(xs.map (·.1)).Nodup
 | .set S n=>h.SetOf (intKind P w) a S n
 | .ins C dx fs=>H dx=some (.own a)/\fs.length<=1000/\dx≠a/\h.get? a=some (PySem.W.instObj C dx) /\
   ∃mA,h.Ns1 dx mA/\(∀f,RelO (fs.lookup f) (mA f))/\PySem.Within mA (fs.map (·.1))
 | .own _=>∃o,h.get? a=some o
 | .xd fs=>∃mA,h.Ns1 a mA/\∀f,RelO (fs.lookup f) (mA f)
 | .rng lo hi=>∃t u v,h.get? a=some {cls:=.type "range",data:=.fields #[.int lo t,.int hi u,.int 1 v]}
 | .frz o u=>h.get? a=some o/\ObjOk H h a u
 | .tbl ps=>h.get? a=some {cls:=.none,data:=.fields ps}
 | .met f x=>h.get? a=some (PySem.W.methodObj (.ref f) (.ref x))
 | .ext φ => φ h/\(∃o,h.get? a=some o)/\∀h1 h2:Heap, φ h1->(∀o,h1.get? a=some o->h2.get? a=some o) -> φ h2
def HOk(H:Hp)(h:Heap): Prop:=∀a o,H a=some o->ObjOk P w H h a o
end
section
variable{P:Program}{w:World}{H H':Hp}{h h':Heap}{a:Addr}{o:HO}
theorem ObjOk.lt(x:ObjOk P w H h a o): a<h.objs.size:=by
 cases o with
 | lst xs=>obtain⟨_,_,_,_,e⟩:=x;exact gs e
 | tup xs=>obtain⟨_,_,_,p⟩:=x;exact p.up.lt
 | dK kvs=>obtain⟨_,_,_,_,o,_,_,e,_⟩:=x;exact gs e
 | dT kvs=>obtain⟨_,_,_,_,o,_,_,e,_⟩:=x;exact gs e
 | set S n=>obtain⟨o,_,_,_,e,_⟩:=x;exact gs e
 | ins C dx fs=>obtain⟨_,_,_,e,_⟩:=x;exact gs e
 | own y=>obtain⟨_,e⟩:=x;exact gs e
 | xd fs=>obtain⟨_,⟨_,_,_,e,_⟩,_⟩:=x;exact gs e
 | rng lo hi=>obtain⟨_,_,_,e⟩:=x;exact gs e
 | frz ob u=>obtain⟨e,_⟩:=x;exact gs e
 | tbl ps=>exact gs (show h.get? a=some _ from x)
 | met f y=>exact gs (show h.get? a=some _ from x)
 | ext φ =>obtain⟨_,⟨_,e⟩,_⟩:=x;exact gs e
theorem Paired.mapP{α β : Type}{F G : α -> β -> Prop}: ∀ {l₁:List α} {l₂:List β},Paired F l₁ l₂->(∀a b,F a b->G a b)->Paired G l₁ l₂
 | _,_,.nil,_=>.nil
 | _,_,.cons r t,f=>.cons (f _ _ r) (Paired.mapP t f)
theorem ObjOk.stay(x:ObjOk P w H h a o)(k:∀b u,(b=a\/H b=some (.own a))->h.get? b=some u->h'.get? b=some u)
  (ho:∀b,H b=some (.own a)->H' b=some (.own a)) (ht:∀b xs,H b=some (.tup xs)->H' b=some (.tup xs)):ObjOk P w H' h' a o:=by
 induction o with
 | lst xs=>obtain⟨z,its,n,r,e⟩:=x;exact⟨z,its,n,r,k _ _ (.inl rfl) e⟩
 | tup xs=>obtain⟨z,its,r,ob,e,c⟩:=x;exact⟨z,its,r,ob,k _ _ (.inl rfl) e,c⟩
 | dK kvs=>obtain⟨z,y,vs,r,ob,es,ep,e,c⟩:=x;exact⟨z,y,vs,r,ob,es,ep,k _ _ (.inl rfl) e,c⟩
 | dT kvs=>
  obtain⟨z,y,xs,r,ob,es,ep,e,c⟩:=x;exact⟨z,y,xs,Paired.mapP r fun p q z=>⟨z.1,ht _ _ z.2.1,z.2.2⟩,ob,es,ep,k _ _ (.inl rfl) e,c⟩
 | set S n=>obtain⟨ob,es,ep,t,e,c⟩:=x;exact⟨ob,es,ep,t,k _ _ (.inl rfl) e,c⟩
 | ins C dx fs=>
  obtain⟨d,z,ne,e,mA,⟨od,es,ep,e2,c⟩,r⟩:=x;exact⟨ho _ d,z,ne,k _ _ (.inl rfl) e,mA,⟨od,es,ep,k _ _ (.inr d) e2,c⟩,r⟩
 | own y=>obtain⟨ob,e⟩:=x;exact⟨ob,k _ _ (.inl rfl) e⟩
 | xd fs=>obtain⟨mA,⟨od,es,ep,e,c⟩,r⟩:=x;exact⟨mA,⟨od,es,ep,k _ _ (.inl rfl) e,c⟩,r⟩
 | rng lo hi=>obtain⟨t,u,v,e⟩:=x;exact⟨t,u,v,k _ _ (.inl rfl) e⟩
 | frz ob u ih=>obtain⟨e,q⟩:=x;exact⟨k _ _ (.inl rfl) e,ih q⟩
 | tbl ps=>
  have e:h.get? a=some {cls:=.none,data:=.fields ps}:=x;show h'.get? a=some {cls:=.none,data:=.fields ps};exact k a _ (.inl rfl) e
 | met f y=>
  have e:h.get? a=some (PySem.W.methodObj (.ref f) (.ref y)):=x;show h'.get? a=some (PySem.W.methodObj (.ref f) (.ref y));exact k a _ (.inl rfl) e
 | ext φ =>obtain⟨p,⟨o,e⟩,st⟩:=x;exact⟨st _ _ p fun o q=>k _ _ (.inl rfl) q,⟨o,k _ _ (.inl rfl) e⟩,st⟩
theorem HOk.lt(x:HOk P w H h)(e:H a=some o): a<h.objs.size:=(x a o e).lt
theorem HOk.fresh(x:HOk P w H h)(e:h.objs.size<=a): H a=none:=by
 cases q:H a with
 | none=>rfl
 | some u=>exact absurd (gy (x.lt q) e) (ny _)
theorem HOk.kept(x:HOk P w H h)(k:∀b u,h.get? b=some u->h'.get? b=some u): HOk P w H h':=fun a o e=>
 (x a o e).stay (fun b u _ q=>k b u q) (fun _ q=>q) fun _ _ q=>q
theorem HOk.laid(x:HOk P w H h)(k:∀b u,h.get? b=some u->h'.get? b=some u)(hp:h.objs.size<=a)(new:ObjOk P w (upd H a o) h' a o): HOk P w (upd H a o) h':=fun b u e=>by
 have hn:=x.fresh hp
 by_cases hb:b=a
 ·subst hb;rw [qv] at e;cases e;exact new
 ·rw [qo hb] at e
  exact(x b u e).stay (fun c v _ q=>k c v q) (fun c q=>by rw [qo (je q hn)];exact q) fun c xs q=>by rw [qo (je q hn)];exact q
end
def Rd(H:Hp)(a:Addr)(u:HO): Prop:=H a=some u\/∃o,H a=some (.frz o u)
theorem Rd.ok{P:Program}{w:World}{H:Hp}{h:Heap}{a:Addr}{u:HO}(r:Rd H a u)(x:HOk P w H h): ObjOk P w H h a u:=by
 rcases r with r|⟨o,r⟩
 ·exact x a u r
 ·obtain⟨_,q⟩:=x a _ r
  exact q
def Mut:Option HO->Prop
 | some (.lst _)=>True
 | some (.dK _)=>True
 | some (.dT _)=>True
 | some (.set _ _)=>True
 | some (.ins _ _ _)=>True
 | some (.ext _)=>True
 | _=>False
section
variable{P:Program}{w:World}{H:Hp}{h h':Heap}{x e:Addr}{o':HO}
theorem HOk.write(ok:HOk P w H h)(mu:Mut (H x))(he:e=x\/H e=some (.own x))(k:∀b u,b≠e->h.get? b=some u->h'.get? b=some u)(heo:∃u,h'.get? e=some u)
  (new:ObjOk P w (upd H x o') h' x o'):HOk P w (upd H x o') h':=fun b u q=>by
 have nown:∀c y,H c=some (.own y)->c≠x:=fun c y r z=>by subst z;rw [r] at mu;exact mu
 have ntup:∀c xs,H c=some (.tup xs)->c≠x:=fun c xs r z=>by subst z;rw [r] at mu;exact mu
 by_cases hb:b=x
 ·subst hb;rw [qv] at q;cases q;exact new
 ·rw [qo hb] at q
  by_cases hbe:b=e
  ·have q':H b=some (.own x):=by
    rcases he with z|z
    ·exact absurd (hbe.trans z) hb
    ·rw [hbe];exact z
   rw [q] at q';cases q';obtain⟨v,hv⟩:=heo;exact⟨v,by rw [hbe];exact hv⟩
  ·refine(ok b u q).stay (fun c v hc r=>k c v ?_ r) (fun c r=>by rw [qo (nown c b r)];exact r) fun c xs r=>by rw [qo (ntup c xs r)];exact r
   rcases hc with rfl|hc
   ·exact hbe
   ·rintro rfl
    rcases he with z|z
    ·exact nown c b hc z
    ·rw [hc] at z;cases z;exact hb rfl
end
structure Un(fs ex:List Addr)(H H':Hp)(h h':Heap): Prop where
 keep:∀b o,h.get? b=some o->H b=none->b∉fs->b∉ex->h'.get? b=some o
 slot:∀b o,h.get? b=some o->H b=none->b∈fs->b∉ex->∃sl,h'.get? b=some {o with slots:=sl}
 free:∀b o,h.get? b=some o->H b=none->b∉ex->H' b=none
 there:∀b o,h.get? b=some o->b∉ex->∃o',h'.get? b=some o'
 tups:∀b xs,H b=some (.tup xs)->H' b=some (.tup xs)
 frzs:∀b o u,H b=some (.frz o u)->H' b=some (.frz o u)
 tbls:∀b ps,H b=some (.tbl ps)->∃more,H' b=some (.tbl (ps++more))
section
variable{fs fs' ex ex':List Addr}{H H1 H2:Hp}{h h1 h2 h':Heap}{a x e:Addr}{o:HO}
theorem Un.any(u:Un fs ex H H1 h h1){b:Addr}{ob:Obj}(q:h.get? b=some ob)(n:H b=none)(hx:b∉ex): ∃sl,h1.get? b=some {ob with slots:=sl}:=by
 by_cases hb:b∈fs
 ·exact u.slot b ob q n hb hx
 ·exact⟨ob.slots,u.keep b ob q n hb hx⟩
theorem Un.trans(a:Un fs ex H H1 h h1)(b:Un fs ex H1 H2 h1 h2): Un fs ex H H2 h h2 where
 keep:=fun c ob q n hc hx=>b.keep c ob (a.keep c ob q n hc hx) (a.free c ob q n hx) hc hx
 slot:=fun c ob q n hc hx=>by
  obtain⟨sl,e1⟩:=a.slot c ob q n hc hx;obtain⟨sl',e2⟩:=b.slot c _ e1 (a.free c ob q n hx) hc hx;exact⟨sl',e2⟩
 free:=fun c ob q n hx=>by
  obtain⟨o',e1⟩:=a.there c ob q hx;exact b.free c o' e1 (a.free c ob q n hx) hx
 there:=fun c ob q hx=>by
  obtain⟨o',e1⟩:=a.there c ob q hx;exact b.there c o' e1 hx
 tups:=fun c xs q=>b.tups c xs (a.tups c xs q)
 frzs:=fun c ob xs q=>b.frzs c ob xs (a.frzs c ob xs q)
 tbls:=fun c ps q=>by
  obtain⟨m1,e1⟩:=a.tbls c ps q;obtain⟨m2,e2⟩:=b.tbls c _ e1;exact⟨m1++m2,by rw [e2,Array.append_assoc]⟩
theorem Un.kept(k:∀b u,h.get? b=some u->h'.get? b=some u): Un fs ex H H h h':=
 ⟨fun b ob q _ _ _=>k b ob q,fun b ob q _ _ _=>⟨ob.slots,k b ob q⟩,fun _ _ _ n _=>n,fun b ob q _=>⟨ob,k b ob q⟩,fun _ _ q=>q,fun _ _ _ q=>q,fun _ ps q=>⟨#[],by rw [q];simp⟩⟩
theorem Un.refl:Un fs ex H H h h:=Un.kept fun _ _ q=>q
theorem Un.laid(k:∀b u,h.get? b=some u->h'.get? b=some u)(hp:h.objs.size<=a)(hn:H a=none): Un fs ex H (upd H a o) h h' where
 keep:=fun b u q _ _ _=>k b u q
 slot:=fun b u q _ _ _=>⟨u.slots,k b u q⟩
 free:=fun b u q n _=>by rw [qo (ma (gy (gs q) hp))];exact n
 there:=fun b u q _=>⟨u,k b u q⟩
 tups:=fun b xs q=>by rw [qo (je q hn)];exact q
 frzs:=fun b u xs q=>by rw [qo (je q hn)];exact q
 tbls:=fun b ps q=>⟨#[],by rw [qo (je q hn),q];simp⟩
theorem Un.write(mu:Mut (H x))(he:e=x\/H e=some (.own x))(k:∀b u,b≠e->h.get? b=some u->h'.get? b=some u)(heo:∃u,h'.get? e=some u): Un fs ex H (upd H x o) h h':=by
 have hx:∀b,H b=none->b≠x:=fun b n z=>by subst z;rw [n] at mu;exact mu
 have hb:∀b,H b=none->b≠e:=fun b n z=>by
  subst z;rcases he with r|r
  ·exact hx b n r
  ·rw [n] at r;cases r
 have hm:∀b u,H b=some u->¬Mut (some u)->b≠x:=fun b u q nm z=>by subst z;rw [q] at mu;exact nm mu
 refine⟨fun b u q n _ _=>k b u (hb b n) q,fun b u q n _ _=>⟨u.slots,k b u (hb b n) q⟩,fun b u q n _=>by rw [qo (hx b n)];exact n,fun b u q _=>?_,
  fun b xs q=>by rw [qo (hm b _ q fun z=>z)];exact q,fun b u xs q=>by rw [qo (hm b _ q fun z=>z)];exact q,fun b ps q=>⟨#[],by rw [qo (hm b _ q fun z=>z),q];simp⟩⟩
 by_cases hbe:b=e
 ·subst hbe;exact heo
 ·exact⟨u,k b u hbe q⟩
end
def trk(h:Heap)(H:Hp): List Addr:=(List.range h.objs.size).filter fun a=>(H a).isSome
def q3l(h:Heap)(H:Hp): Heap:=PySem.W.hideAll h (trk h H)
theorem qfa(h:Heap)(H:Hp): (q3l h H).objs.size=h.objs.size:=PySem.W.hideAll_size _ _
theorem qha{h:Heap}{H:Hp}{b:Addr}{o:Obj}(e:h.get? b=some o)(n:H b=none): (q3l h H).get? b=some o:=
 PySem.W.hideAll_get _ e fun hm=>by
  have q:(H b).isSome=true:=(pk.mp hm).2;rw [n] at q;simp at q
theorem qjp{h:Heap}{H:Hp}{b:Addr}{o:Obj}(e:(q3l h H).get? b=some o): h.get? b=some o/\H b=none:=by
 have e':h.get? b=some o:=PySem.W.of_hideAll (trk h H) e;refine⟨e',?_⟩;cases q:H b with
 | none=>rfl
 | some x=>
  have hm:b∈trk h H:=pk.mpr ⟨g0f.mpr (gs e'),by simp [q]⟩;have z:(q3l h H).get? b=none:=PySem.W.hideAll_none (trk h H) hm;rw [z] at e;cases e
def qjq(g h:Heap)(L:Addr): List (Addr×Obj):=(List.range h.objs.size).filterMap fun a=>if a=L\/(g.get? a).isSome=true then none else(h.get? a).map fun o=>(a,o)
def rest(g h:Heap)(L d:Addr): List (Addr×Obj):=(qjq g h L).filter fun p=>decide (p.1≠d)
structure Mod(K:PySem.W.Frag)(mg:Str->Option Value)(base:Heap): Prop where
 kin:K.In base
 glob:base.Ns mainGlobals mg
 blt:∃mb,base.Ns builtinsNs mb/\∀x:Str,x≠"__name__" -> mb x=bootBuiltins x
 nolimit:base.NoLimit
structure Cx where
 prog:Program
 w:World
 K:PySem.W.Frag
 mg:Str->Option Value
 base:Heap
 A:Around
 N:List Str
 s₀:Shared
 H₀:Hp
 env:Env
 outer:List Env
 stack:List Env
 ex:List Addr
 fn:Str->Bool
 calm:Bool
 pn:List (Addr×Obj)
 xe:Value->Shared->Prop
def frs(l:List Env): List Addr:=l.filterMap (·.frame)
abbrev Cx.fs(X:Cx): List Addr:=frs X.outer
def Vis(sc:Scope)(x:Str): Prop:=sc.names.lookup x=some .local\/sc.names.lookup x=some .cell\/sc.names.lookup x=some .free
def Loc(sc:Scope)(x:Str): Prop:=sc.names.lookup x=some .local\/sc.names.lookup x=some .cell
def Look(env:Env)(h:Heap)(m:Str->Option Value)(x:Str)(u:Value): Prop:=
 (env.kindOf x=some .local/\m x=some u)\/((env.kindOf x=some .cell\/env.kindOf x=some .free)/\∃c,env.cells.lookup x=some c/\h.IsCell c (some u))
structure Cx.Ok(X:Cx): Prop where
 mod:Mod X.K X.mg X.base
 kind:X.env.scope.kind=.function
 glob:X.env.globals=mainGlobals
 blt:X.env.builtins=builtinsNs
 above:X.s₀.heap.objs.size<=X.env.locals
 inj:∀x y c,X.env.cells.lookup x=some c->X.env.cells.lookup y=some c->x=y
 has:∀x,(X.env.kindOf x=some .cell\/X.env.kindOf x=some .free)->∃c,X.env.cells.lookup x=some c
 cab:∀x c,X.fn x=true->X.env.cells.lookup x=some c->X.s₀.heap.objs.size<=c
 hd:X.calm=true->X.A.handled=none
 frames:X.A.frames=some X.stack
 stk:X.stack=X.outer\/(X.stack=X.env :: X.outer/\X.env.frame=some X.env.locals)
 exf:∀b∈X.ex,b≠X.env.locals/\∀x c,X.env.cells.lookup x=some c->c≠b
 bs:∀b o,X.base.get? b=some o->X.s₀.heap.get? b=some o/\X.H₀ b=none
 bsz:X.base.objs.size<=X.s₀.heap.objs.size
 noex:∀b o,X.base.get? b=some o->b∉X.ex
 exfs:∀b∈X.ex,b∉X.fs
 funs:X.s₀.heap.FunFrames X.base X.outer
 frf:∀b∈X.fs,X.H₀ b=none
structure Inv(X:Cx)(pins:List (Addr×Obj))(σ : List (Option V))(H:Hp)(s:Shared): Prop where
 ok:X.Ok
 os:s.os=X.s₀.os
 bare:AllBare s.gens
 base:Un X.fs X.ex X.H₀ H X.s₀.heap s.heap
 loc:∃m,s.heap.Ns X.env.locals m/\∀(i:Nat) (x:Str) (v:V),X.N[i]? = some x -> σ[i]? = some (some v)->Vis X.env.scope x->∃u,RelV v u/\Look X.env s.heap m x u
 cell:∀x c,X.env.cells.lookup x=some c->∃v,s.heap.IsCell c v
 free:H X.env.locals=none
 freeC:∀x c,X.env.cells.lookup x=some c->H c=none
 pin:∀p∈X.pn++pins,s.heap.get? p.1=some p.2/\H p.1=none/\p.1≠X.env.locals/\p.1∉X.fs/\∀v,p.2.data ≠ .cell v
 hok:HOk X.prog X.w H s.heap
 len : σ.length=X.N.length
section
variable{X:Cx}{pins:List (Addr×Obj)}{σ : List (Option V)}{H H':Hp}{s:Shared}{h':Heap}
theorem Cx.Ok.nofr(ok:X.Ok){b:Addr}{o:Obj}(e:X.base.get? b=some o): b∉X.fs:=fun hb=>by
 have:=(ok.funs.mem hb).1;rw [e] at this;cases this
theorem Inv.bs(I:Inv X pins σ H s): ∀b o,X.base.get? b=some o->s.heap.get? b=some o/\H b=none:=fun b o e=>
 ⟨I.base.keep b o (I.ok.bs b o e).1 (I.ok.bs b o e).2 (I.ok.nofr e) (I.ok.noex b o e),I.base.free b o (I.ok.bs b o e).1 (I.ok.bs b o e).2 (I.ok.noex b o e)⟩
theorem Inv.bk(I:Inv X pins σ H s): ∀b o,X.base.get? b=some o->s.heap.get? b=some o:=fun b o e=>(I.bs b o e).1
theorem Inv.mod(I:Inv X pins σ H s): Mod X.K X.mg X.base:=I.ok.mod
theorem Inv.kIn(I:Inv X pins σ H s): X.K.In s.heap:=I.ok.mod.kin.keeps I.bk
theorem Inv.lt(I:Inv X pins σ H s): X.env.locals<s.heap.objs.size:=let⟨_,hn,_⟩:=I.loc;hn.lt
theorem Inv.sz(I:Inv X pins σ H s): X.s₀.heap.objs.size<=s.heap.objs.size:=md I.ok.above (g2g I.lt)
theorem Inv.nofs(I:Inv X pins σ H s){a:Addr}(h:s.heap.objs.size<=a): a∉X.fs:=fun hb=>by
 obtain⟨_,o,ho,_⟩:=I.ok.funs.mem hb;exact absurd (gy (gs ho) (md I.sz h)) (ny _)
theorem Inv.cne(I:Inv X pins σ H s): ∀x c,X.env.cells.lookup x=some c->c≠X.env.locals:=fun x c e z=>by
 obtain⟨v,o,ho,hd⟩:=I.cell x c e;obtain⟨m,⟨o',es,ep,ho',hd',_⟩,_⟩:=I.loc;rw [z,ho'] at ho;cases ho;rw [hd'] at hd;cases hd
theorem Inv.funs(I:Inv X pins σ H s): s.heap.FunFrames X.base X.outer:=by
 have all:∀(l:List Env),(∀b∈frs l,b∈X.fs)->X.s₀.heap.FunFrames X.base l->s.heap.FunFrames X.base l:=by
  intro l
  induction l with
  | nil=>intro _ _;trivial
  | cons env r ih=>
   intro hs hl;obtain⟨hk,⟨L,o,hf,hn,ho,hd⟩,hr⟩:=hl;have hL:L∈X.fs:=hs L (by unfold frs;rw [g16,hf];exact mj);obtain⟨sl,e⟩:=I.base.slot L o ho (I.ok.frf L hL) hL fun z=>I.ok.exfs L z hL;exact⟨hk,⟨L,_,hf,hn,e,hd⟩,ih (fun b hb=>hs b (by unfold frs;rw [g16,hf];exact m5 _ hb)) hr⟩
 exact all X.outer (fun _ hb=>hb) I.ok.funs
theorem Inv.stack(I:Inv X pins σ H s): s.heap.FunFrames X.base X.stack:=by
 rcases I.ok.stk with e|⟨e,hf⟩
 ·rw [e];exact I.funs
 ·rw [e]
  obtain⟨m,hn,_⟩:=I.loc;refine .cons (by rw [I.ok.kind];decide) hf hn ?_ I.funs;exact t7 (md I.ok.bsz I.ok.above)
theorem Inv.stkSub(I:Inv X pins σ H s): ∀b∈frs X.stack,b∈X.env.locals :: X.fs:=fun b hb=>by
 rcases I.ok.stk with e|⟨e,hf⟩
 ·rw [e] at hb;exact m5 _ hb
 ·rw [e] at hb
  unfold frs at hb;rw [g16,hf] at hb;exact hb
theorem Inv.stkFree(I:Inv X pins σ H s): ∀b∈frs X.stack,H b=none:=fun b hb=>by
 rcases mf.mp (I.stkSub b hb) with e|hb
 ·rw [e];exact I.free
 ·obtain⟨_,o,ho,_⟩:=I.ok.funs.mem hb
  exact I.base.free b o ho (I.ok.frf b hb) fun z=>I.ok.exfs b z hb
theorem Inv.step{g':Array GenState}{t':Nat}{d':Drawn}{ch:List Addr}(I:Inv X pins σ H s)
  (hch:∀b∈ch,(b∈X.ex\/X.s₀.heap.objs.size<=b)/\b≠X.env.locals/\(∀x c,X.env.cells.lookup x=some c->c≠b)/\∀p∈X.pn++pins,p.1≠b)
  (keep:∀b o,b≠X.env.locals->b∉X.fs->b∉ch->s.heap.get? b=some o->H b=none->h'.get? b=some o)
  (slot:∀b o,b≠X.env.locals->b∈X.fs->b∉ch->s.heap.get? b=some o->H b=none->∃sl,h'.get? b=some {o with slots:=sl}) (free:∀b o,b∉ch->s.heap.get? b=some o->H b=none->H' b=none)
  (there:∀b o,b∉ch->s.heap.get? b=some o->∃o',h'.get? b=some o')
  (tups:∀b xs,H b=some (.tup xs)->H' b=some (.tup xs)) (frzs:∀b o u,H b=some (.frz o u)->H' b=some (.frz o u)) (tbls:∀b ps,H b=some (.tbl ps)->∃more,H' b=some (.tbl (ps++more)))
  (ns:∀m,s.heap.Ns X.env.locals m->h'.Ns X.env.locals m) (hok:HOk X.prog X.w H' h') (hg:AllBare g') :
  Inv X pins σ H' {s with heap:=h',gens:=g',drawn:=d',toks:=t'}:=by
 have neL:∀b o,X.s₀.heap.get? b=some o->b≠X.env.locals:=fun b o e=>ma (gy (gs e) I.ok.above);have neC:∀b o,X.s₀.heap.get? b=some o->b∉X.ex->b∉ch:=fun b o e hx hb=>by
  rcases(hch b hb).1 with z|z
  ·exact hx z
  ·exact absurd (gy (gs e) z) (ny _)
 have cellK:∀x c,X.env.cells.lookup x=some c->∀v,s.heap.IsCell c v->h'.IsCell c v:=fun x c e v ⟨o,ho,hd⟩=>by
  have nch:c∉ch:=fun z=>(hch c z).2.2.1 x c e rfl
  by_cases hc:c∈X.fs
  ·obtain⟨sl,q⟩:=slot c o (I.cne x c e) hc nch ho (I.freeC x c e)
   exact⟨_,q,hd⟩
  ·exact⟨o,keep c o (I.cne x c e) hc nch ho (I.freeC x c e),hd⟩
 refine⟨I.ok,I.os,hg,⟨fun b o e n hb hx=>?_,fun b o e n hb hx=>?_,fun b o e n hx=>?_,fun b o e hx=>?_,fun b xs e=>tups b xs (I.base.tups b xs e),fun b o xs e=>frzs b o xs (I.base.frzs b o xs e),fun b ps e=>?_⟩,?_,fun x c e=>?_,?_,fun x c e=>?_,fun p hp=>?_,hok,I.len⟩
 ·exact keep b o (neL b o e) hb (neC b o e hx) (I.base.keep b o e n hb hx) (I.base.free b o e n hx)
 ·obtain⟨sl,e1⟩:=I.base.slot b o e n hb hx
  obtain⟨sl',e2⟩:=slot b _ (neL b o e) hb (neC b o e hx) e1 (I.base.free b o e n hx);exact⟨sl',e2⟩
 ·obtain⟨o',e1⟩:=I.base.there b o e hx
  exact free b o' (neC b o e hx) e1 (I.base.free b o e n hx)
 ·obtain⟨o',e1⟩:=I.base.there b o e hx
  exact there b o' (neC b o e hx) e1
 ·obtain⟨m1,e1⟩:=I.base.tbls b ps e
  obtain⟨m2,e2⟩:=tbls b _ e1;exact⟨m1++m2,by rw [e2,Array.append_assoc]⟩
 ·obtain⟨m,hn,hl⟩:=I.loc
  refine⟨m,ns m hn,fun i x v e1 e2 e3=>?_⟩;obtain⟨u,r,l⟩:=hl i x v e1 e2 e3;refine⟨u,r,?_⟩;rcases l with l|⟨k,c,e,z⟩
  ·exact .inl l
  ·exact .inr ⟨k,c,e,cellK x c e _ z⟩
 ·obtain⟨v,z⟩:=I.cell x c e
  exact⟨v,cellK x c e v z⟩
 ·obtain⟨m,⟨o,_,_,ho,_⟩,_⟩:=I.loc
  exact free _ o (fun z=>(hch _ z).2.1 rfl) ho I.free
 ·obtain⟨v,o,ho,hd⟩:=I.cell x c e
  exact free c o (fun z=>(hch c z).2.2.1 x c e rfl) ho (I.freeC x c e)
 ·obtain⟨e,n,ne,nf,d⟩:=I.pin p hp
  have nch:p.1∉ch:=fun z=>(hch p.1 z).2.2.2 p hp rfl;exact⟨keep p.1 p.2 ne nf nch e n,free p.1 p.2 nch e n,ne,nf,d⟩
theorem Inv.un{t':Nat}(I:Inv X pins σ H s)(u:Un X.fs [] H H' s.heap h')(hok:HOk X.prog X.w H' h'): Inv X pins σ H' {s with heap:=h',toks:=t'}:=by
 obtain⟨m,⟨o,es,ep,ho,r⟩,_⟩:=id I.loc;obtain⟨sl,hL⟩:=u.any ho I.free (by simp);exact I.step (g':=s.gens) (d':=s.drawn) (ch:=[]) (fun _ z=>nomatch z) (fun b o _ hb _ e n=>u.keep b o e n hb (by simp)) (fun b o _ hb _ e n=>u.slot b o e n hb (by simp)) (fun b o _ e n=>u.free b o e n (by simp)) (fun b o _ e=>u.there b o e (by simp)) u.tups u.frzs u.tbls (fun m' hm=>by
  obtain⟨o',es',ep',ho',r'⟩:=hm;rw [ho] at ho';cases ho';exact⟨_,es',ep',hL,r'⟩) hok I.bare
theorem Inv.call{g':Array GenState}{t':Nat}{d':Drawn}{ch:List Addr}(I:Inv X pins σ H s)(u:Un (frs X.stack) ch H H' s.heap h')(hok:HOk X.prog X.w H' h')(hg:AllBare g')
  (hch:∀b∈ch,(b∈X.ex\/X.s₀.heap.objs.size<=b)/\b≠X.env.locals/\(∀x c,X.env.cells.lookup x=some c->c≠b)/\∀p∈X.pn++pins,p.1≠b) :
  Inv X pins σ H' {s with heap:=h',gens:=g',drawn:=d',toks:=t'}:=by
 obtain⟨m,⟨o,es,ep,ho,r⟩,_⟩:=id I.loc;obtain⟨sl,hL⟩:=u.any ho I.free fun z=>(hch _ z).2.1 rfl;exact I.step (ch:=ch) hch (fun b o hL hb hc e n=>u.keep b o e n (fun z=>(mf.mp (I.stkSub b z)).elim hL hb) hc) (fun b o _ _ hc e n=>u.any e n hc) (fun b o hc e n=>u.free b o e n hc) (fun b o hc e=>u.there b o e hc) u.tups u.frzs u.tbls (fun m' hm=>by
  obtain⟨o',es',ep',ho',r'⟩:=hm;rw [ho] at ho';cases ho';exact⟨_,es',ep',hL,r'⟩) hok hg
theorem Inv.turned{t':Nat}{it:Addr}(I:Inv X pins σ H s)(k:∀b o,b≠it->s.heap.get? b=some o->h'.get? b=some o)(hn:H it=none)(hL:it≠X.env.locals)
  (h1:it∈X.ex\/X.s₀.heap.objs.size<=it) (h2:∀x c,X.env.cells.lookup x=some c->c≠it) (h3:∀p∈X.pn++pins,p.1≠it):Inv X pins σ H {s with heap:=h',toks:=t'}:=by
 have nit:∀b u,H b=some u->b≠it:=fun b u e z=>by rw [z,hn] at e;cases e
 refine I.step (g':=s.gens) (d':=s.drawn) (ch:=[it]) (fun b hb=>?_) (fun b o _ _ hc e _=>k b o (fun z=>hc (by simp [z])) e) (fun b o _ _ hc e _=>⟨o.slots,k b o (fun z=>hc (by simp [z])) e⟩) (fun _ _ _ _ n=>n)
  (fun b o hc e=>⟨o,k b o (fun z=>hc (by simp [z])) e⟩) (fun _ _ e=>e) (fun _ _ _ e=>e) (fun b ps e=>⟨#[],by rw [e];simp⟩) (fun m hm=>?_) (fun b u e=>?_) I.bare
 ·have e:b=it:=by simpa using hb
  subst e;exact⟨h1,hL,h2,h3⟩
 ·obtain⟨o,es,ep,ho,r⟩:=hm
  exact⟨o,es,ep,k _ o (gu hL) ho,r⟩
 ·refine(I.hok b u e).stay (fun c v hc q=>k c v ?_ q) (fun _ q=>q) fun _ _ q=>q
  rcases hc with z|z
  ·rw [z];exact nit b u e
  ·exact nit c _ z
theorem Inv.tok(I:Inv X pins σ H s)(t:Nat): Inv X pins σ H {s with toks:=t}:=I.un (h':=s.heap) (t':=t) Un.refl I.hok
theorem Inv.kept{t':Nat}(I:Inv X pins σ H s)(k:∀b u,s.heap.get? b=some u->h'.get? b=some u): Inv X pins σ H {s with heap:=h',toks:=t'}:=I.un (Un.kept k) (I.hok.kept k)
theorem Inv.laid{a:Addr}{o:HO}{t':Nat}(I:Inv X pins σ H s)(k:∀b u,s.heap.get? b=some u->h'.get? b=some u)(hp:s.heap.objs.size<=a)(new:ObjOk X.prog X.w (upd H a o) h' a o):
  Inv X pins σ (upd H a o) {s with heap:=h',toks:=t'}:=I.un (Un.laid k hp (I.hok.fresh hp)) (I.hok.laid k hp new)
theorem Inv.write{x e:Addr}{o:HO}{t':Nat}(I:Inv X pins σ H s)(mu:Mut (H x))(he:e=x\/H e=some (.own x))(k:∀b u,b≠e->s.heap.get? b=some u->h'.get? b=some u)(heo:∃u,h'.get? e=some u)
  (new:ObjOk X.prog X.w (upd H x o) h' x o):Inv X pins σ (upd H x o) {s with heap:=h',toks:=t'}:=I.un (Un.write mu he k heo) (I.hok.write mu he k heo new)
theorem Inv.pins_of{pins':List (Addr×Obj)}(I:Inv X pins σ H s)(h:∀p∈pins',s.heap.get? p.1=some p.2/\H p.1=none/\p.1≠X.env.locals/\p.1∉X.fs/\∀v,p.2.data ≠ .cell v): Inv X pins' σ H s:=
 ⟨I.ok,I.os,I.bare,I.base,I.loc,I.cell,I.free,I.freeC,fun p hp=>(g07.mp hp).elim (fun z=>I.pin p (g0t _ z)) (h p),I.hok,I.len⟩
theorem qag{N:List Str}(hN:N.Nodup){i j:Nat}{x:Str}(a:N[i]? = some x)(b:N[j]? = some x): i=j:=by
 obtain⟨h1,e1⟩:=mr.mp a;obtain⟨h2,e2⟩:=mr.mp b;exact(List.getElem_inj hN).mp (e1.trans e2.symm)
theorem qfb{M:Model}{A:Around}{E:Value->Shared->Prop}{i:Nat}{x:Str}{v:V}{u:Value}{Q:Unit->Shared->Prop}(I:Inv X pins σ H s)(hN:X.N.Nodup)(hi:X.N[i]? = some x)(hx:Loc X.env.scope x)(r:RelV v u)
  (h:∀s',Inv X pins (σ.set i (some v)) H s'->(∃a,Heap.SameBut a s.heap s'.heap/\(a=X.env.locals\/X.env.cells.lookup x=some a))->Q () s') (hf:X.fn x=true\/X.env.scope.names.lookup x=some .local:=by first|exact .inl rfl|exact .inr rfl|assumption):wpAny M A (storeName X.env x u) Q E s:=by
 obtain⟨m,hn,hl⟩:=id I.loc;have hcls:(X.env.scope.kind == .class || (X.env.scope.kind == .module&&X.env.locals != X.env.globals))=false:=by rw [I.ok.kind];rfl
 have hiσ : i < σ.length:=by rw [I.len];exact(mr.mp hi).1
 have cne:=I.cne;have tracked:∀ {a:Addr} {h':Heap},(∃o,s.heap.get? a=some o/\H a=none)->Heap.SameBut a s.heap h'->HOk X.prog X.w H h':=fun {a h'} ha hs b ob e=>by
  obtain⟨_,_,hfree⟩:=ha;refine(I.hok b ob e).stay (fun c w' hc q=>(hs.2 c ?_).trans q) (fun _ q=>q) fun _ _ q=>q
  rintro rfl
  rcases hc with rfl|hc
  ·rw [hfree] at e;cases e
  ·rw [hfree] at hc;cases hc
 rcases hx with hk|hk
 ·refine wpAny_storeName_local hk hn (fun h' hn' hs=>?_) hcls
  obtain⟨oL,_,_,hoL,_⟩:=id hn;refine h _ ⟨I.ok,I.os,I.bare,⟨fun b o e n hb hx=>?_,fun b o e n hb hx=>?_,I.base.free,fun b o e hx=>?_,I.base.tups,I.base.frzs,I.base.tbls⟩,⟨_,hn',fun j y v' e1 e2 e3=>?_⟩,fun y c e=>?_,I.free,I.freeC,fun p hp=>?_,tracked ⟨oL,hoL,I.free⟩ hs,by simpa using I.len⟩ ⟨_,hs,.inl rfl⟩
  ·exact(hs.2 b (ma (gy (gs e) I.ok.above))).trans (I.base.keep b o e n hb hx)
  ·obtain⟨sl,e1⟩:=I.base.slot b o e n hb hx
   exact⟨sl,(hs.2 b (ma (gy (gs e) I.ok.above))).trans e1⟩
  ·obtain⟨o',e1⟩:=I.base.there b o e hx
   exact⟨o',(hs.2 b (ma (gy (gs e) I.ok.above))).trans e1⟩
  ·by_cases hj:j=i
   ·subst hj
    rw [hi] at e1;cases e1;rw [g26 hiσ] at e2;cases e2;exact⟨u,r,.inl ⟨hk,by simp⟩⟩
   ·rw [gf (gu hj)] at e2
    obtain⟨u',r',q⟩:=hl j y v' e1 e2 e3;refine⟨u',r',?_⟩;rcases q with⟨k,e⟩|⟨k,c,e,z⟩
    ·refine .inl ⟨k,?_⟩
     have:y≠x:=fun e=>hj (qag hN e1 (e ▸ hi));simp [this,e]
    ·exact .inr ⟨k,c,e,z.sameBut hs (cne y c e)⟩
  ·obtain⟨w',z⟩:=I.cell y c e
   exact⟨w',z.sameBut hs (cne y c e)⟩
  ·obtain⟨e,n,ne,nf,d⟩:=I.pin p hp
   exact⟨(hs.2 p.1 ne).trans e,n,ne,nf,d⟩
 ·have hfn:X.fn x=true:=by
   rcases hf with z|z
   ·exact z
   ·rw [z] at hk;cases hk
  obtain⟨c,hc⟩:=I.ok.has x (.inl hk);obtain⟨w',z⟩:=I.cell x c hc;refine wpAny_storeName_cell I.ok.kind hk hc z (fun h' hc' hs=>?_);obtain⟨oc,hoc,hocd⟩:=id z;refine h {s with heap:=h'} ⟨I.ok,I.os,I.bare,⟨fun b o e n hb hx=>?_,fun b o e n hb hx=>?_,I.base.free,fun b o e hx=>?_,I.base.tups,I.base.frzs,I.base.tbls⟩,⟨m,hn.sameBut hs (gu (cne x c hc)),fun j y v' e1 e2 e3=>?_⟩,fun y c' e=>?_,I.free,I.freeC,fun p hp=>?_,tracked ⟨oc,hoc,I.freeC x c hc⟩ hs,by simpa using I.len⟩ ⟨c,hs,.inr hc⟩
  ·exact(hs.2 b (ma (gy (gs e) (I.ok.cab x c hfn hc)))).trans (I.base.keep b o e n hb hx)
  ·obtain⟨sl,e1⟩:=I.base.slot b o e n hb hx
   exact⟨sl,(hs.2 b (ma (gy (gs e) (I.ok.cab x c hfn hc)))).trans e1⟩
  ·obtain⟨o',e1⟩:=I.base.there b o e hx
   exact⟨o',(hs.2 b (ma (gy (gs e) (I.ok.cab x c hfn hc)))).trans e1⟩
  ·by_cases hj:j=i
   ·subst hj
    rw [hi] at e1;cases e1;rw [g26 hiσ] at e2;cases e2;exact⟨u,r,.inr ⟨.inl hk,c,hc,hc'⟩⟩
   ·rw [gf (gu hj)] at e2
    obtain⟨u',r',q⟩:=hl j y v' e1 e2 e3;refine⟨u',r',?_⟩;rcases q with q|⟨k,c',e,z'⟩
    ·exact .inl q
    ·refine .inr ⟨k,c',e,z'.sameBut hs ?_⟩
     rintro rfl
     exact hj (qag hN e1 (I.ok.inj _ _ _ e hc ▸ hi))
  ·by_cases hcc:c'=c
   ·subst hcc;exact⟨_,hc'⟩
   ·obtain⟨w2,z2⟩:=I.cell y c' e
    exact⟨w2,z2.sameBut hs hcc⟩
  ·obtain⟨e,n,ne,nf,d⟩:=I.pin p hp
   refine⟨(hs.2 p.1 ?_).trans e,n,ne,nf,d⟩;intro q;rw [q,hoc] at e;have q':oc=p.2:=mn e;exact d w' (by rw [<- q'];exact hocd)
theorem q3m{M:Model}{A:Around}{E:Value->Shared->Prop}{i:Nat}{x:Str}{v:V}{u:Value}{Q:Unit->Shared->Prop}(I:Inv X pins σ H s)(hN:X.N.Nodup)(hi:X.N[i]? = some x)(hx:Loc X.env.scope x)(r:RelV v u)
  (h:∀s',Inv X pins (σ.set i (some v)) H s'->Q () s') (hf:X.fn x=true\/X.env.scope.names.lookup x=some .local:=by first|exact .inl rfl|exact .inr rfl|assumption):wpAny M A (storeName X.env x u) Q E s:=
 qfb I hN hi hx r (fun s' I' _=>h s' I') hf
theorem Inv.call'{s':Shared}{ch:List Addr}(I:Inv X pins σ H s)(ho:s'.os=s.os)(u:Un (frs X.stack) ch H H' s.heap s'.heap)(hok:HOk X.prog X.w H' s'.heap)(hg:AllBare s'.gens)
  (hch:∀b∈ch,(b∈X.ex\/X.s₀.heap.objs.size<=b)/\b≠X.env.locals/\(∀x c,X.env.cells.lookup x=some c->c≠b)/\∀p∈X.pn++pins,p.1≠b):Inv X pins σ H' s':=by
 obtain⟨h',g',d',t',o'⟩:=s';have e:o'=s.os:=ho;subst e;exact I.call (g':=g') (t':=t') (d':=d') u hok hg hch
end
abbrev XK:=Value->Option Addr->Hp->Prop
abbrev St:=List (Option V)
abbrev VK:=V->Hp->Prop
abbrev TE:=St->Hp->VK->Prop
abbrev TT:=St->Hp->(Bool->Hp->Prop)->Prop
abbrev TA:=St->Hp->(List V->Hp->Prop)->Prop
structure Ends where
 nx:St->Hp->Prop
 rt:VK
 bk:St->Hp->Prop:=fun _ _=>False
 ct:St->Hp->Prop:=fun _ _=>False
abbrev TS:=Ends->St->Hp->Prop
def EP(X:Cx)(pins:List (Addr×Obj))(σ : St)(Q:VK)(u:Value)(s':Shared): Prop:=∃v H',Inv X pins σ H' s'/\RelV v u/\Q v H'
def TP(X:Cx)(pins:List (Addr×Obj))(σ : St)(Q:Bool->Hp->Prop)(b:Bool)(s':Shared): Prop:=∃H',Inv X pins σ H' s'/\Q b H'
def AP(X:Cx)(pins:List (Addr×Obj))(σ : St)(Q:List V->Hp->Prop)(us:List Value)(s':Shared): Prop:=∃vs H',Inv X pins σ H' s'/\Vals vs us/\Q vs H'
def SP(X:Cx)(pins:List (Addr×Obj))(D:Ends)(f:Flow)(s':Shared): Prop:=
 match f with
 | .next=>∃ σ' H',Inv X pins σ' H' s'/\D.nx σ' H'
 | .brk=>∃ σ' H',Inv X pins σ' H' s'/\D.bk σ' H'
 | .cont=>∃ σ' H',Inv X pins σ' H' s'/\D.ct σ' H'
 | .ret u=>∃v σ' H',Inv X pins σ' H' s'/\RelV v u/\D.rt v H'
def PE(X:Cx)(e:Expr)(t:TE): Prop:=
 ∀(pins:List (Addr×Obj)) (s:Shared) (σ : St) (H:Hp) (Q:VK),Inv X pins σ H s->t σ H Q->wpAny (model X.prog X.w) X.A (eval e X.env) (EP X pins σ Q) X.xe s
def PT(X:Cx)(e:Expr)(t:TT): Prop:=
 ∀(pins:List (Addr×Obj)) (s:Shared) (σ : St) (H:Hp) (Q:Bool->Hp->Prop),Inv X pins σ H s->t σ H Q->wpAny (model X.prog X.w) X.A (isTrue e X.env (eval e X.env)) (TP X pins σ Q) X.xe s
def PW(X:Cx)(e:Expr)(t:TT): Prop:=
 ∀(whole:Sem Value) (pins:List (Addr×Obj)) (s:Shared) (σ : St) (H:Hp) (Q:Bool->Hp->Prop),Inv X pins σ H s->t σ H Q->wpAny (model X.prog X.w) X.A (isTrue e X.env whole) (TP X pins σ Q) X.xe s
theorem PW.pt{X:Cx}{e:Expr}{t:TT}(h:PW X e t): PT X e t:=h _
def PA(X:Cx)(es:List Expr)(t:TA): Prop:=
 ∀(pos:Pos) (pins:List (Addr×Obj)) (s:Shared) (σ : St) (H:Hp) (Q:List V->Hp->Prop),Inv X pins σ H s->t σ H Q->wpAny (model X.prog X.w) X.A (spliced (backTo pos (starEach es X.env))) (AP X pins σ Q) X.xe s
def PS(X:Cx)(st:Stmt)(t:TS): Prop:=
 ∀(pins:List (Addr×Obj)) (s:Shared) (σ : St) (H:Hp) (D:Ends),Inv X pins σ H s->t D σ H->wpAny (model X.prog X.w) X.A (exec st X.env) (SP X pins D) X.xe s
def PSs(X:Cx)(st:List Stmt)(t:TS): Prop:=
 ∀(pins:List (Addr×Obj)) (s:Shared) (σ : St) (H:Hp) (D:Ends),Inv X pins σ H s->t D σ H->wpAny (model X.prog X.w) X.A (execs st X.env) (SP X pins D) X.xe s
theorem thn{α : Type}{t:Sem α}{Q Q' : α -> Shared->Prop}{M:Model}{A:Around}{E:Value->Shared->Prop}{s:Shared}(h:wpAny M A t Q E s)(hQ:∀a s,Q a s->Q' a s): wpAny M A t Q' E s:=mx h hQ fun _ _ x=>x
section
variable{X:Cx}
def yn(i:Nat): TE:=fun σ H Q=>∃v, σ[i]? = some (some v)/\Q v H
def tC(v:V): TE:=fun _ H Q=>Q v H
theorem qlm{i:Nat}{x:Str}{pos:Pos}(hN:X.N[i]? = some x)(hv:Vis X.env.scope x)(hd:(x==("__debug__" : Str))=false:=by decide)(hcd:(x==("__classdict__" : Str))=false:=by decide): PE X (.Name x pos) (yn i):=by
 intro pins s σ H Q I h;obtain⟨v,e,h⟩:=h;obtain⟨m,hn,hl⟩:=I.loc;obtain⟨u,r,l⟩:=hl i x v hN e hv;have fin:EP X pins σ Q u s:=⟨v,H,I,r,h⟩
 rcases l with⟨hk,hm⟩|⟨hk,c,hc,hcell⟩
 ·exact wpAny_Name (wpAny_loadName_local I.ok.kind hk hn hm fin) hd
 ·rcases hk with hk|hk
  ·exact wpAny_Name (wpAny_loadName_cell I.ok.kind hk hc hcell fin) hd
  ·exact wpAny_Name (wpAny_loadName_free I.ok.kind hk hc hcell fin hcd) hd
theorem qln{i j pos}: PE X (.Constant (.int i) j pos) (tC (.int i)):=fun _ _ _ H _ I h=>wpAny_Constant_int ⟨.int i,H,I.tok _,⟨_,rfl⟩,h⟩
theorem qnz{b j pos}: PE X (.Constant (.bool b) j pos) (tC (.bl b)):=fun _ _ _ H _ I h=>Constant_bool ⟨.bl b,H,I,rfl,h⟩
theorem qlo{j pos}: PE X (.Constant .none j pos) (tC .non):=fun _ _ _ H _ I h=>Constant_none ⟨.non,H,I,rfl,h⟩
def Gl(X:Cx)(x:Str): Prop:=X.env.kindOf x=some .globalImplicit
theorem q1k{E:Value->Shared->Prop}{pins:List (Addr×Obj)}{s:Shared}{σ : St}{H:Hp}{x:Str}{u:Value}{pos:Pos}{Q:Value->Shared->Prop}(I:Inv X pins σ H s)(hg:Gl X x)(hm:X.mg x=some u)(h:Q u s)
  (hd:(x==("__debug__" : Str))=false:=by decide):wpAny (model X.prog X.w) X.A (eval (.Name x pos) X.env) Q E s:=
 Calls.Name_function_global I.ok.kind hg (Calls.loadGlobal_global (by rw [I.ok.glob];exact I.mod.glob.keeps I.bk) hm h) hd
theorem q4e{E:Value->Shared->Prop}{pins:List (Addr×Obj)}{s:Shared}{σ : St}{H:Hp}{x:Str}{u:Value}{pos:Pos}{Q:Value->Shared->Prop}(I:Inv X pins σ H s)(hg:Gl X x)(hm:X.mg x=none)(hv:bootBuiltins x=some u)(h:Q u s)
  (hn:x≠"__name__" :=by decide) (hd:(x==("__debug__" : Str))=false:=by decide):wpAny (model X.prog X.w) X.A (eval (.Name x pos) X.env) Q E s:=by
 obtain⟨mb,h1,h2⟩:=I.mod.blt;exact Calls.Name_function_global I.ok.kind hg (Calls.loadGlobal_builtin (by rw [I.ok.glob];exact I.mod.glob.keeps I.bk) hm (by rw [I.ok.blt];exact h1.keeps I.bk) ((h2 x hn).trans hv) h) hd
theorem q00{x:Str}{v:V}{u:Value}{pos:Pos}(hg:Gl X x)(hm:X.mg x=some u)(r:RelV v u)(hd:(x==("__debug__" : Str))=false:=by decide): PE X (.Name x pos) (tC v):=
 fun _ _ _ H _ I h=>q1k I hg hm ⟨v,H,I,r,h⟩ hd
theorem qd5{x:Str}{v:V}{u:Value}{pos:Pos}(hg:Gl X x)(hm:X.mg x=none)(hv:bootBuiltins x=some u)(r:RelV v u)(hn:x≠"__name__" :=by decide)(hd:(x==("__debug__" : Str))=false:=by decide): PE X (.Name x pos) (tC v):=
 fun _ _ _ H _ I h=>q4e I hg hm hv ⟨v,H,I,r,h⟩ hn hd
variable{a b:Expr}{ta tb:TE}{pos:Pos}
theorem q6b(b:Expr){op:CmpOp}(h:op ≠ .In)(h2:op ≠ .NotIn): behindInMarks op b=false:=by
 have e1:(op==CmpOp.In)=false:=by cases op <;> first|rfl|exact absurd rfl h
 have e2:(op==CmpOp.NotIn)=false:=by cases op <;> first|rfl|exact absurd rfl h2
 cases b <;> simp [behindInMarks,e1,e2]
variable{tA tB':TT}{rest:List Expr}
def qp3(t u:TT): TT:=fun σ H Q=>t σ H fun c H1=>if c=true then u σ H1 Q else Q false H1
def tOr(t u:TT): TT:=fun σ H Q=>t σ H fun c H1=>if c=true then Q true H1 else u σ H1 Q
def qp4(t:TT): TT:=fun σ H Q=>t σ H fun c H1=>Q (!c) H1
theorem qjr(ha:PT X a tA): PW X (.BoolOp .And [a] pos) tA:=by
 intro wh pins s σ H Q I h;refine isTrue_and (thn (ha pins s σ H Q I h) fun c s1 e=>?_);cases c with
 | true=>exact isTrue_and_nil e
 | false=>exact e
theorem qlp(ha:PT X a tA): PW X (.BoolOp .Or [a] pos) tA:=by
 intro wh pins s σ H Q I h;refine isTrue_or (thn (ha pins s σ H Q I h) fun c s1 e=>?_);cases c with
 | false=>exact isTrue_or_nil e
 | true=>exact e
theorem qlq(ha:PT X a tA)(hb:PW X (.BoolOp .And (b :: rest) pos) tB'): PW X (.BoolOp .And (a :: b :: rest) pos) (qp3 tA tB'):=by
 intro wh pins s σ H Q I h;refine isTrue_and (thn (ha pins s σ H _ I h) fun c s1 ⟨H1,I1,q1⟩=>?_);cases c with
 | true=>exact hb wh pins s1 σ H1 Q I1 q1
 | false=>exact⟨H1,I1,q1⟩
theorem qo0(ha:PT X a tA)(hb:PW X (.BoolOp .Or (b :: rest) pos) tB'): PW X (.BoolOp .Or (a :: b :: rest) pos) (tOr tA tB'):=by
 intro wh pins s σ H Q I h;refine isTrue_or (thn (ha pins s σ H _ I h) fun c s1 ⟨H1,I1,q1⟩=>?_);cases c with
 | true=>exact⟨H1,I1,q1⟩
 | false=>exact hb wh pins s1 σ H1 Q I1 q1
theorem qfc(ha:PT X a tA): PT X (.UnaryOp .Not a pos) (qp4 tA):=by
 intro pins s σ H Q I h;exact isTrue_not (ha pins s σ H (fun c H1=>Q (!c) H1) I h)
def qo1(ta tb:TE): TE:=fun σ H Q=>ta σ H fun x H1=>∃c,x=.bl c/\if c=true then tb σ H1 Q else Q (.bl false) H1
def qo2(ta:TE): TE:=fun σ H Q=>ta σ H fun x H1=>∃c,x=.bl c/\Q (.bl (!c)) H1
theorem qlr{op}{t:TE}(h:PE X a t): PE X (.BoolOp op [a] pos) t:=fun pins s σ H Q I hw=>BoolOp_one (h pins s σ H Q I hw)
theorem qls(ha:PE X a ta)(hb:PE X (.BoolOp .And (b :: rest) pos) tb): PE X (.BoolOp .And (a :: b :: rest) pos) (qo1 ta tb):=by
 intro pins s σ H Q I h;refine BoolOp_and (thn (ha pins s σ H _ I h) fun v s1 ⟨x,H1,I1,r1,q1⟩=>?_);obtain⟨c,rfl,q1⟩:=q1;cases r1;refine t5 ?_;cases c with
 | true=>exact hb pins s1 σ H1 Q I1 q1
 | false=>exact⟨.bl false,H1,I1,rfl,q1⟩
theorem qlt(ha:PE X a ta): PE X (.UnaryOp .Not a pos) (qo2 ta):=by
 intro pins s σ H Q I h;refine UnaryOp_ (thn (ha pins s σ H _ I h) fun v s1 ⟨x,H1,I1,r1,q1⟩=>?_);obtain⟨c,rfl,q1⟩:=q1;cases r1;exact not_of (t5 ⟨.bl (!c),H1,I1,rfl,q1⟩)
def tIf(t:TT)(ta tb:TE): TE:=fun σ H Q=>t σ H fun c H1=>if c=true then ta σ H1 Q else tb σ H1 Q
theorem qhb{c:Expr}(hc:PT X c tA)(ha:PE X a ta)(hb:PE X b tb): PE X (.IfExp c a b pos) (tIf tA ta tb):=by
 intro pins s σ H Q I h;refine wpAny_IfExp (thn (hc pins s σ H _ I h) fun d s1 ⟨H1,I1,q1⟩=>?_);cases d with
 | true=>exact ha pins s1 σ H1 Q I1 q1
 | false=>exact hb pins s1 σ H1 Q I1 q1
end
def SqL(K:PySem.W.Frag)(H:Hp)(a:Addr)(xs:List V): Prop:=
 Rd H a (.lst xs) \/
  ∃(o:Obj) (its:Array Value) (n:Nat),K.lookup a=some o/\o.cls=.type "list" /\ o.dict=none/\o.data=.seq its n/\its.size<=sizeLine/\Vals xs its.toList
def SqT(K:PySem.W.Frag)(H:Hp)(a:Addr)(xs:List V): Prop:=
 Rd H a (.tup xs) \/
  ∃(o:Obj) (its:Array Value) (n:Nat),K.lookup a=some o/\o.cls=.type "tuple" /\ o.dict=none/\o.data=.seq its n/\its.size<=sizeLine/\Vals xs its.toList
def qp5:Value->Option V
 | .none=>some .non
 | .bool b=>some (.bl b)
 | .int i _=>some (.int i)
 | .str x _=>some (.str x)
 | .bytes b _=>some (.byt b)
 | .float b _=>some (.flt b)
 | .ref a=>some (.ref a)
 | .type n=>some (.ty n)
 | _=>none
theorem RelV.abs{x:V}{u:Value}(r:RelV x u): qp5 u=some x:=by
 cases x with
 | non=>cases r;rfl
 | bl _=>cases r;rfl
 | int _=>obtain⟨t,rfl⟩:=r;rfl
 | str _=>obtain⟨t,rfl⟩:=r;rfl
 | byt _=>obtain⟨t,rfl⟩:=r;rfl
 | flt _=>obtain⟨t,rfl⟩:=r;rfl
 | ref _=>cases r;rfl
 | ty _=>cases r;rfl
theorem RelV.inj{x y:V}{u:Value}(r:RelV x u)(q:RelV y u): x=y:=mn (r.abs.symm.trans q.abs)
theorem Vals.inj:∀ {xs ys:List V} {us:List Value},Vals xs us->Vals ys us->xs=ys
 | _,_,_,.nil,.nil=>rfl
 | _,_,_,.cons r t,.cons r' t'=>by rw [r.inj r',Vals.inj t t']
section
variable{X:Cx}{pins:List (Addr×Obj)}{σ : St}{H:Hp}{s:Shared}{a:Addr}{xs ys:List V}
theorem SqL.of{K:PySem.W.Frag}(h:H a=some (.lst xs)): SqL K H a xs:=.inl (.inl h)
theorem SqT.of{K:PySem.W.Frag}(h:H a=some (.tup xs)): SqT K H a xs:=.inl (.inl h)
theorem Inv.list(I:Inv X pins σ H s)(h:SqL X.K H a xs): ∃its:List Value,Vals xs its/\PlainL s.heap a its.toArray/\xs.length<=sizeLine:=by
 rcases h with h|⟨o,its,n,hk,hc,hd,hs,hz,r⟩
 ·obtain⟨z,its,n,r,e⟩:=h.ok I.hok
  exact⟨its,r,⟨_,n,e,rfl,rfl,rfl⟩,z⟩
 ·refine⟨its.toList,r,⟨o,n,I.kIn a o hk,hc,hd,by simpa using hs⟩,?_⟩
  have e:=r.length;simp only [g17] at e;omega
theorem Inv.tupleX(I:Inv X pins σ H s)(h:SqT X.K H a xs): ∃its:List Value,Vals xs its/\TupX s.heap a its.toArray/\xs.length<=sizeLine:=by
 rcases h with h|⟨o,its,n,hk,hc,hd,hs,hz,r⟩
 ·obtain⟨z,its,r,p⟩:=h.ok I.hok
  exact⟨its,r,p,z⟩
 ·refine⟨its.toList,r,⟨o,I.kIn a o hk,hc,hd,n,by simpa using hs⟩,?_⟩
  have e:=r.length;simp only [g17] at e;omega
theorem Inv.tuple(I:Inv X pins σ H s)(h:SqT X.K H a xs): ∃its:List Value,Vals xs its/\IsTup s.heap a its.toArray/\xs.length<=sizeLine:=let⟨its,r,p,z⟩:=I.tupleX h; ⟨its,r,p.up,z⟩
theorem Inv.list_inj(I:Inv X pins σ H s)(h:SqL X.K H a xs)(h':SqL X.K H a ys): xs=ys:=by
 obtain⟨its,r,⟨o,n,e,_,_,d⟩,_⟩:=I.list h;obtain⟨its',r',⟨o',n',e',_,_,d'⟩,_⟩:=I.list h';rw [e] at e';cases e';rw [d] at d';injection d' with d1 _
 have:its=its':=by simpa using p8 Array.toList d1
 subst this;exact r.inj r'
theorem Inv.tuple_inj(I:Inv X pins σ H s)(h:SqT X.K H a xs)(h':SqT X.K H a ys): xs=ys:=by
 obtain⟨its,r,⟨o,e,_,n,d⟩,_⟩:=I.tuple h;obtain⟨its',r',⟨o',e',_,n',d'⟩,_⟩:=I.tuple h';rw [e] at e';cases e';rw [d] at d';injection d' with d1 _
 have:its=its':=by simpa using p8 Array.toList d1
 subst this;exact r.inj r'
end
abbrev Cx.wish(X:Cx)(E:Value->Shared->Prop): Cx:={X with xe:=E}
abbrev Cx.nox(X:Cx): Cx:=X.wish fun _ _=>False
theorem Cx.Ok.wish{X:Cx}(ok:X.Ok)(E:Value->Shared->Prop): (X.wish E).Ok:=
 ⟨ok.mod,ok.kind,ok.glob,ok.blt,ok.above,ok.inj,ok.has,ok.cab,ok.hd,ok.frames,ok.stk,ok.exf,ok.bs,ok.bsz,ok.noex,ok.exfs,ok.funs,ok.frf⟩
theorem Cx.Ok.unwish{X:Cx}{E:Value->Shared->Prop}(ok:(X.wish E).Ok): X.Ok:=
 ⟨ok.mod,ok.kind,ok.glob,ok.blt,ok.above,ok.inj,ok.has,ok.cab,ok.hd,ok.frames,ok.stk,ok.exf,ok.bs,ok.bsz,ok.noex,ok.exfs,ok.funs,ok.frf⟩
section
variable{X:Cx}{pins:List (Addr×Obj)}{σ : St}{H:Hp}{s:Shared}{E:Value->Shared->Prop}
theorem Inv.wish(I:Inv X pins σ H s)(E:Value->Shared->Prop): Inv (X.wish E) pins σ H s:=⟨I.ok.wish E,I.os,I.bare,I.base,I.loc,I.cell,I.free,I.freeC,I.pin,I.hok,I.len⟩
theorem Inv.unwish(I:Inv (X.wish E) pins σ H s): Inv X pins σ H s:=⟨I.ok.unwish,I.os,I.bare,I.base,I.loc,I.cell,I.free,I.freeC,I.pin,I.hok,I.len⟩
theorem SP.unwish{D:Ends}{f:Flow}{s':Shared}(h:SP (X.wish E) pins D f s'): SP X pins D f s':=by
 cases f with
 | next=>obtain⟨σ',H',I,q⟩:=h;exact⟨σ',H',I.unwish,q⟩
 | brk=>obtain⟨σ',H',I,q⟩:=h;exact⟨σ',H',I.unwish,q⟩
 | cont=>obtain⟨σ',H',I,q⟩:=h;exact⟨σ',H',I.unwish,q⟩
 | ret u=>obtain⟨v, σ',H',I,r,q⟩:=h;exact⟨v, σ',H',I.unwish,r,q⟩
theorem PT.nox{e:Expr}{t:TT}(h:PT X.nox e t): PT X e t:=fun pins s σ H Q I hw=>
 mx (h pins s σ H Q (I.wish _) hw) (fun _ _ ⟨H',I',q⟩=>⟨H',I'.unwish,q⟩) fun _ _ z=>False.elim z
theorem PSs.nox{st:List Stmt}{t:TS}(h:PSs X.nox st t): PSs X st t:=fun pins s σ H D I hw=>
 mx (h pins s σ H D (I.wish _) hw) (fun _ _ q=>q.unwish) fun _ _ z=>False.elim z
end
section
variable{X:Cx}{st:Stmt}{rest:List Stmt}{t u:TS}{e:Expr}{te:TE}{pos:Pos}
def tNext:TS:=fun D σ H=>D.nx σ H
def qp6(t u:TS): TS:=fun D σ H=>t {D with nx:=u D} σ H
theorem qjs:PSs X [] tNext:=fun _ _ σ H _ I h=>g0u ⟨σ,H,I,h⟩
theorem qah(h1:PS X st t)(h2:PSs X rest u): PSs X (st :: rest) (qp6 t u):=by
 intro pins s σ H D I h;refine t9 (thn (h1 pins s σ H {D with nx:=u D} I h) fun f s1 q=>?_);cases f with
 | next=>
  obtain⟨σ',H',I',q⟩:=q;exact h2 pins s1 σ' H' D I' q
 | ret v=>exact q
 | brk=>exact q
 | cont=>exact q
theorem q5f(h1:PS X st t): PSs X [st] t:=by
 intro pins s σ H D I h;refine t9 (thn (h1 pins s σ H D I h) fun f s1 q=>?_);cases f with
 | next=>exact g0u q
 | ret v=>exact q
 | brk=>exact q
 | cont=>exact q
theorem Inv.quiet{pins:List (Addr×Obj)}{σ : St}{H:Hp}{s:Shared}(I:Inv X pins σ H s): interactive X.env=false:=by simp [interactive,I.ok.kind]
def qo3(te:TE): TS:=fun D σ H=>te σ H fun _ H1=>D.nx σ H1
theorem q7r(he:PE X e te)(hs:swapsWith e none pos.line X.env=pure false:=by rfl): PS X (.Expr e pos) (qo3 te):=by
 intro pins s σ H D I h;exact wpAny_Expr_any (thn (he pins s σ H _ I h) fun v s1 ⟨x,H1,I1,r1,q1⟩=>⟨σ,H1,I1,q1⟩) I.quiet hs
def qp7(te:TE): TS:=fun D σ H=>te σ H D.rt
theorem qai(he:PE X e te): PS X (.Return (some e) pos) (qp7 te):=by
 intro pins s σ H D I h;exact wpAny_Return_some (thn (he pins s σ H _ I h) fun v s1 ⟨x,H1,I1,r1,q1⟩=>⟨x, σ,H1,I1,r1,q1⟩)
def qp8(c:TT)(t u:TS): TS:=fun D σ H=>c σ H fun b H1=>if b=true then t D σ H1 else u D σ H1
theorem qe3{c:Expr}{a b:List Stmt}{tc:TT}(hc:PT X c tc)(ha:PSs X a t)(hb:PSs X b u): PS X (.If c a b pos) (qp8 tc t u):=by
 intro pins s σ H D I h;refine wpAny_If (thn (hc pins s σ H _ I h) fun d s1 ⟨H1,I1,q1⟩=>?_);cases d with
 | true=>exact ha pins s1 σ H1 D I1 q1
 | false=>exact hb pins s1 σ H1 D I1 q1
end
abbrev TG:=V->St->Hp->(St->Hp->Prop)->Prop
abbrev TGs:=List V->St->Hp->(St->Hp->Prop)->Prop
def PG(X:Cx)(target:Expr)(t:TG): Prop:=
 ∀(pins:List (Addr×Obj)) (s:Shared) (σ : St) (H:Hp) (v:V) (u:Value) (Q:St->Hp->Prop),Inv X pins σ H s->RelV v u->t v σ H Q ->
  wpAny (model X.prog X.w) X.A (assign target X.env u) (fun _ s'=>∃ σ' H',Inv X pins σ' H' s'/\Q σ' H') X.xe s
def PGs(X:Cx)(ts:List Expr)(t:TGs): Prop:=
 ∀(pins:List (Addr×Obj)) (s:Shared) (σ : St) (H:Hp) (vs:List V) (us:List Value) (Q:St->Hp->Prop),Inv X pins σ H s->Vals vs us->t vs σ H Q ->
  wpAny (model X.prog X.w) X.A (assignInOrder ((assignEach ts X.env).map (·.2)) us) (fun _ s'=>∃ σ' H',Inv X pins σ' H' s'/\Q σ' H') X.xe s
abbrev TIp:=V->V->Hp->VK->Prop
def PIp(X:Cx)(op:Operator)(t:TIp): Prop:=
 ∀(pins:List (Addr×Obj)) (s:Shared) (σ : St) (H:Hp) (x y:V) (v u:Value) (Q:VK),Inv X pins σ H s->RelV x v->RelV y u->t x y H Q ->
  wpAny (model X.prog X.w) X.A (inplaceOp op v u) (EP X pins σ Q) X.xe s
section
variable{X:Cx}{pos:Pos}
def qa3(i:Nat): TG:=fun v σ H Q=>Q (σ.set i (some v)) H
theorem qjt{i:Nat}{x:Str}(hN:X.N.Nodup)(hi:X.N[i]? = some x)(hx:Loc X.env.scope x)(hf:X.fn x=true\/X.env.scope.names.lookup x=some .local:=by first|exact .inl rfl|exact .inr rfl|assumption): PG X (.Name x pos) (qa3 i):=by
 intro pins s σ H v u Q I r h;exact wpAny_assign_Name (q3m I hN hi hx r (fun s' I'=>⟨_,H,I',h⟩) hf)
def gNil:TGs:=fun vs σ H Q=>vs=[]/\Q σ H
def qo4(t:TG)(u:TGs): TGs:=fun vs σ H Q=>∃v r,vs=v :: r/\t v σ H fun σ' H'=>u r σ' H' Q
theorem qju:PGs X [] gNil:=by
 intro pins s σ H vs us Q I r h;obtain⟨e,h⟩:=h;subst e;cases r;exact assignInOrder_nil ⟨σ,H,I,h⟩
theorem qhc{e:Expr}{es:List Expr}{t:TG}{u:TGs}(h1:PG X e t)(h2:PGs X es u)
  (hs:(assignEach (e :: es) X.env).map (·.2)=assign e X.env :: (assignEach es X.env).map (·.2):=by rfl):PGs X (e :: es) (qo4 t u):=by
 intro pins s σ H vs us Q I r h;obtain⟨v,vr,e1,h⟩:=h;subst e1;cases r with
 | cons r rr=>
  rw [hs];refine assignInOrder_cons (thn (h1 pins s σ H _ _ _ I r h) fun _ s1 ⟨σ1,H1,I1,q1⟩=>?_);exact h2 pins s1 σ1 H1 _ _ Q I1 rr q1
def qp9(K:PySem.W.Frag)(n:Nat)(t:TGs): TG:=fun v σ H Q=>∃a xs,v=.ref a/\SqT K H a xs/\xs.length=n/\t xs σ H Q
theorem qlu{es:List Expr}{k:Nat}{t:TGs}{n:Nat}(hc:X.calm=true)(h:PGs X es t)
  (hn:(assignEach es X.env).length=n:=by rfl) (hst:(assignEach es X.env).findIdx? (·.1)=none:=by rfl):PG X (.Tuple es k pos) (qp9 X.K n t):=by
 intro pins s σ H v u Q I r hw;obtain⟨a,xs,e1,hq,hl,hw⟩:=hw;subst e1;cases r;obtain⟨its,rv,ht,hz⟩:=I.tuple hq;refine assign_Tuple_tuple (I.ok.hd hc) ht (by simp [hn, <- hl,rv.length]) hst fun h' hx=>?_;have I1:Inv X pins σ H {s with heap:=h'}:=I.kept (t':=s.toks) fun b o e=>hx b o (ma (gs e)) e;exact h pins _ σ H xs _ Q I1 (by simpa using rv) hw
def qlv(te:TE)(g:TG): TS:=fun D σ H=>te σ H fun x H1=>g x σ H1 D.nx
theorem qlw{tg e:Expr}{te:TE}{g:TG}(he:PE X e te)(hg:PG X tg g)(hs:swapsWithSole [tg] e pos.line X.env=pure false:=by rfl)(hw:swappedStores [tg] e X.env=pure none:=by rfl)
  (h1:(assignEach [tg] X.env).map (·.2)=[assign tg X.env]:=by rfl):PS X (.Assign [tg] e pos) (qlv te g):=by
 intro pins s σ H D I h;refine wpAny_Assign_stores (thn (he pins s σ H _ I h) fun v s1 ⟨x,H1,I1,r1,q1⟩=>?_) hs hw;rw [h1];exact thn (hg pins s1 σ H1 x v _ I1 r1 q1) fun _ s2 q=>q
theorem q6u{i:Nat}{x:Str}{e:Expr}{te:TE}{pos':Pos}(hN:X.N.Nodup)(hi:X.N[i]? = some x)(hx:Loc X.env.scope x)(he:PE X e te)(hs:swapsWith e (some (.Name x pos')) pos.line X.env=pure false:=by rfl)(hf:X.fn x=true\/X.env.scope.names.lookup x=some .local:=by first|exact .inl rfl|exact .inr rfl|assumption):
  PS X (.Assign [.Name x pos'] e pos) (qlv te (qa3 i)):=by
 intro pins s σ H D I h;refine wpAny_Assign_Name (thn (he pins s σ H _ I h) fun v s1 ⟨y,H1,I1,r1,q1⟩=>?_) hs;exact q3m I1 hN hi hx r1 (fun s2 I2=>⟨_,H1,I2,q1⟩) hf
def qlx(i:Nat)(te:TE)(ti:TIp): TS:=fun D σ H=>∃x, σ[i]? = some (some x)/\te σ H fun y H1=>ti x y H1 fun z H2=>D.nx (σ.set i (some z)) H2
theorem qly{i:Nat}{x:Str}{e:Expr}{te:TE}{op:Operator}{ti:TIp}{pos':Pos}(hN:X.N.Nodup)(hi:X.N[i]? = some x)(hx:Loc X.env.scope x)(he:PE X e te)(ho:PIp X op ti)(hf:X.fn x=true\/X.env.scope.names.lookup x=some .local:=by first|exact .inl rfl|exact .inr rfl|assumption):
  PS X (.AugAssign (.Name x pos') op e pos) (qlx i te ti):=by
 intro pins s σ H D I h;obtain⟨v,e1,h⟩:=h;obtain⟨m,hn,hl⟩:=I.loc;have vis:Vis X.env.scope x:=by rcases hx with k|k;exact .inl k;exact .inr (.inl k)
 obtain⟨u,r,l⟩:=hl i x v hi e1 vis;refine wpAny_AugAssign_Name ?_;have go:wpAny (model X.prog X.w) X.A (eval e X.env) (fun w s₂=>wpAny (model X.prog X.w) X.A (inplaceOp op u w) (fun r s₃=>wpAny (model X.prog X.w) X.A (storeName X.env x r) (fun _=>SP X pins D .next) X.xe s₃) X.xe s₂) X.xe s:=by
  refine thn (he pins s σ H _ I h) fun w s1 ⟨y,H1,I1,r1,q1⟩=>?_;refine thn (ho pins s1 σ H1 v y u w _ I1 r r1 q1) fun z s2 ⟨zv,H2,I2,r2,q2⟩=>?_;exact q3m I2 hN hi hx r2 (fun s3 I3=>⟨_,H2,I3,q2⟩) hf
 rcases l with⟨hk,hm⟩|⟨hk,c,hc,hcell⟩
 ·exact wpAny_loadName_local I.ok.kind hk hn hm go
 ·rcases hk with hk|hk
  ·exact wpAny_loadName_cell I.ok.kind hk hc hcell go
  ·rcases hx with k|k
   ·have:X.env.scope.names.lookup x=some .free:=hk
    rw [k] at this;cases this
   ·have:X.env.scope.names.lookup x=some .free:=hk
    rw [k] at this;cases this
def ipI(f:Int->Int->Int): TIp:=fun x y H Q=>∃i j,x=.int i/\y=.int j/\Q (.int (f i j)) H
theorem qlz:PIp X .Sub (ipI fun i j=>i-j):=by
 intro pins s σ H x y v u Q I r1 r2 h;obtain⟨i,j,e1,e2,q⟩:=h;subst e1;subst e2;obtain⟨t,rfl⟩:=r1;obtain⟨t',rfl⟩:=r2;exact isub_int ⟨.int _,H,I.tok _,⟨_,rfl⟩,q⟩
end
section
variable{X:Cx}{pos:Pos}
end
structure It where
 go:Nat->Hp->Prop
 yld:Nat->Hp->V->Hp->Prop
 stop:Nat->Hp->Prop
def v9(X:Cx)(pins:List (Addr×Obj))(H:Hp)(b:Addr): Prop:=
 H b=none/\b≠X.env.locals/\b∉X.fs/\(b∈X.ex\/X.s₀.heap.objs.size<=b)/\(∀x c,X.env.cells.lookup x=some c->c≠b)/\∀p∈X.pn++pins,p.1≠b
theorem Inv.fpOk{X:Cx}{pins:List (Addr×Obj)}{σ : St}{H H':Hp}{s:Shared}{b:Addr}(I:Inv X pins σ H s)(hb:s.heap.objs.size<=b)(hn:H' b=none): v9 X pins H' b:=by
 refine⟨hn,td (gy I.lt hb),I.nofs hb,.inr (md I.sz hb),fun x c e z=>?_,fun p hp z=>?_⟩
 ·obtain⟨v,q⟩:=I.cell x c e
  exact absurd (gy q.lt (by rw [z];exact hb)) (ny _)
 ·exact absurd (gy (gs (I.pin p hp).1) (by rw [z];exact hb)) (ny _)
structure Turn(P:Program)(w:World)(K:PySem.W.Frag)(tg:Expr)(J:It)(fp:List Addr)(it:Addr)(tn:Nat->Heap->Prop): Prop where
 mem:it∈fp
 obj:∀i h,tn i h->∀b∈fp,∃o,h.get? b=some o/\∀v,o.data ≠ .cell v
 keep:∀i h h',tn i h->(∀b∈fp,∀o,h.get? b=some o->h'.get? b=some o)->tn i h'
 item:∀(X:Cx),X.prog=P->X.w=w->X.K=K->X.calm=true->∀(i:Nat) (pins:List (Addr×Obj)) (s:Shared) (σ : St) (H:Hp) (E:Value->Shared->Prop),Inv X pins σ H s->(∀b∈fp,v9 X pins H b)->tn i s.heap->J.go i H ->
  wpAny (model P w) X.A (pyNext (.ref it)) (fun r s1=>∃u,r=some u /\
   wpAny (model P w) X.A (letOwnedTupleGo tg (.ref it) u) (fun _ s2=>∃x H',Inv X pins σ H' s2/\RelV x u/\J.yld i H x H'/\tn (i+1) s2.heap/\∀b∈fp,H' b=none) E s1) E s
 done:∀(X:Cx),X.prog=P->X.w=w->X.K=K->X.calm=true->∀(i:Nat) (pins:List (Addr×Obj)) (s:Shared) (σ : St) (H:Hp) (E:Value->Shared->Prop),Inv X pins σ H s->(∀b∈fp,v9 X pins H b)->tn i s.heap->J.stop i H ->
  wpAny (model P w) X.A (pyNext (.ref it)) (fun r s1=>r=none/\Inv X pins σ H s1) E s
 self:∀(A:Around) (i:Nat) (s:Shared) (Q:Value->Shared->Prop) (E:Value->Shared->Prop),tn i s.heap->Q (.ref it) s->wpAny (model P w) A (pyIter (.ref it)) Q E s
abbrev TI:=St->Hp->(It->Hp->Prop)->Prop
def PIE(X:Cx)(pins:List (Addr×Obj))(σ : St)(tg:Expr)(R:It->Hp->Prop)(itv:Value)(s2:Shared): Prop:=
 ∃(it:Addr) (fp:List Addr) (tn:Nat->Heap->Prop) (J:It) (H':Hp),itv=.ref it/\Inv X pins σ H' s2/\Turn X.prog X.w X.K tg J fp it tn/\tn 0 s2.heap/\(∀b∈fp,v9 X pins H' b)/\R J H'
def PI(X:Cx)(tg iter:Expr)(wi:TI): Prop:=
 ∀(pins:List (Addr×Obj)) (s:Shared) (σ : St) (H:Hp) (R:It->Hp->Prop),Inv X pins σ H s->wi σ H R ->
  wpAny (model X.prog X.w) X.A (eval iter X.env) (fun v s1=>wpAny (model X.prog X.w) X.A (pyIter v) (PIE X pins σ tg R) X.xe s1) X.xe s
theorem qe4{M:Model}{A:Around}{E:Value->Shared->Prop}{s:Shared}{tg:Expr}{it:Addr}{u:Value}{o:Obj}{n:String}{vs:Array Value}{Q:Unit->Shared->Prop}(ho:s.heap.get? it=some o)(hc:o.cls=.type n)(hd:o.data=.fields vs)
  (hn:["enumerate","zip","dict_itemiterator","dict_reverseitemiterator","odict_iterator","itertools.zip_longest","itertools.pairwise"].contains n=false) (hQ:Q () s):wpAny M A (letOwnedTupleGo tg (.ref it) u) Q E s:=by
 unfold letOwnedTupleGo;cases tg <;> first
  | exact gi hQ
  | (cases u <;> first
    | exact gi hQ
    | (refine g6 (wpAny_load ho ?_);rw [hc,hd];show wpAny M A (if(["enumerate","zip","dict_itemiterator","dict_reverseitemiterator","odict_iterator","itertools.zip_longest","itertools.pairwise"].contains n&&vs[0]? == some (rawInt _))=true then _ else _) Q E s;rw [m4 (by intro h;rw [hn,Bool.false_and] at h;cases h)];exact gi hQ))
def Itl(K:PySem.W.Frag)(a:Addr): It:=
 ⟨fun i H=>∃xs x,SqL K H a xs/\xs[i]? = some x,fun i H x H'=>H'=H/\∀xs,SqL K H a xs->xs[i]? = some x,fun i H=>∃xs,SqL K H a xs/\xs.length<=i⟩
def Itt(K:PySem.W.Frag)(a:Addr): It:=
 ⟨fun i H=>∃xs x,SqT K H a xs/\xs[i]? = some x,fun i H x H'=>H'=H/\∀xs,SqT K H a xs->xs[i]? = some x,fun i H=>∃xs,SqT K H a xs/\xs.length<=i⟩
def Itr(lo:Int)(n:Nat): It:=⟨fun i _=>i<n,fun i H x H'=>H'=H/\x=.int (lo+i),fun i _=>n<=i⟩
theorem qfd{P:Program}{w:World}{K:PySem.W.Frag}{tg:Expr}(a it:Addr): Turn P w K tg (Itl K a) [it] it (fun i h=>h.IsListIter it a i) where
 mem:=by simp
 obj:=fun i h st b hb=>by
  have e:b=it:=by simpa using hb
  subst e;obtain⟨o,e,c,d⟩:=st;exact⟨o,e,fun v z=>by rw [d] at z;cases z⟩
 keep:=fun i h h' st k=>st.at fun o e=>k it (by simp) o e
 item:=by
  intro X hP hw hK hc i pins s σ H E I hf st hg;subst hP hw hK;obtain⟨xs,x,hq,hx⟩:=hg;obtain⟨its,rv,p,hz⟩:=I.list hq;obtain⟨u,hu,ru⟩:=rv.get hx;obtain⟨f0,f1,f2,f3,f4,f5⟩:=hf it (by simp);refine wpAny_pyNext_list_item st p.isList (x:=u) (by simpa using hu) fun h' st' sb=>?_;have I1:Inv X pins σ H {s with heap:=h'}:=I.turned (t':=s.toks) (fun b o hb e=>(sb.2 b hb).trans e) f0 f1 f3 f4 f5;obtain⟨o,e,c,d⟩:=id st';exact⟨u,rfl,qe4 (s:={s with heap:=h'}) e c d (by decide) ⟨x,H,I1,ru,⟨rfl,fun ys hy=>by rw [I.list_inj hy hq];exact hx⟩,st',fun b hb=>(hf b hb).1⟩⟩
 done:=by
  intro X hP hw hK hc i pins s σ H E I hf st hg;subst hP hw hK;obtain⟨xs,hq,hx⟩:=hg;obtain⟨its,rv,p,hz⟩:=I.list hq;obtain⟨f0,f1,f2,f3,f4,f5⟩:=hf it (by simp);have hl:=rv.length;exact wpAny_pyNext_list_end (I.ok.hd hc) st p.isList (by simp;omega) fun h' eb=>⟨rfl,I.turned (t':=s.toks) (fun b o hb e=>eb b o hb e) f0 f1 f3 f4 f5⟩
 self:=fun _ _ _ _ _ st h=>wpAny_pyIter_listiter st h
theorem qe5{P:Program}{w:World}{K:PySem.W.Frag}{tg:Expr}(a it:Addr): Turn P w K tg (Itt K a) [it] it (fun i h=>h.IsTupleIter it a i) where
 mem:=by simp
 obj:=fun i h st b hb=>by
  have e:b=it:=by simpa using hb
  subst e;obtain⟨o,e,c,d⟩:=st;exact⟨o,e,fun v z=>by rw [d] at z;cases z⟩
 keep:=fun i h h' st k=>st.at fun o e=>k it (by simp) o e
 item:=by
  intro X hP hw hK hc i pins s σ H E I hf st hg;subst hP hw hK;obtain⟨xs,x,hq,hx⟩:=hg;obtain⟨its,rv,p,hz⟩:=I.tuple hq;obtain⟨u,hu,ru⟩:=rv.get hx;obtain⟨f0,f1,f2,f3,f4,f5⟩:=hf it (by simp);refine wpAny_pyNext_tuple_item st (show s.heap.IsTuple a its.toArray from p) (x:=u) (by simpa using hu) fun h' st' sb=>?_;have I1:Inv X pins σ H {s with heap:=h'}:=I.turned (t':=s.toks) (fun b o hb e=>(sb.2 b hb).trans e) f0 f1 f3 f4 f5;obtain⟨o,e,c,d⟩:=id st';exact⟨u,rfl,qe4 (s:={s with heap:=h'}) e c d (by decide) ⟨x,H,I1,ru,⟨rfl,fun ys hy=>by rw [I.tuple_inj hy hq];exact hx⟩,st',fun b hb=>(hf b hb).1⟩⟩
 done:=by
  intro X hP hw hK hc i pins s σ H E I hf st hg;subst hP hw hK;obtain⟨xs,hq,hx⟩:=hg;obtain⟨its,rv,p,hz⟩:=I.tuple hq;obtain⟨f0,f1,f2,f3,f4,f5⟩:=hf it (by simp);have hl:=rv.length;exact wpAny_pyNext_tuple_end (I.ok.hd hc) st (show s.heap.IsTuple a its.toArray from p) (by simp;omega) fun h' eb=>⟨rfl,I.turned (t':=s.toks) (fun b o hb e=>eb b o hb e) f0 f1 f3 f4 f5⟩
 self:=fun _ _ _ _ _ st h=>wpAny_pyIter_tupleiter st h
theorem qe6{P:Program}{w:World}{K:PySem.W.Frag}{tg:Expr}(it:Addr)(lo:Int)(n:Nat): Turn P w K tg (Itr lo n) [it] it (fun i h=>IsRangeIter h it (lo+(i:Nat)*1) ((n:Int)-(i:Nat)) 1) where
 mem:=by simp
 obj:=fun i h st b hb=>by
  have e:b=it:=by simpa using hb
  subst e;exact⟨_,st,fun v z=>by
   have z':Data.fields _=Data.cell v:=z;cases z'⟩
 keep:=fun i h h' st k=>k it (by simp) _ st
 item:=by
  intro X hP hw hK hc i pins s σ H E I hf st hg;subst hP hw hK;obtain⟨f0,f1,f2,f3,f4,f5⟩:=hf it (by simp);have W:=Walks.range (prog:=X.prog) (w:=X.w) (I.ok.hd hc) it lo 1 n;refine W.item i s _ _ hg st fun v h' tk hv st' kk=>?_;obtain⟨t,rfl⟩:=hv;have I1:Inv X pins σ H {s with heap:=h',toks:=tk}:=I.turned (fun b o hb e=>kk b o (by simpa using hb) e) f0 f1 f3 f4 f5;refine⟨_,rfl,qe4 (s:={s with heap:=h',toks:=tk}) (n:="range_iterator") st' rfl rfl (by decide) ⟨.int (lo+i),H,I1,⟨t,?_⟩,⟨rfl,rfl⟩,st',fun b hb=>(hf b hb).1⟩⟩;rw [Int.mul_one]
 done:=by
  intro X hP hw hK hc i pins s σ H E I hf st hg;subst hP hw hK;obtain⟨f0,f1,f2,f3,f4,f5⟩:=hf it (by simp);exact wpAny_pyNext_range_end (I.ok.hd hc) st (by have:n<=i:=hg;omega) fun h' eb=>⟨rfl,I.turned (t':=s.toks) (fun b o hb e=>eb b o hb e) f0 f1 f3 f4 f5⟩
 self:=fun _ _ _ _ _ st h=>wpAny_pyIter_rangeiter st h
section
variable{X:Cx}{tg:Expr}
theorem qhd{pins:List (Addr×Obj)}{σ : St}{H:Hp}{s:Shared}{R:It->Hp->Prop}{E:Value->Shared->Prop}{lo hi:Int}{t u v:Tok}{tk:Nat}(I:Inv X pins σ H s)(h1 : -(2 ^ 62)<=lo)(h2:lo<2 ^ 62)(h3 : -(2 ^ 62)<=hi)(h4:hi<2 ^ 62)
  (q:R (Itr lo (hi-lo).toNat) H):wpAny (model X.prog X.w) X.A (pyIter (.ref s.heap.objs.size)) (PIE X pins σ tg R) E {s with heap:=s.heap.push {cls:=.type "range",data:=.fields #[.int lo t,.int hi u,.int 1 v]},toks:=tk}:=by
 refine wpAny_pyIter_range (IsRange.new ..) (small_one h1 h2 h3 h4) ?_;have I1:Inv X pins σ H {s with heap:=s.heap.push {cls:=.type "range",data:=.fields #[.int lo t,.int hi u,.int 1 v]},toks:=tk}:=I.kept fun b o e=>gh _ e;refine⟨(s.heap.push {cls:=.type "range",data:=.fields #[.int lo t,.int hi u,.int 1 v]}).objs.size,[(s.heap.push {cls:=.type "range",data:=.fields #[.int lo t,.int hi u,.int 1 v]}).objs.size],_,_,H,rfl,
  I1.kept (t':=tk) fun b o e=>gh _ e,qe6 _ lo (hi-lo).toNat,?_,fun b hb=>?_,q⟩
 ·have e1:lo+((0:Nat):Int)*1=lo:=by simp
  have e2:(((hi-lo).toNat:Nat):Int)-((0:Nat):Int)=Builtin.Range.rangeSize lo hi 1:=by rw [rangeSize_one];split <;> omega
  show IsRangeIter _ _ (lo+((0:Nat):Int)*1) ((((hi-lo).toNat:Nat):Int)-((0:Nat):Int)) 1;rw [e1,e2];exact m3 _ rfl
 ·have e:b=(s.heap.push {cls:=.type "range",data:=.fields #[.int lo t,.int hi u,.int 1 v]}).objs.size:=by simpa using hb
  subst e;exact I1.fpOk (gv _) (I1.hok.fresh (gv _))
def qo5(ta:TA): TI:=fun σ H R=>ta σ H fun vs H1=>∃j:Int,vs=[.int j] /\ -(2 ^ 62)<=j/\j<2 ^ 62/\R (Itr 0 j.toNat) H1
theorem qfe{a:Expr}{ta:TA}{p pos:Pos}(hg:Gl X "range")(hm:X.mg "range" = none)(ha:PA X [a] ta)(hs:starEach [a] X.env=[(false,eval a X.env)]:=by rfl): PI X tg (.Call (.Name "range" p) [a] [] pos) (qo5 ta):=by
 intro pins s σ H R I h;refine Call_ (q4e I hg hm boot_range (g02 (thn (ha pos pins s σ H _ I h) fun us s1 ⟨vs,H1,I1,r1,q1⟩=>?_) hs rfl));obtain⟨j,e,q1,q2,q⟩:=q1;subst e;cases r1 with
 | cons r rr=>
  cases rr;obtain⟨t,rfl⟩:=r;exact call_range_1 (qhd I1 (by omega) (by omega) q1 q2 (by simpa using q))
def qpa(wi:TI)(g:TG)(tb:TS): TS:=fun D σ H=>wi σ H fun J H1=>∃W:Nat->Nat->St->Hp->Prop,(∃m,W 0 m σ H1)/\∀i m σ H,W i m σ H ->
 (J.stop i H/\D.nx σ H)\/(J.go i H/\∃N:St->Hp->Prop,(∀ σ' H',N σ' H'->∃m',m'<m/\W (i+1) m' σ' H')/\∀x H',J.yld i H x H'->g x σ H' fun σ2 H2=>tb {D with nx:=N,ct:=N,bk:=D.nx} σ2 H2)
def q0y(fp:List Addr)(h:Heap): List (Addr×Obj):=fp.filterMap fun b=>(h.get? b).map fun o=>(b,o)
theorem ke{fp:List Addr}{h:Heap}{b:Addr}{o:Obj}(hb:b∈fp)(e:h.get? b=some o): (b,o)∈q0y fp h:=g1g.mpr ⟨b,hb,by rw [e];rfl⟩
theorem qff{fp:List Addr}{h:Heap}{p:Addr×Obj}(hp:p∈q0y fp h): p.1∈fp/\h.get? p.1=some p.2:=by
 obtain⟨b,hb,e⟩:=g1g.mp hp;cases q:h.get? b with
 | none=>rw [q] at e;cases e
 | some o=>
  rw [q] at e;have e':(b,o)=p:=mn e;subst e';exact⟨hb,q⟩
theorem Inv.pinned{pins:List (Addr×Obj)}{σ : St}{H:Hp}{s:Shared}{fp:List Addr}(I:Inv X pins σ H s)(hf:∀b∈fp,v9 X pins H b)(ho:∀b∈fp,∃o,s.heap.get? b=some o/\∀v,o.data ≠ .cell v): Inv X (pins++q0y fp s.heap) σ H s:=
 I.pins_of fun p hp=>(g07.mp hp).elim (fun z=>I.pin p (mh _ z)) fun z=>by
  obtain⟨hb,e⟩:=qff z;obtain⟨f0,f1,f2,_⟩:=hf p.1 hb;obtain⟨o,e',d⟩:=ho p.1 hb;rw [e] at e';cases e';exact⟨e,f0,f1,f2,d⟩
theorem Inv.unpinned{pins pl:List (Addr×Obj)}{σ : St}{H:Hp}{s:Shared}(I:Inv X (pins++pl) σ H s): Inv X pins σ H s:=I.pins_of fun p hp=>I.pin p (mh _ (g0t _ hp))
theorem qm0{iter:Expr}{body:List Stmt}{wi:TI}{g:TG}{tb:TS}{pos:Pos}(hp:PassesOwn (model X.prog X.w) X.A X.env X.xe)(hc:X.calm=true)(hi:PI X tg iter wi)(hg:PG X tg g)(hb:PSs X body tb)
  (hs:∀x,foldedSetIterable iter X.env x=pure x:=by intro _;rfl):PS X (.For tg iter body [] pos) (qpa wi g tb):=by
 intro pins s σ H D I h;refine wpAny_For (thn (hi pins s σ H _ I h) fun v s1 h1=>thn h1 fun itv s2 h2=>?_) hs;obtain⟨it,fp,tn,J,H2,e,I2,T,st2,f2,W,⟨m0,w0⟩,turn⟩:=h2;subst e
 -- what stays true of the iterator's objects through the loop
 have stat:∀ {H':Hp},(∀b∈fp,H' b=none)->∀b∈fp,v9 X pins H' b:=fun hn b hb=>⟨hn b hb,(f2 b hb).2⟩
 refine codeAny_forLoop_any (fun n s'=>∃i σ' H',Inv X pins σ' H' s'/\tn i s'.heap/\(∀b∈fp,H' b=none)/\W i n σ' H') ?_ m0 ⟨0, σ,H2,I2,st2,fun b hb=>(f2 b hb).1,w0⟩
 rintro n s3 ⟨i, σ3,H3,I3,st3,fr3,w3⟩
 rcases turn i n σ3 H3 w3 with⟨stop,qn⟩|⟨go,N,hN,step⟩
 ·refine g08 hp (thn (T.done X rfl rfl rfl hc i pins s3 σ3 H3 X.xe I3 (stat fr3) st3 stop) fun r s4 ⟨hr,I4⟩=>?_)
  subst hr;exact g0u ⟨σ3,H3,I4,qn⟩
 ·refine g08 hp (thn (T.item X rfl rfl rfl hc i pins s3 σ3 H3 X.xe I3 (stat fr3) st3 go) fun r s4 ⟨u,hr,h4⟩=>?_)
  subst hr;refine g08 hp (thn h4 fun _ s5 ⟨x,H5,I5,r5,y5,st5,fr5⟩=>?_);have I5':=I5.pinned (stat fr5) (T.obj _ _ st5);refine g08 hp (thn (hg _ s5 σ3 H5 x u _ I5' r5 (step x H5 y5)) fun _ s6 ⟨σ6,H6,I6,q6⟩=>?_);refine g08 hp (thn (hb _ s6 σ6 H6 _ I6 q6) fun f s7 q7=>?_);have again:∀ {σ7:St} {H7:Hp},Inv X (pins++q0y fp s5.heap) σ7 H7 s7->N σ7 H7->∃m,m<n/\∃i σ' H',Inv X pins σ' H' s7/\tn i s7.heap/\(∀b∈fp,H' b=none)/\W i m σ' H':=fun {σ7 H7} I7 n7=>by
   obtain⟨m',hm,w7⟩:=hN σ7 H7 n7;refine⟨m',hm,i+1, σ7,H7,I7.unpinned,T.keep _ _ _ st5 fun b hb o e=>(I7.pin (b,o) (mh _ (mh _ (ke hb e)))).1,fun b hb=>?_,w7⟩;obtain⟨o,e,d⟩:=T.obj _ _ st5 b hb;exact(I7.pin (b,o) (mh _ (mh _ (ke hb e)))).2.1
  cases f with
  | next=>obtain⟨σ7,H7,I7,n7⟩:=q7;exact again I7 n7
  | cont=>obtain⟨σ7,H7,I7,n7⟩:=q7;exact again I7 n7
  | brk=>obtain⟨σ7,H7,I7,q7⟩:=q7;exact⟨σ7,H7,I7.unpinned,q7⟩
  | ret v=>obtain⟨x7, σ7,H7,I7,r7,q7⟩:=q7;exact⟨x7, σ7,H7,I7.unpinned,r7,q7⟩
end
abbrev R2:=V->V->Hp->VK->Prop
def OpR(X:Cx)(f:Value->Value->Sem Value)(r:R2): Prop:=
 ∀(pins:List (Addr×Obj)) (s:Shared) (σ : St) (H:Hp) (x y:V) (v u:Value) (Q:VK),Inv X pins σ H s->RelV x v->RelV y u->r x y H Q ->
  wpAny (model X.prog X.w) X.A (f v u) (EP X pins σ Q) X.xe s
def jw(X:Cx)(f:Value)(r:List V->Hp->VK->Prop): Prop:=
 ∀(pins:List (Addr×Obj)) (s:Shared) (σ : St) (H:Hp) (xs:List V) (us:List Value) (Q:VK),Inv X pins σ H s->Vals xs us->r xs H Q ->
  wpAny (model X.prog X.w) X.A (call f us) (EP X pins σ Q) X.xe s
def qpb(X:Cx)(r:V->Hp->(Bool->Hp->Prop)->Prop): Prop:=
 ∀(pins:List (Addr×Obj)) (s:Shared) (σ : St) (H:Hp) (x:V) (v:Value) (Q:Bool->Hp->Prop),Inv X pins σ H s->RelV x v->r x H Q ->
  wpAny (model X.prog X.w) X.A (truthy v) (TP X pins σ Q) X.xe s
def tOp(r:R2)(ta tb:TE): TE:=fun σ H Q=>ta σ H fun x H1=>tb σ H1 fun y H2=>r x y H2 Q
def rI(C:Int->Int->Prop)(g:Int->Int->V): R2:=fun x y H Q=>∃i j,x=.int i/\y=.int j/\C i j/\Q (g i j) H
def rI0(g:Int->Int->V): R2:=fun x y H Q=>∃i j,x=.int i/\y=.int j/\Q (g i j) H
section
variable{X:Cx}{a b c:Expr}{ta tb tc:TE}{pos:Pos}
theorem qhe(ha:PE X a ta)(hb:PE X b tb){pins:List (Addr×Obj)}{s:Shared}{σ : St}{H:Hp}{R:V->V->Hp->Prop}(I:Inv X pins σ H s)
  (h:ta σ H fun x H1=>tb σ H1 fun y H2=>R x y H2) {Q:Value->Shared->Prop} {f:Value->Value->Sem Value}
  (hf:∀v u s2 x y H2,Inv X pins σ H2 s2->RelV x v->RelV y u->R x y H2->wpAny (model X.prog X.w) X.A (f v u) Q X.xe s2) :
  wpAny (model X.prog X.w) X.A (eval a X.env) (fun v s₁=>wpAny (model X.prog X.w) X.A (eval b X.env) (fun u s₂=>wpAny (model X.prog X.w) X.A (f v u) Q X.xe s₂) X.xe s₁) X.xe s:=by
 refine thn (ha pins s σ H _ I h) fun v s1 ⟨x,H1,I1,r1,q1⟩=>?_;refine thn (hb pins s1 σ H1 _ I1 q1) fun u s2 ⟨y,H2,I2,r2,q2⟩=>?_;exact hf v u s2 x y H2 I2 r1 r2 q2
theorem qo6{op:Operator}{r:R2}(ho:OpR X (binaryOp op) r)(ha:PE X a ta)(hb:PE X b tb): PE X (.BinOp a op b pos) (tOp r ta tb):=by
 intro pins s σ H Q I h;exact wpAny_BinOp (qhe ha hb I h fun v u s2 x y H2 I2 rx ry q=>ho pins s2 σ H2 x y v u Q I2 rx ry q)
theorem opI{f:Value->Value->Sem Value}{C:Int->Int->Prop}{g:Int->Int->Int}
  (rule:∀(i j:Int) (t u:Tok) (s:Shared) (Q:Value->Shared->Prop) (E:Value->Shared->Prop),C i j->Q (.int (g i j) s.toks) {s with toks:=s.toks+1}->wpAny (model X.prog X.w) X.A (f (.int i t) (.int j u)) Q E s) :
  OpR X f (rI C fun i j=>.int (g i j)):=by
 intro pins s σ H x y v u Q I rx ry h;obtain⟨i,j,rfl,rfl,hc,q⟩:=h;obtain⟨t,rfl⟩:=rx;obtain⟨t',rfl⟩:=ry;exact rule i j t t' s _ _ hc ⟨.int (g i j),H,I.tok _,⟨_,rfl⟩,q⟩
theorem qm1{f:Value->Value->Sem Value}{g:Int->Int->Int}
  (rule:∀(i j:Int) (t u:Tok) (s:Shared) (Q:Value->Shared->Prop) (E:Value->Shared->Prop),Q (.int (g i j) s.toks) {s with toks:=s.toks+1}->wpAny (model X.prog X.w) X.A (f (.int i t) (.int j u)) Q E s) :
  OpR X f (rI0 fun i j=>.int (g i j)):=by
 intro pins s σ H x y v u Q I rx ry h;obtain⟨i,j,rfl,rfl,q⟩:=h;obtain⟨t,rfl⟩:=rx;obtain⟨t',rfl⟩:=ry;exact rule i j t t' s _ _ ⟨.int (g i j),H,I.tok _,⟨_,rfl⟩,q⟩
theorem qe7{f:Value->Value->Sem Value}{g:Int->Int->Bool}
  (rule:∀(i j:Int) (t u:Tok) (s:Shared) (Q:Value->Shared->Prop) (E:Value->Shared->Prop),Q (.bool (g i j)) s->wpAny (model X.prog X.w) X.A (f (.int i t) (.int j u)) Q E s) :
  OpR X f (rI0 fun i j=>.bl (g i j)):=by
 intro pins s σ H x y v u Q I rx ry h;obtain⟨i,j,rfl,rfl,q⟩:=h;obtain⟨t,rfl⟩:=rx;obtain⟨t',rfl⟩:=ry;exact rule i j t t' s _ _ ⟨.bl (g i j),H,I,rfl,q⟩
def qpc(i j:Int): Prop:=0<j/\j<1073741824
def qpd(i j:Int): Prop:=0<=j/\j<=1000000/\i.natAbs<2 ^ 64
def CMul(i j:Int): Prop:=(-(2 ^ 64)<i/\i<2 ^ 64)\/(-(2 ^ 64)<j/\j<2 ^ 64)
theorem CMul.ok{i j:Int}(h:CMul i j): IntMulOk i j:=by
 rcases h with⟨h1,h2⟩|⟨h1,h2⟩
 ·exact .of_left (intBits_le_64 h1 h2)
 ·exact .of_right (intBits_le_64 h1 h2)
theorem qm2:OpR X (binaryOp .Add) (rI0 fun i j=>.int (i+j)):=qm1 fun _ _ _ _ _ _ _ q=>add_int q
theorem qm3:OpR X (binaryOp .Sub) (rI0 fun i j=>.int (i-j)):=qm1 fun _ _ _ _ _ _ _ q=>sub_int q
theorem qm4:OpR X (binaryOp .Mult) (rI CMul fun i j=>.int (i*j)):=opI fun _ _ _ _ _ _ _ hc q=>mul_int q hc.ok
theorem qjv:OpR X (binaryOp .FloorDiv) (rI qpc fun i j=>.int (i / j)):=opI fun i j _ _ _ _ _ hc q=>by
 have h1:(0:Int)<j:=hc.1;have h2:j<1073741824:=hc.2;exact floordiv_int (by omega) (by rw [g1m i (by omega)];exact q) (.inl (PyProof.noPylong_small (by omega)))
theorem qm5:OpR X (binaryOp .Mod) (rI (fun _ j=>0<j) fun i j=>.int (i%j)):=opI fun i j _ _ _ _ _ hc q=>by
 have h1:(0:Int)<j:=hc;exact mod_int' (by omega) (by rw [Int.fmod_eq_emod_of_nonneg i (by omega)];exact q)
theorem qm6:OpR X (binaryOp .Pow) (rI qpd fun i j=>.int (i ^ j.toNat)):=opI fun _ _ _ _ _ _ _ hc q=>pow_int_small hc.1 hc.2.1 hc.2.2 q
end
def q7s:V->V->Bool
 | .non,.non=>true | .non,.int _=>true | .int _,.non=>true | .non,.bl _=>true | .bl _,.non=>true | .non,.str _=>true | .str _,.non=>true
 | .int _,.int _=>true | .bl _,.bl _=>true | .str _,.str _=>true | .byt _,.byt _=>true
 | .int _,.str _=>true | .str _,.int _=>true | .bl _,.str _=>true | .str _,.bl _=>true
 | _,_=>false
def rEq:R2:=fun x y H Q=>q7s x y=true/\Q (.bl (decide (x=y))) H
def rNe:R2:=fun x y H Q=>q7s x y=true/\Q (.bl (!decide (x=y))) H
theorem qd6{i j:Int}: decide (V.int i=V.int j)=(i==j):=by
 rw [pq];simp
theorem qfg{i j:Bool}: decide (V.bl i=V.bl j)=(i==j):=by
 rw [pq];simp
theorem qd7{i j:Str}: decide (V.str i=V.str j)=(i==j):=by
 rw [pq];simp
theorem qd8{i j:Array UInt8}: decide (V.byt i=V.byt j)=(i.toList==j.toList):=by
 rw [pq];cases i;cases j;simp
section
variable{X:Cx}{a b c:Expr}{ta tb tc:TE}{pos:Pos}
theorem ze{pins:List (Addr×Obj)}{σ : St}{H:Hp}{s:Shared}{Q:VK}{k k':Bool}(I:Inv X pins σ H s)(q:Q (.bl k) H)(e:k=k'): EP X pins σ Q (.bool k') s:=by
 subst e;exact⟨.bl k,H,I,rfl,q⟩
theorem qo7:OpR X (compareOp .Eq) rEq:=by
 intro pins s σ H x y v u Q I rx ry h;obtain⟨hs,q⟩:=h;cases x with
 | non=>
  cases rx;cases y with
  | non=>cases ry;exact PySem.EqNone.eq_none_none (ze I q (by simp))
  | bl j=>cases ry;exact PySem.EqNone.eq_none_bool (ze I q (by simp))
  | int j=>obtain⟨t',rfl⟩:=ry;exact PySem.EqNone.eq_none_int (ze I q (by simp))
  | str j=>obtain⟨t',rfl⟩:=ry;exact PySem.EqNone.eq_none_str (ze I q (by simp))
  | _=>exact absurd (show false=true from hs) gq
 | bl i=>
  cases rx;cases y with
  | non=>cases ry;exact PySem.EqNone.eq_bool_none (ze I q (by simp))
  | bl j=>cases ry;exact eq_bool (ze I q qfg)
  | str j=>obtain⟨t',rfl⟩:=ry;exact PySem.EqMixed.eq_bool_str (ze I q (by simp))
  | _=>exact absurd (show false=true from hs) gq
 | int i=>
  obtain⟨t,rfl⟩:=rx;cases y with
  | non=>cases ry;exact PySem.EqNone.eq_int_none (ze I q (by simp))
  | int j=>obtain⟨t',rfl⟩:=ry;exact eq_int (ze I q qd6)
  | str j=>obtain⟨t',rfl⟩:=ry;exact PySem.EqMixed.eq_int_str (ze I q (by simp))
  | _=>exact absurd (show false=true from hs) gq
 | str i=>
  obtain⟨t,rfl⟩:=rx;cases y with
  | non=>cases ry;exact PySem.EqNone.eq_str_none (ze I q (by simp))
  | bl j=>cases ry;exact PySem.EqMixed.eq_str_bool (ze I q (by simp))
  | int j=>obtain⟨t',rfl⟩:=ry;exact PySem.EqMixed.eq_str_int (ze I q (by simp))
  | str j=>obtain⟨t',rfl⟩:=ry;exact eq_str (ze I q qd7)
  | _=>exact absurd (show false=true from hs) gq
 | byt i=>
  obtain⟨t,rfl⟩:=rx;cases y with
  | byt j=>obtain⟨t',rfl⟩:=ry;exact PySem.W.eq_bytes (ze I q qd8)
  | _=>exact absurd (show false=true from hs) gq
 | _=>cases y <;> exact absurd (show false=true from hs) gq
theorem qo8:OpR X (compareOp .NotEq) rNe:=by
 intro pins s σ H x y v u Q I rx ry h;obtain⟨hs,q⟩:=h;cases x with
 | non=>
  cases rx;cases y with
  | non=>cases ry;exact PySem.EqNone.ne_none_none (ze I q (by simp))
  | bl j=>cases ry;exact PySem.EqNone.ne_none_bool (ze I q (by simp))
  | int j=>obtain⟨t',rfl⟩:=ry;exact PySem.EqNone.ne_none_int (ze I q (by simp))
  | str j=>obtain⟨t',rfl⟩:=ry;exact PySem.EqNone.ne_none_str (ze I q (by simp))
  | _=>exact absurd (show false=true from hs) gq
 | bl i=>
  cases rx;cases y with
  | non=>cases ry;exact PySem.EqNone.ne_bool_none (ze I q (by simp))
  | bl j=>cases ry;exact ne_bool (ze I q (p8 not qfg))
  | str j=>obtain⟨t',rfl⟩:=ry;exact PySem.EqMixed.ne_bool_str (ze I q (by simp))
  | _=>exact absurd (show false=true from hs) gq
 | int i=>
  obtain⟨t,rfl⟩:=rx;cases y with
  | non=>cases ry;exact PySem.EqNone.ne_int_none (ze I q (by simp))
  | int j=>obtain⟨t',rfl⟩:=ry;exact ne_int (ze I q (p8 not qd6))
  | str j=>obtain⟨t',rfl⟩:=ry;exact PySem.EqMixed.ne_int_str (ze I q (by simp))
  | _=>exact absurd (show false=true from hs) gq
 | str i=>
  obtain⟨t,rfl⟩:=rx;cases y with
  | non=>cases ry;exact PySem.EqNone.ne_str_none (ze I q (by simp))
  | bl j=>cases ry;exact PySem.EqMixed.ne_str_bool (ze I q (by simp))
  | int j=>obtain⟨t',rfl⟩:=ry;exact PySem.EqMixed.ne_str_int (ze I q (by simp))
  | str j=>obtain⟨t',rfl⟩:=ry;exact ne_str (ze I q (p8 not qd7))
  | _=>exact absurd (show false=true from hs) gq
 | byt i=>
  obtain⟨t,rfl⟩:=rx;cases y with
  | byt j=>obtain⟨t',rfl⟩:=ry;exact PySem.W.ne_bytes (ze I q (p8 not qd8))
  | _=>exact absurd (show false=true from hs) gq
 | _=>cases y <;> exact absurd (show false=true from hs) gq
theorem qo9:OpR X (compareOp .Lt) (rI0 fun i j=>.bl (decide (i<j))):=qe7 fun _ _ _ _ _ _ _ q=>lt_int q
theorem qoa:OpR X (compareOp .LtE) (rI0 fun i j=>.bl (decide (i<=j))):=qe7 fun _ _ _ _ _ _ _ q=>le_int q
theorem qob:OpR X (compareOp .Gt) (rI0 fun i j=>.bl (decide (j<i))):=qe7 fun _ _ _ _ _ _ _ q=>gt_int q
theorem qoc:OpR X (compareOp .GtE) (rI0 fun i j=>.bl (decide (j<=i))):=qe7 fun _ _ _ _ _ _ _ q=>ge_int q
theorem qjw{op:CmpOp}{r:R2}(ho:OpR X (compareOp op) r)(ha:PE X a ta)(hb:PE X b tb)(hm:behindInMarks op b=false): PE X (.Compare a [op] [b] pos) (tOp r ta tb):=by
 intro pins s σ H Q I h;exact wpAny_Compare1 (qhe ha hb I h fun v u s2 x y H2 I2 rx ry q=>ho pins s2 σ H2 x y v u Q I2 rx ry q) hm
def qod(t:TE): TT:=fun σ H Q=>t σ H fun x H'=>∃k,x=.bl k/\Q k H'
theorem qd9{op:CmpOp}{r:R2}(ho:OpR X (compareOp op) r)(ha:PE X a ta)(hb:PE X b tb)(hm:behindInMarks op b=false): PT X (.Compare a [op] [b] pos) (qod (tOp r ta tb)):=by
 intro pins s σ H Q I h;refine wpAny_isTrue_Compare1 (thn (ha pins s σ H _ I h) fun v s1 ⟨x,H1,I1,r1,q1⟩=>thn (hb pins s1 σ H1 _ I1 q1) fun u s2 ⟨y,H2,I2,r2,q2⟩=>
  thn (ho pins s2 σ H2 x y v u _ I2 r1 r2 q2) fun c s3 ⟨z,H3,I3,r3,k,e,q3⟩=>?_) hm
 subst e;cases r3;exact t5 ⟨H3,I3,q3⟩
def qfh(r r':R2)(ta tb tc:TE): TE:=fun σ H Q=>ta σ H fun x H1=>tb σ H1 fun y H2=>r x y H2 fun z H3=>∃k,z=.bl k /\
 (if k=true then tc σ H3 fun w' H4=>r' y w' H4 Q else Q (.bl false) H3)
theorem qhf{op op':CmpOp}{r r':R2}(ho:OpR X (compareOp op) r)(ho':OpR X (compareOp op') r')(ha:PE X a ta)(hb:PE X b tb)(hc:PE X c tc)
  (hm:lastMarks [op,op'] [b,c]=false:=by with_unfolding_all rfl):PE X (.Compare a [op,op'] [b,c] pos) (qfh r r' ta tb tc):=by
 intro pins s σ H Q I h;refine Compare_chain (thn (ha pins s σ H _ I h) fun v s1 ⟨x,H1,I1,r1,q1⟩=>chain_link (thn (hb pins s1 σ H1 _ I1 q1) fun u s2 ⟨y,H2,I2,r2,q2⟩=>
  thn (ho pins s2 σ H2 x y v u _ I2 r1 r2 q2) fun d s3 ⟨z,H3,I3,r3,k,e,q3⟩=>?_)) hm
 subst e;cases r3;refine t5 ?_;cases k with
 | false=>exact ite_ff ⟨.bl false,H3,I3,rfl,q3⟩
 | true=>exact ite_tt (chain_last (thn (hc pins s3 σ H3 _ I3 q3) fun w' s4 ⟨z',H4,I4,r4,q4⟩=>ho' pins s4 σ H4 y z' u w' Q I4 r2 r4 q4))
def qhg(K:PySem.W.Frag)(x:V)(H:Hp)(k:Bool): Prop:=
 match x with
 | .non=>k=false
 | .bl b=>k=b
 | .int i=>k=(i != 0)
 | .str y=>y.length<=sizeLine/\k=((y.length:Int) != 0)
 | .byt y=>y.size<=sizeLine/\k=((y.size:Int) != 0)
 | .ref p=>(∃xs,SqL K H p xs/\k = !xs.isEmpty)\/(∃xs,SqT K H p xs/\k = !xs.isEmpty)\/∃kvs,H p=some (.dK kvs)/\k = !kvs.isEmpty
 | _=>False
theorem qe8{κ : Type}{kvs:List (κ × V)}{vs:List (κ × Value)}(r:KV kvs vs): (!vs.isEmpty) = !kvs.isEmpty:=by
 cases r <;> rfl
theorem q6v{xs:List V}{its:List Value}(r:Vals xs its): (!its.toArray.isEmpty) = !xs.isEmpty:=by
 cases r <;> simp
theorem q4f:(sizeLine:Nat)<2 ^ 63:=by rw [uj];decide
theorem qm7:qpb X (fun x H Q=>∃k,qhg X.K x H k/\Q k H):=by
 intro pins s σ H x v Q I rx h;obtain⟨k,e,q⟩:=h;have hl:=q4f;have hs:sizeLine=16777216:=uj;cases x with
 | non=>
  cases rx;have e':k=false:=e;subst e';exact truthy_none ⟨H,I,q⟩
 | bl b=>
  cases rx;have e':k=b:=e;subst e';exact t5 ⟨H,I,q⟩
 | int i=>
  obtain⟨t,rfl⟩:=rx;have e':k=(i != 0):=e;subst e';exact PySem.P.truthy_int ⟨H,I,q⟩
 | str y=>
  obtain⟨t,rfl⟩:=rx;obtain⟨hy,e'⟩:y.length<=sizeLine/\k=((y.length:Int) != 0):=e;subst e';exact PySem.P.truthy_str (by omega) ⟨H,I.tok _,q⟩
 | byt y=>
  obtain⟨t,rfl⟩:=rx;obtain⟨hy,e'⟩:y.size<=sizeLine/\k=((y.size:Int) != 0):=e;subst e';exact PySem.W.truthy_bytes (by omega) ⟨H,I.tok _,q⟩
 | ref p=>
  cases rx;have e':(∃xs,SqL X.K H p xs/\k = !xs.isEmpty)\/(∃xs,SqT X.K H p xs/\k = !xs.isEmpty)\/∃kvs,H p=some (.dK kvs)/\k = !kvs.isEmpty:=e;rcases e' with⟨xs,hx,e'⟩|⟨xs,hx,e'⟩|⟨kvs,hx,e'⟩
  ·subst e'
   obtain⟨its,r,pl,hz⟩:=I.list hx;have hlen:=r.length;exact wpAny_truthy_list pl.isList (by simp only [gp];omega) ⟨H,I.tok _,by rw [q6v r];exact q⟩
  ·subst e'
   obtain⟨its,r,pl,hz⟩:=I.tuple hx;have hlen:=r.length;exact truthy_tuple pl (by simp only [gp];omega) ⟨H,I.tok _,by rw [q6v r];exact q⟩
  ·subst e'
   obtain⟨hz,hS,vs,r,m⟩:kvs.length<=sizeLine/\(p==sysModules)=false/\∃vs,KV kvs vs/\s.heap.DictOf (mixKind X.prog X.w) p vs:=I.hok p _ hx;have hlen:kvs.length=vs.length:=Paired.length r;exact wpAny_truthy_dict hS m (by omega) ⟨H,I.tok _,by rw [qe8 r];exact q⟩
 | _=>exact(show False from e).elim
theorem qaj(ha:PE X a ta)(he:∀whole,isTrue a X.env whole=(do let v <- whole;standAt a.pos;holding [v] (truthy v))):
  PT X a (fun σ H Q=>ta σ H fun x H'=>∃k,qhg X.K x H' k/\Q k H'):=by
 intro pins s σ H Q I h;exact isTrue_plain (thn (ha pins s σ H _ I h) fun v s1 ⟨x,H1,I1,r1,q1⟩=>qm7 pins s1 σ H1 x v Q I1 r1 q1) (he _)
theorem vals1{x:V}{us:List Value}(r:Vals [x] us): ∃u,us=[u]/\RelV x u:=by
 cases r with
 | cons r1 r2=>cases r2;exact⟨_,rfl,r1⟩
theorem vals2{x y:V}{us:List Value}(r:Vals [x,y] us): ∃u w',us=[u,w']/\RelV x u/\RelV y w':=by
 cases r with
 | cons r1 r2=>
  cases r2 with
  | cons r3 r4=>cases r4;exact⟨_,_,rfl,r1,r3⟩
theorem qfi(hc:X.calm=true): jw X (.builtin "max") (fun xs H Q=>∃i j,xs=[.int i,.int j]/\Q (.int (if j>i then j else i)) H):=by
 intro pins s σ H xs us Q I r h;obtain⟨i,j,rfl,q⟩:=h;obtain⟨u,w',rfl,⟨t,rfl⟩,⟨t',rfl⟩⟩:=vals2 r;refine max_two_ints (I.ok.hd hc) fun h' tk k=>⟨_,H,I.kept k,?_,q⟩
 by_cases hj:j>i
 ·rw [gw hj,gw hj];exact⟨_,rfl⟩
 ·rw [m4 hj,m4 hj];exact⟨_,rfl⟩
theorem qfj(hc:X.calm=true): jw X (.builtin "min") (fun xs H Q=>∃i j,xs=[.int i,.int j]/\Q (.int (if j<i then j else i)) H):=by
 intro pins s σ H xs us Q I r h;obtain⟨i,j,rfl,q⟩:=h;obtain⟨u,w',rfl,⟨t,rfl⟩,⟨t',rfl⟩⟩:=vals2 r;refine min_two_ints (I.ok.hd hc) fun h' tk k=>⟨_,H,I.kept k,?_,q⟩
 by_cases hj:j<i
 ·rw [gw hj,gw hj];exact⟨_,rfl⟩
 ·rw [m4 hj,m4 hj];exact⟨_,rfl⟩
def qpe(K:PySem.W.Frag)(x:V)(H:Hp)(n:Nat): Prop:=
 match x with
 | .str y=>y.length<=sizeLine/\n=y.length
 | .byt y=>y.size<=sizeLine/\n=y.size
 | .ref p=>(∃xs,SqL K H p xs/\n=xs.length)\/∃xs,SqT K H p xs/\n=xs.length
 | _=>False
theorem qhh:jw X (.builtin "len") (fun xs H Q=>∃x n,xs=[x]/\qpe X.K x H n/\Q (.int n) H):=by
 intro pins s σ H xs us Q I r h;obtain⟨x,n,rfl,e,q⟩:=h;obtain⟨u,rfl,rx⟩:=vals1 r;have hl:=q4f;have hs:sizeLine=16777216:=uj;cases x with
 | str y=>
  obtain⟨t,rfl⟩:=rx;obtain⟨hy,e'⟩:y.length<=sizeLine/\n=y.length:=e;subst e';exact len_str (by omega) ⟨.int _,H,I.tok _,⟨_,rfl⟩,q⟩
 | byt y=>
  obtain⟨t,rfl⟩:=rx;obtain⟨hy,e'⟩:y.size<=sizeLine/\n=y.size:=e;subst e';exact PySem.W.len_bytes (by omega) ⟨.int _,H,I.tok _,⟨_,rfl⟩,q⟩
 | ref p=>
  cases rx;have e':(∃xs,SqL X.K H p xs/\n=xs.length)\/∃xs,SqT X.K H p xs/\n=xs.length:=e;rcases e' with⟨xs,hx,e'⟩|⟨xs,hx,e'⟩
  ·subst e'
   obtain⟨its,r',pl,hz⟩:=I.list hx;have hlen:=r'.length;exact Calls.call_len_list pl.isList (by simp only [gp];omega) ⟨.int xs.length,H,I.tok _,⟨_,by simp only [gp];rw [hlen]⟩,q⟩
  ·subst e'
   obtain⟨its,r',pl,hz⟩:=I.tuple hx;have hlen:=r'.length;exact len_tuple pl (by simp only [gp];omega) ⟨.int xs.length,H,I.tok _,⟨_,by simp only [gp];rw [hlen]⟩,q⟩
 | _=>exact(show False from e).elim
end
structure ObjM(h:Heap)(x dx C:Addr)(mA:Str->Option Value): Prop where
 obj:h.get? x=some (PySem.W.instObj C dx)
 ns:h.Ns1 dx mA
 ne:dx≠x
theorem q8s{h:Heap}{dx:Addr}{mA:Str->Option Value}(n:h.Ns1 dx mA): ∃od,h.get? dx=some od/\∀name,PySem.W.lookIn name od=some (mA name):=by
 obtain⟨o,es,ep,ho,hd,hk,_,hm⟩:=n;refine⟨o,ho,fun name=>?_⟩;have e:=hm name;unfold nsFind findBy at e;rw [<- Array.find?_toList] at e;unfold PySem.W.lookIn;rw [hd];dsimp only
 split
 ·rename_i y q
  rw [q] at e;exact p8 some e
 ·rename_i q
  rw [q] at e;have a:es.toList.any (·.refKey)=false:=by
   rw [List.any_eq_false];intro y hy;obtain⟨z,t,hkey⟩:=hk y (Array.mem_toList_iff.mp hy);simp [DictEntry.refKey,hkey]
  have a':¬es.toList.any (·.refKey)=true:=by rw [a];exact gq
  rw [m4 a'];exact p8 some e
theorem ObjM.look{h:Heap}{x dx C:Addr}{mA:Str->Option Value}(I:ObjM h x dx C mA): ∃od,PySem.W.InstAt h x (PySem.W.instObj C dx) C (some od)/\∀name,PySem.W.lookIn name od=some (mA name):=
 let⟨od,ho,hl⟩:=q8s I.ns
 ⟨od,⟨I.obj,rfl,rfl,ho⟩,hl⟩
section
variable{prog:Program}{w:World}{A:Around}{E:Value->Shared->Prop}{s:Shared}{K:PySem.W.Frag}{x dx C f:Addr}{mA:Str->Option Value}{name:Str}{v:Value}
theorem get_map{expr:Bool}{Q:Value->Shared->Prop}(X:K.In s.heap)(I:ObjM s.heap x dx C mA)(hg:PySem.W.plainGet K C name=true)(hh:PySem.W.hasDictIn K C=true)
  (ha:PySem.W.findIn K (.ref C) name=some none) (hv:mA name=some v) (hv':PySem.W.handedIn v=true) (h:Q v {s with toks:=s.toks+1}) :
  wpAny (model prog w) A (getAttr (.ref x) name expr) Q E s:=by
 obtain⟨od,J,hl⟩:=I.look;exact PySem.W.get_value X J (g18 hg).1 (PySem.W.findObj_own hh ha rfl (by rw [hl,hv])) hv' h
theorem qhi{pl:Sem Bool}{Q:Value×List Value->Shared->Prop}(X:K.In s.heap)(I:ObjM s.heap x dx C mA)(hg:PySem.W.plainGet K C name=true)
  (hf:PySem.W.findIn K (.ref C) name=some (some (.ref f))) (ht:PySem.W.isFn K (.ref f)=true) (hv:mA name=none) (h:Q (.ref f,[.ref x]) s) :
  wpAny (model prog w) A (getMethod (.ref x) name pl) Q E s:=by
 obtain⟨od,J,hl⟩:=I.look;exact PySem.W.method_fn X J (g18 hg).1 (g18 hg).2 hf (ni.mp ht) (by show(PySem.W.lookIn name od).map (·.isSome)=some false;rw [hl,hv];rfl) h
theorem qjx{ns:List Str}{Q:Unit->Shared->Prop}(X:K.In s.heap)(I:ObjM s.heap x dx C mA)
  (hs:PySem.W.findIn K (.ref C) "__setattr__" = some (some (.builtin "object.__setattr__"))) (hp:PySem.W.plainOver K C=true) (ht:PySem.W.takerIn K C name=some none) (hh:PySem.W.hasDictIn K C=true)
  (hw:PySem.Within mA ns) (hsz:ns.length<=sizeLine)
  (h:∀h',ObjM h' x dx C (fun y=>if y=name then some v else mA y)->Heap.SameBut dx s.heap h'->Q () {s with heap:=h',toks:=s.toks+2}) :
  wpAny (model prog w) A (setAttr (.ref x) name v) Q E s:=by
 obtain⟨od,J,hl⟩:=I.look;refine PySem.W.set_plain X J hs (PySem.W.osa_open (s:={s with toks:=s.toks+1}) (r:=none) X J hp ht fun b=>?_);obtain⟨cd,hc,hd'⟩:=PySem.W.any_some hh;have hx:s.heap.get? x=some ⟨.ref C,some dx,.plain, #[]⟩:=I.obj;refine g6 (gi (g6 (g6 (g1c hx (g6 (pe (s:={s with toks:=s.toks+1}) (PySem.W.looks_clsIn X hc) ?_))))));rw [hd'];refine gi (a:=some dx) (g6 (gi (g6 ?_)));refine wpAny_nsSet1 (s:={s with toks:=s.toks+1}) I.ns fun h' hn2 hs2=>?_;obtain⟨oD,esD,epD,hoD,hdD,hcD⟩:=hn2.count (PySem.Within.cons name v hw);refine g6 (wpAny_lookBehind hoD (by rw [hdD];exact pastItsLine_dict (md hcD (by rw [ml];omega))) ?_);exact gi (h _ ⟨(hs2.2 _ (gu I.ne)).trans I.obj,hn2,I.ne⟩ hs2)
theorem qhj{R:Result->Shared->Prop}{vs:List Value}{kw:List (Str×Value)}(X:K.In s.heap)(hm:PySem.W.makesIn K C=true)
  (hi:PySem.W.findIn K (.ref C) "__init__" = some (some (.ref f))) (hf:PySem.W.typeIn K (.ref f)=some (.type "function"))
  (h:codeAny (model prog w) (A.under (.builtin "type.__call__" ⟨.ref C :: vs,kw⟩)) (.call (.ref f) ⟨.ref (s.heap.objs.size+1) :: vs,kw⟩) (PySem.W.InitBack (s.heap.objs.size+1) R)
   {s with heap:=(s.heap.push PySem.W.emptyDict).push (PySem.W.instObj C s.heap.objs.size)}) :
  codeAny (model prog w) A (.call (.ref C) ⟨vs,kw⟩) R s:=by
 obtain⟨hh,g,d,t,os⟩:=s;exact PySem.W.make_core (PySem.W.makes_of X hm) (PySem.W.looks_findIn X hi) (fun self=>PySem.W.bind_fn X self hf) (.inl rfl) h
end
def yj(f:Str)(v:V): List (Str×V)->List (Str×V)
 | []=>[(f,v)]
 | (g,x) :: r=>if g=f then(g,v) :: r else(g,x) :: yj f v r
theorem q61(f g:Str)(v:V): ∀fs:List (Str×V),(yj f v fs).lookup g=if g=f then some v else fs.lookup g
 | []=>by
  show List.lookup g [(f,v)]=_
  by_cases h:g=f
  ·have hb:(g==f)=true:=ni.mpr h
   simp only [List.lookup,hb,gw h]
  ·have hb:(g==f)=false:=u9.mpr h
   simp only [List.lookup,hb,m4 h]
 | (k,x) :: r=>by
  have ih:=q61 f g v r;rw [show yj f v ((k,x) :: r)=(if k=f then(k,v) :: r else(k,x) :: yj f v r) from rfl]
  by_cases hk:k=f
  ·rw [gw hk]
   by_cases h:g=k
   ·have hb:(g==k)=true:=ni.mpr h
    simp only [List.lookup,hb,gw (h.trans hk)]
   ·have hb:(g==k)=false:=u9.mpr h
    simp only [List.lookup,hb,m4 (fun e:g=f=>h (e.trans hk.symm))]
  ·rw [m4 hk]
   by_cases h:g=k
   ·have hb:(g==k)=true:=ni.mpr h
    simp only [List.lookup,hb,m4 (fun e:g=f=>hk (h.symm.trans e))]
   ·have hb:(g==k)=false:=u9.mpr h
    simp only [List.lookup,hb];exact ih
theorem q4g(f:Str)(v:V): ∀fs:List (Str×V),f∈(yj f v fs).map (·.1)/\∀g,g∈fs.map (·.1)->g∈(yj f v fs).map (·.1)
 | []=>⟨by simp [yj],fun g h=>by simp at h⟩
 | (k,x) :: r=>by
  obtain⟨i1,i2⟩:=q4g f v r;rw [show yj f v ((k,x) :: r)=(if k=f then(k,v) :: r else(k,x) :: yj f v r) from rfl]
  by_cases hk:k=f
  ·rw [gw hk]
   subst hk;exact⟨by simp,fun g h=>by simpa using h⟩
  ·rw [m4 hk]
   refine⟨?_,fun g h=>?_⟩
   ·rw [mi]
    exact m5 _ i1
   ·rw [mi] at h ⊢
    rcases mf.mp h with e|e
    ·exact mf.mpr (.inl e)
    ·exact m5 _ (i2 g e)
theorem q62(f:Str)(v:V): ∀fs:List (Str×V),(yj f v fs).length<=fs.length+1
 | []=>by simp [yj]
 | (k,x) :: r=>by
  have ih:=q62 f v r;rw [show yj f v ((k,x) :: r)=(if k=f then(k,v) :: r else(k,x) :: yj f v r) from rfl]
  by_cases hk:k=f
  ·rw [gw hk,ml,ml];omega
  ·rw [m4 hk,ml,ml];omega
theorem RelO.some_of{v:V}{o:Option Value}(r:RelO (some v) o): ∃u,o=some u/\RelV v u:=by
 cases o with
 | none=>exact(show False from r).elim
 | some u=>exact⟨u,rfl,r⟩
theorem RelO.none_of{o:Option Value}(r:RelO none o): o=none:=by
 cases o with
 | none=>rfl
 | some u=>exact(show False from r).elim
theorem qfk{v:V}{u:Value}(r:RelV v u): PySem.W.handedIn u=true:=by
 cases v with
 | non=>cases(show u=Value.none from r);rfl
 | bl b=>cases(show u=Value.bool b from r);rfl
 | int i=>obtain⟨t,e⟩:=(show ∃t,u=Value.int i t from r);cases e;rfl
 | str x=>obtain⟨t,e⟩:=(show ∃t,u=Value.str x t from r);cases e;rfl
 | byt b=>obtain⟨t,e⟩:=(show ∃t,u=Value.bytes b t from r);cases e;rfl
 | flt b=>obtain⟨t,e⟩:=(show ∃t,u=Value.float b t from r);cases e;rfl
 | ref a=>cases(show u=Value.ref a from r);rfl
 | ty n=>cases(show u=Value.type n from r);rfl
section
variable{P:Program}{w:World}{H H':Hp}{h h':Heap}{a C dx:Addr}{fs fs':List (Str×V)}
theorem q5g(hok:HOk P w H h)(e:H a=some (.ins C dx fs)): ∃mA,ObjM h a dx C mA/\(∀f,RelO (fs.lookup f) (mA f))/\PySem.Within mA (fs.map (·.1))/\fs.length<=1000/\H dx=some (.own a):=by
 obtain⟨d,z,ne,ob,mA,n,r,q⟩:=(show ObjOk P w H h a (.ins C dx fs) from hok a _ e)
 exact⟨mA,⟨ob,n,ne⟩,r,q,z,d⟩
end
structure Cls(K:PySem.W.Frag)(C:Addr): Prop where
 pg:PySem.W.plainGet K C Str.empty=true
 hd:PySem.W.hasDictIn K C=true
 po:PySem.W.plainOver K C=true
 sa:PySem.W.findIn K (.ref C) "__setattr__" = some (some (.builtin "object.__setattr__"))
theorem Cls.get{K:PySem.W.Frag}{C:Addr}(c:Cls K C)(f:Str): PySem.W.plainGet K C f=true:=c.pg
def NoAttr(K:PySem.W.Frag)(C:Addr)(f:Str): Prop:=PySem.W.findIn K (.ref C) f=some none
theorem NoAttr.taker{K:PySem.W.Frag}{C:Addr}{f:Str}(n:NoAttr K C f): PySem.W.takerIn K C f=some none:=by
 unfold PySem.W.takerIn;rw [show PySem.W.findIn K (.ref C) f=some none from n]
 rfl
structure Meth(K:PySem.W.Frag)(C:Addr)(m:Str)(f:Addr): Prop where
 at_:PySem.W.findIn K (.ref C) m=some (some (.ref f))
 fn:PySem.W.isFn K (.ref f)=true
 kp:PySem.W.keepIn K (.ref f)=true
section
variable{X:Cx}{pins:List (Addr×Obj)}{σ : St}{H:Hp}{s:Shared}{a C dx:Addr}{fs:List (Str×V)}{f:Str}{v:V}{A:Around}{E:Value->Shared->Prop}
theorem qe9{b:Bool}{Q:Value->Shared->Prop}(I:Inv X pins σ H s)(e:H a=some (.ins C dx fs))(c:Cls X.K C)(n:NoAttr X.K C f)(l:fs.lookup f=some v)
  (h:∀u s',Inv X pins σ H s'->RelV v u->Q u s'):wpAny (model X.prog X.w) A (getAttr (.ref a) f b) Q E s:=by
 obtain⟨mA,O,r,_,_,_⟩:=q5g I.hok e;obtain⟨u,hu,ru⟩:=RelO.some_of (v:=v) (o:=mA f) (by rw [<- l];exact r f);exact get_map I.kIn O (c.get f) c.hd n hu (qfk ru) (h u _ (I.tok _) ru)
theorem q3n{m:Str}{g:Addr}{pl:Sem Bool}{Q:Value×List Value->Shared->Prop}(I:Inv X pins σ H s)(e:H a=some (.ins C dx fs))(c:Cls X.K C)(k:Meth X.K C m g)(l:fs.lookup m=none)
  (h:Q (.ref g,[.ref a]) s):wpAny (model X.prog X.w) A (getMethod (.ref a) m pl) Q E s:=by
 obtain⟨mA,O,r,_,_,_⟩:=q5g I.hok e;have hn:mA m=none:=RelO.none_of (by rw [<- l];exact r m);exact qhi I.kIn O (c.get m) k.at_ k.fn hn h
theorem qea{y:V}{u:Value}{Q:Unit->Shared->Prop}(I:Inv X pins σ H s)(e:H a=some (.ins C dx fs))(c:Cls X.K C)(n:NoAttr X.K C f)(hl:fs.length<1000)(ry:RelV y u)
  (h:∀s',Inv X pins σ (upd H a (.ins C dx (yj f y fs))) s'->Q () s'):wpAny (model X.prog X.w) A (setAttr (.ref a) f u) Q E s:=by
 obtain⟨mA,O,r,wi,_,ho⟩:=q5g I.hok e;have hz:(fs.map (·.1)).length<=sizeLine:=by rw [gx,uj];omega
 refine qjx I.kIn O c.sa c.po n.taker c.hd wi hz fun h' O' sb=>h _ ?_;have hd:∃o,h'.get? dx=some o:=let⟨o,_,_,e',_⟩:=O'.ns; ⟨o,e'⟩
 refine I.write (x:=a) (e:=dx) (by rw [e];exact True.intro) (.inr ho) (fun b q hb z=>(sb.2 b hb).trans z) hd ?_;refine⟨by rw [qo O.ne];exact ho,?_,O.ne,O'.obj,_,O'.ns,fun g=>?_,fun g hg=>?_⟩
 ·have:=q62 f y fs;omega
 ·show RelO ((yj f y fs).lookup g) (if g=f then some u else mA g)
  rw [q61]
  by_cases q:g=f
  ·rw [gw q,gw q];exact ry
  ·rw [m4 q,m4 q];exact r g
 ·by_cases q:g=f
  ·rw [q];exact(q4g f y fs).1
  ·refine(q4g f y fs).2 g (wi g fun z=>hg ?_)
   show(if g=f then some u else mA g)=none;rw [m4 q];exact z
theorem Inv.made(I:Inv X pins σ H s): Inv X pins σ (upd (upd H s.heap.objs.size (.own (s.heap.objs.size+1))) (s.heap.objs.size+1) (.ins C s.heap.objs.size []))
  {s with heap:=(s.heap.push PySem.W.emptyDict).push (PySem.W.instObj C s.heap.objs.size)}:=by
 have e1:(s.heap.push PySem.W.emptyDict).get? s.heap.objs.size=some PySem.W.emptyDict:=m3 s.heap rfl;have e2:((s.heap.push PySem.W.emptyDict).push (PySem.W.instObj C s.heap.objs.size)).get? (s.heap.objs.size+1)=some (PySem.W.instObj C s.heap.objs.size):=by
  have:=m3 (s.heap.push PySem.W.emptyDict) (o:=PySem.W.instObj C s.heap.objs.size) rfl;rwa [nk] at this
 have e3:(s.heap.push PySem.W.emptyDict).Ns s.heap.objs.size (fun _=>none):=⟨PySem.W.emptyDict, #[],_,e1,rfl,(fun e he=>absurd he (by simp)),fun _=>rfl⟩
 have I1:=I.laid (a:=s.heap.objs.size) (o:=.own (s.heap.objs.size+1)) (h':=s.heap.push PySem.W.emptyDict) (t':=s.toks) (fun b u q=>gh _ q) (gv _) ⟨_,e1⟩;refine I1.laid (a:=s.heap.objs.size+1) (o:=.ins C s.heap.objs.size []) (t':=s.toks) (fun b u q=>gh _ q) (Nat.le_of_eq (nk _ _)) ?_;have ne:s.heap.objs.size≠s.heap.objs.size+1:=ma (g0q _);refine⟨by rw [qo ne,qv],g1f _,ne,e2,fun _=>none,(Heap.Ns1.of_empty e3).at fun o q=>gh _ q,fun _=>True.intro,fun y hy=>absurd rfl hy⟩
theorem qda{prog:Program}{w:World}{env:Env}{e:Expr}{f:Str}{pos:Pos}{s:Shared}{Q:Value->Shared->Prop}(hb:attributeBase e f env (eval e env)=eval e env)
  (h:wpAny (model prog w) A (eval e env) (fun o s₁=>wpAny (model prog w) A (getAttr o f true) Q E s₁) E s):wpAny (model prog w) A (eval (.Attribute e f pos) env) Q E s:=
 Attribute_any_ h (by rw [arm_eval_Attribute,hb])
end
def qpf(K:PySem.W.Frag)(ta:TE)(f:Str): TE:=fun σ H Q=>ta σ H fun x H1=>∃a C dx fs v,x=.ref a/\H1 a=some (.ins C dx fs)/\Cls K C/\NoAttr K C f/\fs.lookup f=some v/\Q v H1
def qpg(K:PySem.W.Frag)(ta tv:TE)(f:Str): TS:=fun D σ H=>tv σ H fun y H1=>ta σ H1 fun x H2=>∃a C dx fs,x=.ref a/\H2 a=some (.ins C dx fs)/\Cls K C/\NoAttr K C f/\fs.length<1000 /\
 D.nx σ (upd H2 a (.ins C dx (yj f y fs)))
section
variable{X:Cx}{o e value:Expr}{f:Str}{pos pos' tpos:Pos}{ta tv:TE}
theorem qm8(he:PE X e ta)(hb:attributeBase e f X.env (eval e X.env)=eval e X.env): PE X (.Attribute e f pos) (qpf X.K ta f):=by
 intro pins s σ H Q I h;refine qda hb (thn (he pins s σ H _ I h) fun u s1 ⟨x,H1,I1,rx,a,C,dx,fs,v,ex,ea,c,n,l,q⟩=>?_);subst ex;obtain rfl:u=Value.ref a:=rx;exact qe9 I1 ea c n l fun u' s2 I2 ru=>⟨v,H1,I2,ru,q⟩
theorem qm9(ha:PE X o ta)(hv:PE X value tv)(hs:swapsWith value (some (.Attribute o f pos')) pos.line X.env=pure false): PS X (.Assign [.Attribute o f pos'] value pos) (qpg X.K ta tv f):=by
 intro pins s σ H D I h;refine g0s (thn (hv pins s σ H _ I h) fun u s1 ⟨y,H1,I1,ry,q⟩=>thn (ha pins s1 σ H1 _ I1 q) fun ov s2 ⟨x,H2,I2,rx,a,C,dx,fs,ex,ea,c,n,l,q2⟩=>?_) hs;subst ex;obtain rfl:ov=Value.ref a:=rx;exact qea I2 ea c n l ry fun s3 I3=>⟨σ,_,I3,q2⟩
end
section
variable{X:Cx}{pins:List (Addr×Obj)}{σ : St}{H:Hp}{s:Shared}{A:Around}{E:Value->Shared->Prop}{Q:Value->Shared->Prop}{c:Value}{b:Bool}
end
structure Room(k:Nat)(A:Around): Prop where
 hd:A.handled=none
 dp:A.depth+3*k+5<recursionLimit
 un:A.units+16*k+200<cLine
theorem Room.mono{j k:Nat}{A:Around}(r:Room k A)(h:j<=k): Room j A:=⟨r.hd,by have:=r.dp;omega,by have:=r.un;omega⟩
theorem Room.deeper{k:Nat}{A:Around}(r:Room (k+1) A)(env:Env): Room k (A.deeper env):=
 ⟨r.hd,by have:=r.dp;show A.depth+1+3*k+5<_;omega,by have:=r.un;show A.units+3+16*k+200<_;omega⟩
theorem qeb{A:Around}{C:Addr}{us:List Value}{kw:List (Str×Value)}: (A.under (.builtin "type.__call__" ⟨.ref C :: us,kw⟩)).depth=A.depth+1:=by
 first|rfl|simp [Around.under,Code.weight,Code.isCreation,Code.isGuard,Code.isCaller,Code.frames,Code.isFrame,guardIds]
theorem qec{A:Around}{C:Addr}{us:List Value}{kw:List (Str×Value)}: (A.under (.builtin "type.__call__" ⟨.ref C :: us,kw⟩)).units=A.units+1:=by
 first|rfl|simp [Around.under,Code.cUnits,Code.frames,Code.isFrame]
theorem Room.make{k:Nat}{A:Around}(r:Room (k+1) A)(C:Addr)(us:List Value)(kw:List (Str×Value)): Room k (A.under (.builtin "type.__call__" ⟨.ref C :: us,kw⟩)):=
 ⟨r.hd,by have:=r.dp;rw [qeb];omega,by have:=r.un;rw [qec];omega⟩
theorem Room.depth{k:Nat}{A:Around}(r:Room k A): A.depth<recursionLimit:=by have:=r.dp;omega
theorem Room.units{k:Nat}{A:Around}(r:Room k A): A.units+64<cLine:=by have:=r.un;omega
def tNil:TA:=fun _ H Q=>Q [] H
def qoe(ta:TE)(tr:TA): TA:=fun σ H Q=>ta σ H fun x H1=>tr σ H1 fun xs H2=>Q (x :: xs) H2
section
variable{X:Cx}{e:Expr}{es:List Expr}{te:TE}{t:TA}{pos:Pos}
theorem kx:PA X [] tNil:=fun _ _ _ _ H Q I h=>Calls.spliced_nil ⟨[],H,I,.nil,h⟩
theorem zw(ha:PE X e te)(hr:PA X es t)(hs:starEach (e :: es) X.env=(false,eval e X.env) :: starEach es X.env:=by rfl): PA X (e :: es) (qoe te t):=by
 intro pos pins s σ H Q I h;rw [hs];show wpAny _ _ (spliced ((false,eval e X.env) :: backTo pos (starEach es X.env))) _ _ s;refine Calls.spliced_cons (thn (ha pins s σ H _ I h) fun u s1 ⟨x,H1,I1,r1,q1⟩=>?_);exact thn (hr pos pins s1 σ H1 _ I1 q1) fun us s2 ⟨xs,H2,I2,r2,q2⟩=>⟨x :: xs,H2,I2,.cons r1 r2,q2⟩
def qph(t:TA): TE:=fun σ H Q=>t σ H fun xs H1=>xs.length<=sizeLine/\∀p,H1 p=none->Q (.ref p) (upd H1 p (.tup xs))
def qpi(t:TA): TE:=fun σ H Q=>t σ H fun xs H1=>xs.length<=sizeLine/\∀p,H1 p=none->Q (.ref p) (upd H1 p (.lst xs))
theorem qfl{x1}(h:PA X es t): PE X (.Tuple es x1 pos) (qph t):=by
 intro pins s σ H Q I hq;refine wpAny_Tuple_spliced (thn (h pos pins s σ H _ I hq) fun us s1 ⟨xs,H1,I1,r,z,q⟩=>⟨by rw [<- r.length];exact z,?_⟩);have hf:H1 s1.heap.objs.size=none:=I1.hok.fresh (gv _);refine⟨.ref s1.heap.objs.size,upd H1 s1.heap.objs.size (.tup xs),I1.laid (t':=s1.toks) (fun b u e=>gh _ e) (gv _) ?_,rfl,q _ hf⟩;exact⟨z,us,r,⟨_,m3 _ rfl,rfl,rfl,_,rfl⟩⟩
theorem qma(h:PA X es t): PE X (.List es pos) (qpi t):=by
 intro pins s σ H Q I hq;refine wpAny_List_spliced (thn (h pos pins s σ H _ I hq) fun us s1 ⟨xs,H1,I1,r,z,q⟩=>⟨by rw [<- r.length];exact z,?_⟩);have hf:H1 s1.heap.objs.size=none:=I1.hok.fresh (gv _);refine⟨.ref s1.heap.objs.size,upd H1 s1.heap.objs.size (.lst xs),I1.laid (t':=s1.toks) (fun b u e=>gh _ e) (gv _) ?_,rfl,q _ hf⟩;exact⟨z,us,0,r,m3 _ rfl⟩
end
abbrev Sp:=List V->Hp->VK->XK->Prop
abbrev CXT:=List Env->Hp->Shared->XK->Value->Shared->Prop
structure Env0(P:Program)(w:World)(K:PySem.W.Frag)(mg:Str->Option Value)(base:Heap)(A:Around)(outer:List Env)(s:Shared)(H:Hp): Prop where
 frames:A.frames=some outer
 mod:Mod K mg base
 bs:∀b o,base.get? b=some o->s.heap.get? b=some o/\H b=none
 bsz:base.objs.size<=s.heap.objs.size
 funs:s.heap.FunFrames base outer
 frf:∀b∈frs outer,H b=none
 hok:HOk P w H s.heap
 bare:AllBare s.gens
def CE(outer:List Env)(P:Program)(w:World)(H:Hp)(s:Shared)(Q:VK)(u:Value)(s':Shared): Prop:=
 ∃v H',s'.os=s.os/\AllBare s'.gens/\Un (frs outer) [] H H' s.heap s'.heap/\HOk P w H' s'.heap/\RelV v u/\Q v H'
def CR(CX:CXT)(outer:List Env)(P:Program)(w:World)(H:Hp)(s:Shared)(Q:VK)(E:XK)(r:Result)(s':Shared): Prop:=
 match r with
 | .ok (.ret u)=>CE outer P w H s Q u s'
 | .ok _=>False
 | .error e=>CX outer H s E e s'
structure FnOk(P:Program)(w:World)(K:PySem.W.Frag)(mg:Str->Option Value)(base:Heap)(CX:CXT)(k:Nat)(f:Addr)(fd:FuncData)(ps:List Str)(sp:Sp): Prop where
 len:∀vs H Q E,sp vs H Q E->vs.length=ps.length
 run:∀(A:Around) (outer:List Env) (s:Shared) (H:Hp) (args:Args) (us:List Value) (vs:List V) (Q:VK) (E:XK),Room k A->Env0 P w K mg base A outer s H->BindsTo s fd args (ps.zip us)->Vals vs us->sp vs H Q E ->
  codeAny (model P w) A (.call (.ref f) args) (CR CX outer P w H s Q E) s
theorem FnOk.imp{P:Program}{w:World}{K:PySem.W.Frag}{mg:Str->Option Value}{base:Heap}{CX:CXT}{k:Nat}{f:Addr}{fd:FuncData}{ps:List Str}{sp sp':Sp}(F:FnOk P w K mg base CX k f fd ps sp)
  (h:∀vs H Q E,sp' vs H Q E->sp vs H Q E):FnOk P w K mg base CX k f fd ps sp':=
 ⟨fun vs H Q E q=>F.len vs H Q E (h _ _ _ _ q),fun A outer s H args us vs Q E hr he hb hv hs=>F.run A outer s H args us vs Q E hr he hb hv (h _ _ _ _ hs)⟩
theorem Env0.make{P:Program}{w:World}{K:PySem.W.Frag}{mg:Str->Option Value}{base:Heap}{A:Around}{outer:List Env}{s:Shared}{H:Hp}(e:Env0 P w K mg base A outer s H)(C:Addr)(us:List Value)(kw:List (Str×Value)):
  Env0 P w K mg base (A.under (.builtin "type.__call__" ⟨.ref C :: us,kw⟩)) outer s H:=⟨by first|exact e.frames|(simpa [Around.under,Code.envs,Code.isFrame,pushEnvs] using e.frames),e.mod,e.bs,e.bsz,e.funs,e.frf,e.hok,e.bare⟩
section
variable{X:Cx}{pins:List (Addr×Obj)}{σ : St}{H:Hp}{s s':Shared}
theorem Inv.env0(I:Inv X pins σ H s): Env0 X.prog X.w X.K X.mg X.base X.A X.stack s H:=
 ⟨I.ok.frames,I.ok.mod,I.bs,md I.ok.bsz I.sz,I.stack,I.stkFree,I.hok,I.bare⟩
theorem Inv.after{Q:VK}{u:Value}(I:Inv X pins σ H s)(h:CE X.stack X.prog X.w H s Q u s'): EP X pins σ Q u s':=by
 obtain⟨v,H',os,bare,un,hok,r,q⟩:=h;obtain⟨hh,g,d,t,os'⟩:=s';obtain rfl:os'=s.os:=os;exact⟨v,H',I.call (h':=hh) (g':=g) (d':=d) (t':=t) (ch:=[]) un hok bare (fun b z=>absurd z (by simp)),r,q⟩
end
def qof(sp:Sp)(dvs:List V)(E:XK)(t:TA): TE:=fun σ H Q=>t σ H fun vs H1=>sp (vs++dvs) H1 Q E
def qa4(C:Addr)(m:Str)(sp:Sp)(dvs:List V)(E:XK)(ta:TE)(t:TA): TE:=fun σ H Q=>ta σ H fun x H1=>∃a dx fs,x=.ref a/\H1 a=some (.ins C dx fs)/\fs.lookup m=none /\
 t σ H1 fun vs H2=>sp (x :: (vs++dvs)) H2 Q E
def qog(C:Addr)(sp:Sp)(dvs:List V)(E:XK)(t:TA): TE:=fun σ H Q=>t σ H fun vs H1=>∀x dx,H1 x=none->H1 dx=none->dx≠x ->
 sp (.ref x :: (vs++dvs)) (upd (upd H1 dx (.own x)) x (.ins C dx [])) (fun v H2=>v=.non/\Q (.ref x) H2) E
def Binds(K:PySem.W.Frag)(fd:FuncData)(ps:List Str)(ds:List Value): Prop:=
 ∀(s:Shared) (us:List Value),K.In s.heap->(us++ds).length=ps.length->BindsTo s fd ⟨us,[]⟩ (ps.zip (us++ds))
def q1s(CX:CXT)(X:Cx)(E:XK): Prop:=∀(pins:List (Addr×Obj)) (σ : St) (H:Hp) (s:Shared) (e:Value) (s':Shared),Inv X pins σ H s->CX X.stack H s E e s'->X.xe e s'
section
variable{X:Cx}{CX:CXT}{k:Nat}{f C:Addr}{fd:FuncData}{ps:List Str}{sp:Sp}{dvs:List V}{ds:List Value}{E:XK}{x m:Str}{p pos apos:Pos}{e o:Expr}{es:List Expr}{ta:TE}{t:TA}
theorem qak{pins:List (Addr×Obj)}{σ : St}{H:Hp}{s:Shared}{Q:VK}{us:List Value}{vs:List V}(F:FnOk X.prog X.w X.K X.mg X.base CX k f fd ps sp)(hr:Room k X.A)(hb:Binds X.K fd ps ds)(hd:Vals dvs ds)(hx:q1s CX X E)
  (I:Inv X pins σ H s) (r:Vals vs us) (h:sp (vs++dvs) H Q E):wpAny (model X.prog X.w) X.A (call (.ref f) us) (EP X pins σ Q) X.xe s:=by
 have r2:Vals (vs++dvs) (us++ds):=r.append hd;have hl:(us++ds).length=ps.length:=by rw [<- r2.length];exact F.len _ _ _ _ h
 refine ue (g0c (F.run X.A X.stack s H ⟨us,[]⟩ (us++ds) (vs++dvs) Q E hr I.env0 (hb s us I.kIn hl) r2 h) fun r s' hq=>?_);cases r with
 | error e=>exact hx pins σ H s e s' I hq
 | ok fl=>
  cases fl with
  | ret u=>exact I.after hq
  | next=>exact False.elim hq
  | brk=>exact False.elim hq
  | cont=>exact False.elim hq
theorem q36(F:FnOk X.prog X.w X.K X.mg X.base CX k f fd ps sp)(hr:Room k X.A)(hg:Gl X x)(hm:X.mg x=some (.ref f))(hk:PySem.W.keepIn X.K (.ref f)=true)(hb:Binds X.K fd ps ds)(hd:Vals dvs ds)(hx:q1s CX X E)
  (ha:PA X (e :: es) t) (hdb:(x==("__debug__" : Str))=false:=by decide) (he:starEach (e :: es) X.env=(false,eval e X.env) :: starEach es X.env:=by rfl) (hpl:(backTo pos (starEach es X.env)).any (·.1)=false:=by rfl) :
  PE X (.Call (.Name x p) (e :: es) [] pos) (qof sp dvs E t):=by
 intro pins s σ H Q I h;refine uf (q1k I hg hm ?_ hdb);refine ug (h₀:=X.base) I.ok.mod.kin hk (thn (ha pos pins s σ H _ I h) fun us s1 ⟨vs,H1,I1,r,q⟩=>⟨I1.kIn,?_⟩) he hpl;exact qak F hr hb hd hx I1 r q
theorem qjy{pl:Sem Bool}(he:PE X o ta)(c:Cls X.K C)(hm:Meth X.K C m f)(F:FnOk X.prog X.w X.K X.mg X.base CX k f fd ps sp)(hr:Room k X.A)(hb:Binds X.K fd ps ds)(hd:Vals dvs ds)(hx:q1s CX X E)(ha:PA X (e :: es) t)
  (hst:starEach (e :: es) X.env=(false,eval e X.env) :: starEach es X.env:=by rfl) (hpl:(backTo pos (starEach es X.env)).any (·.1)=false:=by rfl)
  (ht:eval (.Call (.Attribute o m apos) (e :: es) [] pos) X.env=(do
   let ov <- eval o X.env
   standAt apos.atName
   let(f,first) <- holding [ov] (getMethod ov m pl)
   callWith pos f first (backTo pos (starEach (e :: es) X.env)) (backToKw pos (keywordEach [] X.env))):=by rfl) :
  PE X (.Call (.Attribute o m apos) (e :: es) [] pos) (qa4 C m sp dvs E ta t):=by
 intro pins s σ H Q I h;refine uv (pl:=pl) (thn (he pins s σ H _ I h) fun u s1 ⟨x,H1,I1,rx,a,dx,fs,ex,ea,l,q⟩=>?_) ht;subst ex;obtain rfl:u=Value.ref a:=rx;refine q3n I1 ea c hm l ?_;refine ug (first:=[.ref a]) (h₀:=X.base) I.ok.mod.kin hm.kp (thn (ha pos pins s1 σ H1 _ I1 q) fun us s2 ⟨vs,H2,I2,r,q2⟩=>⟨I2.kIn,?_⟩) hst hpl;exact qak (us:=.ref a :: us) (vs:=.ref a :: vs) F hr hb hd hx I2 (.cons rfl r) q2
theorem qhk{pl:Sem Bool}(he:PE X o ta)(c:Cls X.K C)(hm:Meth X.K C m f)(F:FnOk X.prog X.w X.K X.mg X.base CX k f fd ps sp)(hr:Room k X.A)(hb:Binds X.K fd ps ds)(hd:Vals dvs ds)(hx:q1s CX X E)
  (ht:eval (.Call (.Attribute o m apos) [] [] pos) X.env=(do
   let ov <- eval o X.env
   standAt apos.atName
   let(f,first) <- holding [ov] (getMethod ov m pl)
   callWith pos f first (backTo pos (starEach [] X.env)) (backToKw pos (keywordEach [] X.env))):=by rfl) :
  PE X (.Call (.Attribute o m apos) [] [] pos) (qa4 C m sp dvs E ta tNil):=by
 intro pins s σ H Q I h;refine uv (pl:=pl) (thn (he pins s σ H _ I h) fun u s1 ⟨x,H1,I1,rx,a,dx,fs,ex,ea,l,q⟩=>?_) ht;subst ex;obtain rfl:u=Value.ref a:=rx;refine q3n I1 ea c hm l ?_;exact PySem.W.callWith_K0 (first:=[.ref a]) I1.kIn hm.kp (qak (us:=[.ref a]) (vs:=[.ref a]) F hr hb hd hx I1 (.cons rfl .nil) q)
structure Mk(K:PySem.W.Frag)(C f:Addr): Prop where
 makes:PySem.W.makesIn K C=true
 init:PySem.W.findIn K (.ref C) "__init__" = some (some (.ref f))
 fn:PySem.W.isFn K (.ref f)=true
 kp:PySem.W.keepIn K (.ref C)=true
theorem qhl{pins:List (Addr×Obj)}{σ : St}{H:Hp}{s:Shared}{Q:VK}{us:List Value}{vs:List V}(M:Mk X.K C f)(F:FnOk X.prog X.w X.K X.mg X.base CX k f fd ps sp)(hr:Room (k+1) X.A)(hb:Binds X.K fd ps ds)(hd:Vals dvs ds)
  (hx:q1s CX X E) (I:Inv X pins σ H s) (r:Vals vs us)
  (h:∀x dx,H x=none->H dx=none->dx≠x->sp (.ref x :: (vs++dvs)) (upd (upd H dx (.own x)) x (.ins C dx [])) (fun v H2=>v=.non/\Q (.ref x) H2) E) :
  wpAny (model X.prog X.w) X.A (call (.ref C) us) (EP X pins σ Q) X.xe s:=by
 have hq:=h (s.heap.objs.size+1) s.heap.objs.size (I.hok.fresh (g27 _)) (I.hok.fresh (gv _)) (ma (g0q _));have I2:=Inv.made (C:=C) I;have r2:Vals (V.ref (s.heap.objs.size+1) :: (vs++dvs)) (Value.ref (s.heap.objs.size+1) :: (us++ds)):=.cons rfl (r.append hd);have hl:(Value.ref (s.heap.objs.size+1) :: us++ds).length=ps.length:=by
  have e:=r2.length;rw [F.len _ _ _ _ hq] at e;exact e.symm
 refine ue (qhj (f:=f) I.kIn M.makes M.init (ni.mp M.fn) (g0c (F.run _ X.stack _ _ ⟨Value.ref (s.heap.objs.size+1) :: us,[]⟩ (Value.ref (s.heap.objs.size+1) :: (us++ds)) _ _ E (hr.make C us [])
  (I2.env0.make C us []) (hb _ (Value.ref (s.heap.objs.size+1) :: us) I2.kIn hl) r2 hq) fun r s' hq'=>?_))
 cases r with
 | error e=>exact hx pins σ _ _ e s' I2 hq'
 | ok fl=>
  cases fl with
  | ret u=>
   obtain⟨v,H',I3,rv,ev,q3⟩:=I2.after hq';subst ev;exact⟨rv,⟨V.ref (s.heap.objs.size+1),H',I3,rfl,q3⟩⟩
  | next=>exact False.elim hq'
  | brk=>exact False.elim hq'
  | cont=>exact False.elim hq'
theorem qjz(M:Mk X.K C f)(F:FnOk X.prog X.w X.K X.mg X.base CX k f fd ps sp)(hr:Room (k+1) X.A)(hg:Gl X x)(hm:X.mg x=some (.ref C))(hb:Binds X.K fd ps ds)(hd:Vals dvs ds)(hx:q1s CX X E)
  (ha:PA X (e :: es) t) (hdb:(x==("__debug__" : Str))=false:=by decide) (he:starEach (e :: es) X.env=(false,eval e X.env) :: starEach es X.env:=by rfl) (hpl:(backTo pos (starEach es X.env)).any (·.1)=false:=by rfl) :
  PE X (.Call (.Name x p) (e :: es) [] pos) (qog C sp dvs E t):=by
 intro pins s σ H Q I h;refine uf (q1k I hg hm ?_ hdb);refine ug (h₀:=X.base) I.ok.mod.kin M.kp (thn (ha pos pins s σ H _ I h) fun us s1 ⟨vs,H1,I1,r,q⟩=>⟨I1.kIn,?_⟩) he hpl;exact qhl M F hr hb hd hx I1 r q
end
section
variable{X:Cx}{CX:CXT}{k:Nat}{f C:Addr}{fd:FuncData}{ps ks:List Str}{sp:Sp}{E:XK}{x m:Str}{p pos apos kpos:Pos}{e o:Expr}{es:List Expr}{kws:List Keyword}{te ta:TE}{t tk:TA}{nm:Option Str}
variable{g:List Value->List Value->List Value}{gV:List V->List V->List V}
end
structure FnScope(N P:List Str)(sc:Scope): Prop where
 kind:sc.kind=.function
 co:sc.isCoroutine=false
 gen:sc.isGenerator=false
 nd:N.Nodup
 pre:N.take P.length=P
 par:∀x∈P,sc.names.lookup x=some .local\/sc.names.lookup x=some .cell
 nofree:∀y∈sc.names,y.2 ≠ .free
theorem q8t{kindOf:Str->Option NameKind}{x:Str}: ∀ {binds:List (Str×Value)} {m:Str->Option Value},(∀v,(x,v)∉binds)->bindL kindOf binds m x=m x
 | [],_,_=>rfl
 | (n,v) :: r,m,h=>by
  unfold bindL;rw [q8t fun w hw=>h w (m5 _ hw)]
  split
  ·have:x≠n:=by rintro rfl;exact h v mj
   simp [this]
  ·rfl
theorem q8u{kindOf:Str->Option NameKind}{x:Str}: ∀ {binds:List (Str×Value)} {m:Str->Option Value},(∀v,(x,v)∉binds)->bindC kindOf binds m x=m x
 | [],_,_=>rfl
 | (n,v) :: r,m,h=>by
  unfold bindC;rw [q8u fun w hw=>h w (m5 _ hw)]
  split
  ·rfl
  ·have:x≠n:=by rintro rfl;exact h v mj
   simp [this]
theorem q8v{kindOf:Str->Option NameKind}{x:Str}{v:Value}: ∀ {P:List Str} {vs:List Value} {i:Nat} {m:Str->Option Value},P.Nodup->P[i]? = some x->vs[i]? = some v->kindOf x=some .local ->
  bindL kindOf (P.zip vs) m x=some v
 | [],_,_,_,_,h,_,_=>by simp at h
 | _ :: _,[],_,_,_,_,h,_=>by simp at h
 | p :: P,w :: vs,0,m,nd,h1,h2,hk=>by
  simp at h1 h2;subst h1;subst h2;show bindL kindOf ((p,w) :: P.zip vs) m p=_;unfold bindL;rw [q8t fun v hv=>(g0v.mp nd).1 (g22 hv).1,gw hk];simp
 | p :: P,w :: vs,i+1,m,nd,h1,h2,hk=>by
  show bindL kindOf ((p,w) :: P.zip vs) m x=_;unfold bindL;exact q8v (i:=i) (g0v.mp nd).2 (by simpa using h1) (by simpa using h2) hk
theorem q8w{kindOf:Str->Option NameKind}{x:Str}{v:Value}: ∀ {P:List Str} {vs:List Value} {i:Nat} {m:Str->Option Value},P.Nodup->P[i]? = some x->vs[i]? = some v->kindOf x≠some .local ->
  bindC kindOf (P.zip vs) m x=some v
 | [],_,_,_,_,h,_,_=>by simp at h
 | _ :: _,[],_,_,_,_,h,_=>by simp at h
 | p :: P,w :: vs,0,m,nd,h1,h2,hk=>by
  simp at h1 h2;subst h1;subst h2;show bindC kindOf ((p,w) :: P.zip vs) m p=_;unfold bindC;rw [q8u fun v hv=>(g0v.mp nd).1 (g22 hv).1,m4 hk];simp
 | p :: P,w :: vs,i+1,m,nd,h1,h2,hk=>by
  show bindC kindOf ((p,w) :: P.zip vs) m x=_;unfold bindC;exact q8w (i:=i) (g0v.mp nd).2 (by simpa using h1) (by simpa using h2) hk
def start(N:List Str)(vs:List V): St:=vs.map some++List.replicate (N.length-vs.length) none
def z7(CX:CXT)(P:Program)(w:World)(K:PySem.W.Frag)(mg:Str->Option Value)(base:Heap)(N:List Str)(qual:Str)(scope:Scope)(f:Addr)(cd:Value)(A:Around)(outer:List Env)(s:Shared)(H:Hp)(E:XK): Cx where
 prog:=P
 w:=w
 K:=K
 mg:=mg
 base:=base
 A:=A.deeper (envOfC qual scope s.heap.objs.size f cd)
 N:=N
 s₀:=s
 H₀:=H
 env:=envOfC qual scope s.heap.objs.size f cd
 outer:=outer
 stack:=envOfC qual scope s.heap.objs.size f cd :: outer
 ex:=[]
 calm:=true
 fn:=fun _=>true
 pn:=[]
 xe:=fun e s'=>wpAny (model P w) (A.deeper (envOfC qual scope s.heap.objs.size f cd)) (leaving (envOfC qual scope s.heap.objs.size f cd) e) (fun _ s''=>CX outer H s E e s'') (fun e' s''=>CX outer H s E e' s'') s'
theorem qal{sc:Scope}{n:Nat}{x:Str}(h:sc.names.lookup x=some .cell): ∃c,(cellsFrom n sc.names []).lookup x=some c:=by
 have q:=g28 sc.names n [] (.inl h);exact tj.mp q
theorem qfm{CX:CXT}{P:Program}{w:World}{K:PySem.W.Frag}{mg:Str->Option Value}{base:Heap}{N ps:List Str}{qual:Str}{scope:Scope}{f:Addr}{cd:Value}{A:Around}{outer:List Env}{s s1:Shared}{H:Hp}{E:XK}{us:List Value}{vs:List V}
  (S:FnScope N ps scope) (hd:A.handled=none) (e0:Env0 P w K mg base A outer s H) (hl:vs.length=ps.length) (r:Vals vs us)
  (x:InCallC s s.heap.objs.size (bindL (envOfC qual scope s.heap.objs.size f cd).kindOf (ps.zip us) fun _=>none) (cellsFrom (s.heap.objs.size+1) scope.names []) (bindC (envOfC qual scope s.heap.objs.size f cd).kindOf (ps.zip us) fun _=>none) s1) :
  Inv (z7 CX P w K mg base N qual scope f cd A outer s H E) [] (start N vs) H s1:=by
 have hpl:ps.length<=N.length:=by have:=p8 List.length S.pre;rw [p9] at this;omega
 obtain⟨h1,tk,rfl,hk⟩:=x.done;have noA:∀b:Addr,b∉(z7 CX P w K mg base N qual scope f cd A outer s H E).ex:=fun b z=>absurd (show b∈([]:List Addr) from z) (by simp);refine⟨⟨e0.mod,S.kind,rfl,rfl,gv _,fun y z c h1 h2=>?_,fun y hy=>?_,fun y c _ h=>?_,fun _=>hd,Around.frames_deeper e0.frames,.inr ⟨rfl,rfl⟩,fun b z=>absurd z (noA b),e0.bs,e0.bsz,fun b _ _=>noA b,fun b z=>absurd z (noA b),e0.funs,e0.frf⟩,
  rfl,e0.bare,Un.kept hk,⟨_,x.toInCall.ns,fun i y v h1 h2 h3=>?_⟩,fun y c h=>⟨_,x.cell y c h⟩,e0.hok.fresh (gv _),fun y c h=>?_,fun p hp=>absurd (show p∈([]:List (Addr×Obj)) from hp) (by simp),e0.hok.kept hk,?_⟩
 ·exact name_of_addr x.apart (ua h1) (ua h2)
 ·have hy:scope.names.lookup y=some .cell\/scope.names.lookup y=some .free:=hy
  rcases hy with hy|hy
  ·exact qal hy
  ·exact absurd rfl (S.nofree _ (ua hy))
 ·exact g2g (x.above y c (ua h))
 ·have hi:i<vs.length:=by
   unfold start at h2
   by_cases hi:i<vs.length
   ·exact hi
   ·rw [n9 (by simpa using hi)] at h2
    rw [nh] at h2
    split at h2 <;> cases h2
  have ha:vs[i]? = some v:=by
   unfold start at h2;rw [mv (by simpa using hi),m9] at h2;cases e:vs[i]? with
   | none=>rw [e] at h2;cases h2
   | some a=>rw [e] at h2;cases h2;rfl
  obtain⟨u,hu,rv⟩:=r.get ha;have hp:ps[i]? = some y:=by
   rw [<- S.pre,List.getElem?_take_of_lt (by omega)];exact h1
  have ndP:ps.Nodup:=by rw [<- S.pre];exact S.nd.sublist (List.take_sublist _ _)
  refine⟨u,rv,?_⟩;rcases S.par y (List.mem_of_getElem? hp) with k|k
  ·exact .inl ⟨k,q8v ndP hp hu k⟩
  ·obtain⟨c,e⟩:=qal (n:=s.heap.objs.size+1) k
   refine .inr ⟨.inl k,c,e,?_⟩;have q:=x.cell y c e;rw [q8w ndP hp hu (by show scope.names.lookup y≠_;rw [k];decide)] at q;exact q
 ·exact e0.hok.fresh (g2g (x.above y c (ua h)))
 ·unfold start
  show _=N.length;rw [mq,gx,uw];omega
theorem q6w{CX:CXT}{P:Program}{w:World}{K:PySem.W.Frag}{mg:Str->Option Value}{base:Heap}{k:Nat}{f:Addr}{name qual:Str}{params:Arguments}{body:List Stmt}{scope:Scope}{dV kV doc pm cdv ct oc:Value}{an od:Option Addr}
  {osl:Array (Option Value)} {N ps:List Str} {sp:Sp} (lk:K.lookup f=some ⟨oc,od,.func (PySem.W.fnOf name qual params body scope dV kV doc pm an cdv ct),osl⟩) (hcd:PySem.W.codeIn K cdv qual=true) (S:FnScope N ps scope)
  (len:∀vs H Q E,sp vs H Q E->vs.length=ps.length)
  (hbody:∀(A:Around) (outer:List Env) (s:Shared) (H:Hp) (vs:List V) (Q:VK) (E:XK),Room k (A.deeper (envOfC qual scope s.heap.objs.size f cdv))->sp vs H Q E ->
   ∃t,PSs (z7 CX P w K mg base N qual scope f cdv A outer s H E) body t/\t {nx:=fun _ H'=>Q .non H',rt:=Q} (start N vs) H) :
  FnOk P w K mg base CX (k+1) f (PySem.W.fnOf name qual params body scope dV kV doc pm an cdv ct) ps sp:=by
 refine⟨len,fun A outer s H args us vs Q E hr e0 hb r hsp=>?_⟩;have hl:=len _ _ _ _ hsp;have KX:K.In s.heap:=e0.mod.kin.keeps fun b o e=>(e0.bs b o e).1;have lim:s.heap.NoLimit:=e0.mod.nolimit.keeps fun b o e=>(e0.bs b o e).1;have hkind:∀y∈ps.zip us,scope.names.lookup y.1=some .local\/(scope.names.lookup y.1=some .cell/\((cellsFrom (s.heap.objs.size+1) scope.names []).lookup y.1).isSome=true):=fun⟨n,v⟩ hy=>by
  rcases S.par n (g22 hy).1 with q|q
  ·exact .inl q
  ·exact .inr ⟨q,g28 _ _ _ (.inl q)⟩
 refine codeAny_call_function hr.depth (KX _ _ lk) rfl S.co S.gen rfl (PySem.W.codeRec_of KX hcd) (hb _ _ _ _ ?_);refine wpAny_newFunctionEnv_cells S.kind hkind fun env he s1 x=>?_;subst he;refine⟨lim.keeps x.toInCall.keep,codeAny_func ?_⟩;obtain⟨t,ht,hq⟩:=hbody A outer s H vs Q E (hr.deeper _) hsp;have I:Inv (z7 CX P w K mg base N qual scope f cdv A outer s H E) [] (start N vs) H s1:=qfm S hr.hd e0 hl r x;refine mx (ht [] s1 (start N vs) H _ I hq) (fun fl s' hs=>?_) fun e s' hs=>hs;have fin:∀ {σ':St} {H':Hp} {v:V} {u:Value},Inv (z7 CX P w K mg base N qual scope f cdv A outer s H E) [] σ' H' s'->RelV v u->Q v H'->CE outer P w H s Q u s':=
  fun {σ' H' v u} J rv q=>⟨v,H',J.os,J.bare,J.base,J.hok,rv,q⟩
 cases fl with
 | ret u=>
  obtain⟨v, σ',H',J,rv,q⟩:=hs;exact fin J rv q
 | next=>
  obtain⟨σ',H',J,q⟩:=hs;exact fin (v:=V.non) (u:=Value.none) J rfl q
 | brk=>
  obtain⟨_,_,_,q⟩:=hs;exact False.elim q
 | cont=>
  obtain⟨_,_,_,q⟩:=hs;exact False.elim q
section
variable{X:Cx}{x:Str}{p pos:Pos}{e:Expr}{es:List Expr}{t:TA}{id T:String}{r:List V->Hp->VK->Prop}
def tCB(r:List V->Hp->VK->Prop)(t:TA): TE:=fun σ H Q=>t σ H fun vs H1=>r vs H1 Q
theorem q1t(hc:jw X (.builtin id) r)(hg:Gl X x)(hm:X.mg x=none)(hv:bootBuiltins x=some (.builtin id))(ha:PA X (e :: es) t)(hn:x≠"__name__" :=by decide)(hdb:(x==("__debug__" : Str))=false:=by decide)
  (he:starEach (e :: es) X.env=(false,eval e X.env) :: starEach es X.env:=by rfl) (hpl:(backTo pos (starEach es X.env)).any (·.1)=false:=by rfl):PE X (.Call (.Name x p) (e :: es) [] pos) (tCB r t):=by
 intro pins s σ H Q I h;refine uf (q4e I hg hm hv ?_ hn hdb);exact g0w (thn (ha pos pins s σ H _ I h) fun us s1 ⟨vs,H1,I1,r1,q1⟩=>hc pins s1 σ H1 vs us Q I1 r1 q1) he hpl
theorem qfn(hc:jw X (.type T) r)(hg:Gl X x)(hm:X.mg x=none)(hv:bootBuiltins x=some (.type T))(ha:PA X (e :: es) t)(hn:x≠"__name__" :=by decide)(hdb:(x==("__debug__" : Str))=false:=by decide)
  (he:starEach (e :: es) X.env=(false,eval e X.env) :: starEach es X.env:=by rfl) (hpl:(backTo pos (starEach es X.env)).any (·.1)=false:=by rfl):PE X (.Call (.Name x p) (e :: es) [] pos) (tCB r t):=by
 intro pins s σ H Q I h;refine uf (q4e I hg hm hv ?_ hn hdb);exact g02 (thn (ha pos pins s σ H _ I h) fun us s1 ⟨vs,H1,I1,r1,q1⟩=>hc pins s1 σ H1 vs us Q I1 r1 q1) he hpl
end
end L2
namespace HT
open PySem PyProof.Rows
section
open PySem.SeqAt
open PySem.AutoSeq1 (wpAny_loadPart')
open PySem.MeetsSeq PySem.MeetsSeq2 PySem.MeetsSeq3
end
section
variable{prog:Program}{w:World}{A:Around}{E:Value->Shared->Prop}{s:Shared}
theorem cat_tup{t b:Addr}{vs ws:List Value}{Q:Value->Shared->Prop}(ht:IsTup s.heap t vs.toArray)(hb:IsTup s.heap b ws.toArray)(hv:vs≠[])
  (h1:ws=[]->Q (.ref t) s) (h2:ws≠[]->Q (.ref s.heap.objs.size) {s with heap:=s.heap.push {cls:=.type "tuple",data:=.seq (vs++ws).toArray} })
  (hsz:vs.length+ws.length<=sizeLine):wpAny (model prog w) A (binaryOp .Add (.ref t) (.ref b)) Q E s:=by
 obtain⟨⟨cls,dd,data,sl⟩,ho,hc,n,hd⟩:=id ht;obtain⟨⟨cls2,dd2,data2,sl2⟩,ho2,hc2,n2,hd2⟩:=id hb;simp only at hc hd hc2 hd2;subst hc hd hc2 hd2;have e:vs.toArray++ws.toArray=(vs++ws).toArray:=by simp
 by_cases hw:ws=[]
 ·exact g1u ⟨_,ho,rfl⟩ ⟨_,ho2,rfl⟩ g1v seq_tuple_add g0m g0h (g0d _ _)
   (tuple_addW1 t b vs.toArray ws.toArray n n2 dd dd2 sl sl2 (by simpa using hv) (by simp [hw])) ⟨ho,ho2,h1 hw⟩
 ·refine g1u ⟨_,ho,rfl⟩ ⟨_,ho2,rfl⟩ g1v seq_tuple_add g0m g0h (g0d _ _)
   (tuple_addW2 t b vs.toArray ws.toArray n n2 dd dd2 sl sl2 (by simpa using hv) (by simpa using hw) (by rw [gp,gp];exact hsz)) ⟨ho,ho2,?_⟩
  rw [e];exact h2 hw
def sIx(n d:Nat): Option Int->Nat
 | none=>d
 | some v=>if v<0 then(v+(n:Int)).toNat else min v.toNat n
theorem sIx_none(n d:Nat): sIx n d none=d:=rfl
theorem sIx_nat(n d k:Nat): sIx n d (some (k:Int))=min k n:=by
 show(if(k:Int)<0 then((k:Int)+(n:Int)).toNat else min (k:Int).toNat n)=min k n;rw [m4 (by omega),um]
theorem qmb(n d:Nat)(hd:d<=n)(o:Option Int): sIx n d o<=n:=by
 cases o with
 | none=>exact hd
 | some v=>
  show(if v<0 then(v+(n:Int)).toNat else min v.toNat n)<=n
  by_cases hv:v<0
  ·rw [gw hv];omega
  ·rw [m4 hv];exact Nat.min_le_right _ _
theorem qdb(v:Int)(n d:Nat): (if v<0 then max (v+(n:Int)) 0 else min v (n:Int))=((sIx n d (some v):Nat):Int):=by
 show(if v<0 then max (v+(n:Int)) 0 else min v (n:Int))=(((if v<0 then(v+(n:Int)).toNat else min v.toNat n):Nat):Int)
 by_cases hv:v<0
 ·simp only [gw hv];omega
 ·simp only [m4 hv];omega
theorem qed(lo hi:Option Int)(n:Nat): Builtin.Slice.sliceAdjust lo hi 1 (n:Int)=(((sIx n 0 lo:Nat):Int),((sIx n n hi:Nat):Int)):=by
 have h1:¬((1:Int)<0):=by omega
 unfold Builtin.Slice.sliceAdjust;simp only [h1,tq];refine Prod.ext ?_ ?_
 ·cases lo with
  | none=>rfl
  | some v=>exact qdb v n 0
 ·cases hi with
  | none=>rfl
  | some v=>exact qdb v n n
theorem qee(i j:Nat): Builtin.Slice.slicePlaces (i:Int) (j:Int) 1=j-i:=by
 unfold Builtin.Slice.slicePlaces;have h1:(1:Int)>0:=by omega
 simp only [h1,nv,Int.ediv_one]
 split <;> omega
theorem q6x{v:Value}{o:Option Int}{Q:Option Int->Shared->Prop}(p:IsPart v o)(h:Q o s): wpAny (model prog w) A (Builtin.Slice.slicePartIndex v) Q E s:=by
 cases p with
 | none=>exact slicePart_none h
 | int i t=>exact slicePart_int h
theorem sliceApplied_gen{sl:Addr}{vl vu:Value}{lo hi:Option Int}{n:Nat}{Q:Int×Int×Nat->Shared->Prop}(hs:s.heap.IsSliceOf sl vl vu .none)(pl:IsPart vl lo)(pu:IsPart vu hi)
  (h:Q (((sIx n 0 lo:Nat):Int),1,sIx n n hi-sIx n 0 lo) s):wpAny (model prog w) A (Builtin.Slice.sliceApplied (.ref sl) (pure (n:Int))) Q E s:=by
 obtain⟨os,hos,hcs,hds⟩:=id hs;unfold Builtin.Slice.sliceApplied Builtin.Slice.sliceFields;refine g6 (g6 (n8 hos hds (x:=vl) rfl (g6 (n8 hos hds (x:=vu) rfl (g6 (n8 hos hds (x:=.none) rfl (gi ?_)))))));refine g6 (slicePart_none ?_);show wpAny _ _ (if((1:Int)==0)=true then _ else _) _ _ s;rw [m4 (by decide)];refine g6 (q6x pl (g6 (q6x pu (g6 (gi ?_)))));show wpAny _ _ (match Builtin.Slice.sliceAdjust lo hi 1 (n:Int) with|(lo,hi)=>pure (lo,(1:Int),Builtin.Slice.slicePlaces lo hi 1)) _ _ s;rw [qed lo hi n];show wpAny _ _ (pure (((sIx n 0 lo:Nat):Int),(1:Int),Builtin.Slice.slicePlaces ((sIx n 0 lo:Nat):Int) ((sIx n n hi:Nat):Int) 1)) _ _ s;rw [qee];exact gi h
theorem qhm(xs:Array Value)(i k:Nat): ((List.range k).filterMap fun(m:Nat)=>xs[((i:Int)+(m:Int)*1).toNat]?).toArray=((xs.toList.drop i).take k).toArray:=by
 have e:(fun(m:Nat)=>xs[((i:Int)+(m:Int)*1).toNat]?)=fun m=>xs[i+m]? :=by
  funext m
  have:((i:Int)+(m:Int)*1).toNat=i+m:=by omega
  rw [this]
 rw [e];have:=pick_run xs i k;rw [List.filterMap_map] at this;have e2:((fun x=>xs[x]?) ∘ fun x=>i+x)=fun m=>xs[i+m]? :=rfl;rw [e2] at this;rw [this]
theorem getItem_tuple_cut{t sl:Addr}{items:Array Value}{vl vu:Value}{lo hi:Option Int}{Q:Value->Shared->Prop}(ht:IsTup s.heap t items)(hs:s.heap.IsSliceOf sl vl vu .none)(pl:IsPart vl lo)(pu:IsPart vu hi)
  (hw:¬(sIx items.size 0 lo=0/\sIx items.size items.size hi=items.size))
  (h:Q (.ref s.heap.objs.size) {s with heap:=s.heap.push {cls:=.type "tuple",data:=.seq ((items.toList.drop (sIx items.size 0 lo)).take (sIx items.size items.size hi-sIx items.size 0 lo)).toArray} })
  (hsz:items.size<=sizeLine):wpAny (model prog w) A (getItem (.ref t) (.ref sl)) Q E s:=by
 have htake:sizeOk (.seq ((items.toList.drop (sIx items.size 0 lo)).take (sIx items.size items.size hi-sIx items.size 0 lo)).toArray):=by
  show((items.toList.drop (sIx items.size 0 lo)).take (sIx items.size items.size hi-sIx items.size 0 lo)).toArray.size<=sizeLine;rw [gp,p9,g1w,g17];omega
 have hj:sIx items.size items.size hi<=items.size:=qmb _ _ (gv _) hi;obtain⟨os,hos,hcs,hds⟩:=id hs;have hTs:s.TypeIs (.ref sl) "slice" :=⟨os,hos,hcs⟩
 unfold getItem
 try with_reducible refine nj ?_
 first|refine g6 (gi ?_)|skip
 refine g6 (wpAny_sequenceKey ht.typeIs (by decide) ?_);refine g6 (p5 (name:=Str.ofString "__getitem__") ht.typeIs ng
  (tw ng ht.typeIs entry_tuple_getitem ?_ (args_tuple_getitem _ _)))
 show wpAny _ _ (Builtin.Tuple.tupleItemsOf (.ref t) >>= _) _ _ s;refine g6 (tupleItemsOf_ ht ?_);refine g6 (g1x hTs ?_);rw [gw (by decide)];refine g6 (sliceApplied_gen hs pl pu ?_);have hno:¬((((sIx items.size 0 lo:Nat):Int)==0&&(1:Int)==1&&(sIx items.size items.size hi-sIx items.size 0 lo)==items.size)=true):=by
  intro q;rw [m7,m7] at q;have q1:((sIx items.size 0 lo:Nat):Int)=0:=eq_of_beq q.1.1;have q2:sIx items.size items.size hi-sIx items.size 0 lo=items.size:=eq_of_beq q.2;exact hw ⟨by omega,by omega⟩
 show wpAny _ _ (if(((sIx items.size 0 lo:Nat):Int)==0&&(1:Int)==1&&(sIx items.size items.size hi-sIx items.size 0 lo)==items.size)=true then _ else _) _ _ s;rw [m4 hno,qhm]
 first
  | exact g6 (m:=Builtin.Tuple.tupleExact _) (nu (gi ⟨_,rfl,gi h⟩) htake)
  | exact g6 (m:=Builtin.Tuple.tupleExact _) (nu (g6 (gi (gi ⟨_,rfl,gi h⟩))) htake)
  | exact g6 (g6 (m:=Builtin.Tuple.tupleExact _) (nu (gi (gi ⟨_,rfl,gi h⟩)) htake))
  | exact g6 (g6 (m:=Builtin.Tuple.tupleExact _) (nu (gi ⟨_,rfl,gi h⟩) htake))
end
end HT
namespace L2
open PySem PySem.Spec PyProof.Rows
abbrev TO:=St->Hp->(Option Int->Hp->Prop)->Prop
def PO(X:Cx)(e:Option Expr)(t:TO): Prop:=
 ∀(pins:List (Addr×Obj)) (s:Shared) (σ : St) (H:Hp) (Q:Option Int->Hp->Prop),Inv X pins σ H s->t σ H Q ->
  wpAny (model X.prog X.w) X.A (evalPart e X.env) (fun u s'=>∃o H',Inv X pins σ H' s'/\IsPart u o/\Q o H') X.xe s
def tNoPart:TO:=fun _ H Q=>Q none H
def qoh(t:TE): TO:=fun σ H Q=>t σ H fun x H1=>∃i,x=.int i/\Q (some i) H1
theorem intsAre_of{ns:List Int}: ∀ {us:List Value},Vals (ns.map V.int) us->IntsAre us ns:=by
 induction ns with
 | nil=>intro us r;rw [ux] at r;cases r;exact .nil
 | cons n ns ih=>
  intro us r;rw [mi] at r;cases r with
  | cons r1 r2=>
   obtain⟨t,e⟩:=r1;subst e;exact .cons n t (ih r2)
section
variable{X:Cx}{e:Expr}{te:TE}{lo hi:Option Expr}{tl th:TO}{pos p2:Pos}
theorem qk0:PO X none tNoPart:=by
 intro pins s σ H Q I h;rw [evalPart_none];exact gi ⟨none,H,I,.none,h⟩
theorem qk1(h:PE X e te): PO X (some e) (qoh te):=by
 intro pins s σ H Q I hw;rw [evalPart_some];refine thn (h pins s σ H _ I hw) fun u s1 ⟨x,H1,I1,r1,q1⟩=>?_;obtain⟨i,rfl,q⟩:=q1;obtain⟨t,rfl⟩:=r1;exact⟨some i,H1,I1,.int i t,q⟩
def SlR(X:Cx)(r:V->Option Int->Option Int->Hp->VK->Prop): Prop:=
 ∀(pins:List (Addr×Obj)) (s:Shared) (σ : St) (H:Hp) (x:V) (v vl vu:Value) (lo hi:Option Int) (sl:Addr) (Q:VK),Inv X pins σ H s->RelV x v->s.heap.IsSliceOf sl vl vu .none->IsPart vl lo->IsPart vu hi->r x lo hi H Q ->
  ∃T id,typeLookup (.type T) "__getitem__" = pure (some (.builtin id))/\s.TypeIs v T/\wpAny (model X.prog X.w) X.A (getItem v (.ref sl)) (EP X pins σ Q) X.xe s
theorem SlR.or{r r':V->Option Int->Option Int->Hp->VK->Prop}(h:SlR X r)(h':SlR X r'): SlR X (fun x lo hi H Q=>r x lo hi H Q\/r' x lo hi H Q):=by
 intro pins s σ H x v vl vu lo hi sl Q I rx hs pl pu q;rcases q with q|q
 ·exact h pins s σ H x v vl vu lo hi sl Q I rx hs pl pu q
 ·exact h' pins s σ H x v vl vu lo hi sl Q I rx hs pl pu q
def tSl(r:V->Option Int->Option Int->Hp->VK->Prop)(te:TE)(tl th:TO): TE:=fun σ H Q=>te σ H fun x H1=>tl σ H1 fun l H2=>th σ H2 fun u H3=>r x l u H3 Q
theorem qhn{r:V->Option Int->Option Int->Hp->VK->Prop}(hr:SlR X r)(he:PE X e te)(hl:PO X lo tl)(hu:PO X hi th): PE X (.Subscript e (.Slice lo hi none p2) pos) (tSl r te tl th):=by
 intro pins s σ H Q I h;refine Subscript_ (thn (he pins s σ H _ I h) fun v s1 ⟨x,H1,I1,r1,q1⟩=>?_);refine wpAny_Slice (thn (hl pins s1 σ H1 _ I1 q1) fun vl s2 ⟨l,H2,I2,pl,q2⟩=>thn (hu pins s2 σ H2 _ I2 q2) fun vu s3 ⟨u,H3,I3,pu,q3⟩=>?_);rw [evalPart_none];refine gi ?_;have I4:Inv X pins σ H3 {s3 with heap:=s3.heap.push {cls:=.type "slice",data:=.fields #[vl,vu,.none]} }:=I3.kept (t':=s3.toks) fun b ob q=>gh _ q;obtain⟨T,id,hT,ht,hg⟩:=hr pins {s3 with heap:=s3.heap.push {cls:=.type "slice",data:=.fields #[vl,vu,.none]} } σ H3 x v vl vu l u s3.heap.objs.size Q I4 r1 (Heap.IsSliceOf.new ..) pl pu q3;show wpAny (model X.prog X.w) X.A (subscriptTail e (.Slice lo hi none p2) v (.ref s3.heap.objs.size)) (EP X pins σ Q) X.xe {s3 with heap:=s3.heap.push {cls:=.type "slice",data:=.fields #[vl,vu,.none]} };exact tail_any (ops:=[.ref s3.heap.objs.size,v]) ht hT hg (by with_unfolding_all rfl)
def q17(xs:List V)(lo hi:Option Int): List V:=(xs.drop (HT.sIx xs.length 0 lo)).take (HT.sIx xs.length xs.length hi-HT.sIx xs.length 0 lo)
theorem q63(xs:List V)(lo hi:Option Int): (q17 xs lo hi).length<=xs.length:=by
 unfold q17;rw [p9,g1w];omega
def qpj(K:PySem.W.Frag): V->Option Int->Option Int->Hp->VK->Prop:=fun x lo hi H Q=>∃a xs,x=.ref a/\SqT K H a xs /\
 ¬(HT.sIx xs.length 0 lo=0/\HT.sIx xs.length xs.length hi=xs.length)/\∀p,H p=none->Q (.ref p) (upd H p (.tup (q17 xs lo hi)))
theorem sl_tup:SlR X (qpj X.K):=by
 intro pins s σ H x v vl vu lo hi sl Q I rx hs pl pu h;obtain⟨a,xs,rfl,hx,hw,q⟩:=h;cases rx;obtain⟨its,r,ht,hz⟩:=I.tuple hx;have hlen:its.toArray.size=xs.length:=by rw [gp];exact r.length.symm
 refine⟨"tuple",_,ng.lookup,ht.typeIs,?_⟩;refine HT.getItem_tuple_cut ht hs pl pu (by rw [hlen];exact hw) ?_ (by rw [hlen];exact hz);rw [hlen];refine⟨.ref s.heap.objs.size,_,I.laid (t':=s.toks) (o:=.tup (q17 xs lo hi)) (fun b ob q=>gh _ q) (gv _) ?_,rfl,q _ (I.hok.fresh (gv _))⟩;exact⟨md (q63 xs lo hi) hz,_,(r.drop (HT.sIx xs.length 0 lo)).take (HT.sIx xs.length xs.length hi-HT.sIx xs.length 0 lo),TupX.new _ _⟩
def qoi(K:PySem.W.Frag): R2:=fun x y H Q=>∃a b xs ys,x=.ref a/\y=.ref b/\SqT K H a xs/\SqT K H b ys/\xs≠[]/\xs.length+ys.length<=sizeLine /\
 (ys=[]->Q (.ref a) H)/\(ys≠[]->∀p,H p=none->Q (.ref p) (upd H p (.tup (xs++ys))))
theorem Vals.nil_iff{xs:List V}{us:List Value}(r:Vals xs us): us=[]↔xs=[]:=by
 cases r with
 | nil=>simp
 | cons _ _=>simp
theorem qk2:OpR X (binaryOp .Add) (qoi X.K):=by
 intro pins s σ H x y v u Q I rx ry h;obtain⟨a,b,xs,ys,rfl,rfl,ha,hb,hx,hz,q1,q2⟩:=h;cases rx;cases ry;obtain⟨its,r1,p1,_⟩:=I.tuple ha;obtain⟨its2,r2,p2,_⟩:=I.tuple hb;refine HT.cat_tup p1 p2 (fun z=>hx (r1.nil_iff.mp z)) (fun z=>⟨.ref a,H,I,rfl,q1 (r2.nil_iff.mp z)⟩) (fun z=>?_) (by rw [<- r1.length, <- r2.length];exact hz);refine⟨.ref s.heap.objs.size,_,I.laid (t':=s.toks) (o:=.tup (xs++ys)) (fun b ob q=>gh _ q) (gv _) ?_,rfl,q2 (fun w=>z (r2.nil_iff.mpr w)) _ (I.hok.fresh (gv _))⟩;exact⟨by rw [mq];exact hz,_,r1.append r2,TupX.new _ _⟩
end
def ixN(n:Nat)(i:Int): Option Nat:=if 0<=i then(if i<n then some i.toNat else none) else if -(n:Int)<=i then some (i+n).toNat else none
def atI{α : Type}(xs:List α)(i:Int): Option α :=(ixN xs.length i).bind fun j=>xs[j]?
theorem qk3{n:Nat}{i:Int}{j:Nat}(h:ixN n i=some j): seqIndex? i n=some j/\j<n /\ -(n:Int)<=i/\i<n:=by
 unfold ixN at h
 by_cases h0:0<=i
 ·rw [gw h0] at h
  by_cases h1:i<n
  ·rw [gw h1] at h
   have e:i.toNat=j:=mn h;exact⟨by rw [seqIndex_of h0 h1,e],by omega,by omega,h1⟩
  ·rw [m4 h1] at h;cases h
 ·rw [m4 h0] at h
  by_cases h1 : -(n:Int)<=i
  ·rw [gw h1] at h
   have e:(i+n).toNat=j:=mn h;exact⟨by rw [seqIndex_neg (by omega) h1,e],by omega,h1,by omega⟩
  ·rw [m4 h1] at h;cases h
theorem q7t{α : Type}{xs:List α}{i:Int}{v : α}(h:atI xs i=some v): ∃j,seqIndex? i xs.length=some j/\xs[j]? = some v/\j<xs.length /\ -(xs.length:Int)<=i/\i<xs.length:=by
 unfold atI at h;cases e:ixN xs.length i with
 | none=>rw [e] at h;cases h
 | some j=>
  rw [e] at h;obtain⟨h1,h2,h3,h4⟩:=qk3 e;exact⟨j,h1,h,h2,h3,h4⟩
def qdc(b:Expr): Prop:=∀o i,subscripted b false o i=operate [o,i] (getItem o i)
def IxR(X:Cx)(r:R2): Prop:=
 ∀(value slice:Expr) (pins:List (Addr×Obj)) (s:Shared) (σ : St) (H:Hp) (x y:V) (v u:Value) (Q:VK),Inv X pins σ H s->RelV x v->RelV y u->r x y H Q ->
  subscripted slice false v u=operate [v,u] (getItem v u)->wpAny (model X.prog X.w) X.A (subscriptTail value slice v u) (EP X pins σ Q) X.xe s
def MtR(X:Cx)(id:String)(r:V->List V->Hp->VK->Prop): Prop:=
 ∀(pins:List (Addr×Obj)) (s:Shared) (σ : St) (H:Hp) (x:V) (xs:List V) (v:Value) (us:List Value) (Q:VK),Inv X pins σ H s->RelV x v->Vals xs us->r x xs H Q ->
  wpAny (model X.prog X.w) X.A (call (.builtin id) (v :: us)) (EP X pins σ Q) X.xe s
section
variable{X:Cx}{a b:Expr}{ta tb:TE}{pos:Pos}
theorem IxR.or{r r':R2}(h:IxR X r)(h':IxR X r'): IxR X (fun x y H Q=>r x y H Q\/r' x y H Q):=by
 intro value slice pins s σ H x y v u Q I rx ry q hs;rcases q with q|q
 ·exact h value slice pins s σ H x y v u Q I rx ry q hs
 ·exact h' value slice pins s σ H x y v u Q I rx ry q hs
theorem qoj{r:R2}(hr:IxR X r)(ha:PE X a ta)(hb:PE X b tb)(hs:qdc b): PE X (.Subscript a b pos) (tOp r ta tb):=by
 intro pins s σ H Q I h;exact Subscript_ (qhe ha hb I h fun v u s2 x y H2 I2 rx ry q=>hr a b pins s2 σ H2 x y v u Q I2 rx ry q (hs _ _))
def qmc(K:PySem.W.Frag): R2:=fun x y H Q=>∃p xs i v,x=.ref p/\y=.int i/\SqL K H p xs/\atI xs i=some v/\Q v H
def qmd(K:PySem.W.Frag): R2:=fun x y H Q=>∃p xs i v,x=.ref p/\y=.int i/\SqT K H p xs/\atI xs i=some v/\Q v H
def rIxS:R2:=fun x y H Q=>∃z i c,x=.str z/\y=.int i/\z.length<=sizeLine/\atI z.cps.toList i=some c/\Q (.str ⟨#[c]⟩) H
theorem ix_list:IxR X (qmc X.K):=by
 intro value slice pins s σ H x y v u Q I rx ry h hs;obtain⟨p,xs,i,z,rfl,rfl,hq,he,q⟩:=h;cases rx;obtain⟨t,rfl⟩:=ry;obtain⟨its,r,pl,hz⟩:=I.list hq;obtain⟨j,h1,h2,h3,h4,h5⟩:=q7t he;obtain⟨w,ew,rw'⟩:=r.get h2;have hl:=r.length;have hn:=q4f;have fin:EP X pins σ Q w s:=⟨z,H,I,rw',q⟩
 by_cases h0:0<=i
 ·have hj:i.toNat=j:=by
   rw [seqIndex_of h0 h5] at h1;exact mn h1
  exact item_listR pl.isList h0 (by omega) (by rw [hj];simpa using ew) fin hs
 ·have hj:(i+(its.toArray.size:Int)).toNat=j:=by
   rw [seqIndex_neg (by omega) h4] at h1;rw [gp, <- hl];exact mn h1
  exact subscriptTail_builtinR (x:=w) pl.isList.typeIs slot_list_getitem.lookup
   (wpAny_getItem_list_neg (Q:=fun r s'=>r=w/\EP X pins σ Q r s') pl.isList (by omega) (by rw [gp] <;> omega) (by omega) (by rw [hj];simpa using ew) ⟨rfl,fin⟩) hs
theorem ix_tup:IxR X (qmd X.K):=by
 intro value slice pins s σ H x y v u Q I rx ry h hs;obtain⟨p,xs,i,z,rfl,rfl,hq,he,q⟩:=h;cases rx;obtain⟨t,rfl⟩:=ry;obtain⟨its,r,pl,hz⟩:=I.tuple hq;obtain⟨j,h1,h2,h3,h4,h5⟩:=q7t he;obtain⟨w,ew,rw'⟩:=r.get h2;have hl:=r.length;have hn:=q4f;have fin:EP X pins σ Q w s:=⟨z,H,I,rw',q⟩
 exact subscriptTail_builtinR (x:=w) pl.typeIs slot_tuple_getitem.lookup
  (getItem_tuple (j:=j) (Q:=fun r s'=>r=w/\EP X pins σ Q r s') pl (by omega) (by omega) (by rw [gp, <- hl];exact h1) (by simpa using ew) ⟨rfl,fin⟩) hs
theorem qme:IxR X rIxS:=by
 intro value slice pins s σ H x y v u Q I rx ry h hs;obtain⟨z,i,c,rfl,rfl,hz,he,q⟩:=h;obtain⟨t,rfl⟩:=rx;obtain⟨t',rfl⟩:=ry;obtain⟨j,h1,h2,h3,h4,h5⟩:=q7t he;have hl:z.cps.toList.length=z.length:=by simp [Str.length]
 rw [hl] at h1 h4 h5;have hn:=q4f;exact tail_any (typeIs_str s z t) slot_str_getitem.lookup (getItem_str (c:=c) (by
  have e1:decide (i < -(2 ^ 63:Int))=false:=m8 (by omega);have e2:decide (i>=2 ^ 63)=false:=m8 (by omega);rw [e1,e2,Bool.or_false]) (by rw [h1];simpa using h2) ⟨.str ⟨#[c]⟩,H,I.tok _,⟨_,rfl⟩,q⟩) hs
def rIx(K:PySem.W.Frag): R2:=fun x y H Q=>qmc K x y H Q\/qmd K x y H Q\/rIxS x y H Q
theorem qmf:IxR X (rIx X.K):=ix_list.or (ix_tup.or qme)
theorem qam(lo hi:Option Int)(n:Nat): (sliceBounds lo hi none n).1=((HT.sIx n 0 lo:Nat):Int)/\(sliceBounds lo hi none n).2.1=((HT.sIx n n hi:Nat):Int)/\(sliceBounds lo hi none n).2.2=1:=by
 refine⟨?_,?_,rfl⟩
 ·cases lo with
  | none=>simp [sliceBounds,HT.sIx]
  | some i=>
   simp only [sliceBounds,HT.sIx,Option.getD_none,show(1:Int)>0 by decide,nv]
   by_cases h:i<0
   ·simp only [h,nv] <;> omega
   ·simp only [h,tq] <;> omega
 ·cases hi with
  | none=>simp [sliceBounds,HT.sIx]
  | some i=>
   simp only [sliceBounds,HT.sIx,Option.getD_none,show(1:Int)>0 by decide,nv]
   by_cases h:i<0
   ·simp only [h,nv] <;> omega
   ·simp only [h,tq] <;> omega
theorem q9j(its:List Value)(lo hi:Option Int): slicePick its.toArray lo hi none=((its.drop (HT.sIx its.length 0 lo)).take (HT.sIx its.length its.length hi-HT.sIx its.length 0 lo)).toArray:=by
 obtain⟨h1,h2,h3⟩:=qam lo hi its.toArray.size;unfold slicePick;rw [h1,h2,h3];simp only [sliceRange_one,pick_run,gp] <;> rfl
def qpk(K:PySem.W.Frag): V->Option Int->Option Int->Hp->VK->Prop:=fun x lo hi H Q=>∃a xs,x=.ref a/\SqL K H a xs/\∀p,H p=none->Q (.ref p) (upd H p (.lst (q17 xs lo hi)))
theorem sl_list:SlR X (qpk X.K):=by
 intro pins s σ H x v vl vu lo hi sl Q I rx hs pl pu h;obtain⟨a,xs,rfl,hx,q⟩:=h;cases rx;obtain⟨its,r,ht,hz⟩:=I.list hx;have hlen:=r.length;refine⟨"list",_,slot_list_getitem.lookup,ht.isList.typeIs,?_⟩;refine wpAny_getItem_list_slice ht.isList hs pl pu .none (by simp) ?_ (by rw [gp] <;> omega);rw [q9j, <- hlen];refine⟨.ref s.heap.objs.size,_,I.laid (t':=s.toks) (o:=.lst (q17 xs lo hi)) (fun b ob q=>gh _ q) (gv _) ?_,rfl,q _ (I.hok.fresh (gv _))⟩;exact⟨md (q63 xs lo hi) hz,_,0,(r.drop (HT.sIx xs.length 0 lo)).take (HT.sIx xs.length xs.length hi-HT.sIx xs.length 0 lo),m3 _ rfl⟩
def wd:V->Bool
 | .non=>true
 | .bl _=>true
 | .int _=>true
 | .str _=>true
 | _=>false
def eqV:V->V->Bool
 | .non,.non=>true
 | .bl a,.bl b=>a==b
 | .bl a,.int b=>(if a then 1 else 0)==b
 | .int a,.bl b=>a==(if b then 1 else 0)
 | .int a,.int b=>a==b
 | .str a,.str b=>a==b
 | _,_=>false
theorem qfo{A:Around}{s:Shared}{y x:V}{u v:Value}(ry:RelV y u)(rx:RelV x v)(fy:wd y=true)(fx:wd x=true): SeqAt.EqAt A s u v (eqV y x):=by
 cases y with
 | non=>
  cases ry;cases x with
  | non=>cases rx;exact g23 _
  | bl b=>cases rx;exact SeqAt.EqAt.none_bool b
  | int b=>obtain⟨t,rfl⟩:=rx;exact SeqAt.EqAt.none_int b t
  | str b=>obtain⟨t,rfl⟩:=rx;exact SeqAt.EqAt.none_str b t
  | _=>exact absurd (show false=true from fx) gq
 | bl a=>
  cases ry;cases x with
  | non=>cases rx;exact SeqAt.EqAt.bool_none a
  | bl b=>cases rx;exact SeqAt.EqAt.bool_bool a b
  | int b=>obtain⟨t,rfl⟩:=rx;exact SeqAt.EqAt.bool_int a b t
  | str b=>obtain⟨t,rfl⟩:=rx;exact SeqAt.EqAt.bool_str a b t
  | _=>exact absurd (show false=true from fx) gq
 | int a=>
  obtain⟨t',rfl⟩:=ry;cases x with
  | non=>cases rx;exact SeqAt.EqAt.int_none a t'
  | bl b=>cases rx;exact SeqAt.EqAt.int_bool a t' b
  | int b=>obtain⟨t,rfl⟩:=rx;exact SeqAt.EqAt.int_int a t' b t
  | str b=>obtain⟨t,rfl⟩:=rx;exact SeqAt.EqAt.int_str a t' b t
  | _=>exact absurd (show false=true from fx) gq
 | str a=>
  obtain⟨t',rfl⟩:=ry;cases x with
  | non=>cases rx;exact SeqAt.EqAt.str_none a t'
  | bl b=>cases rx;exact SeqAt.EqAt.str_bool a t' b
  | int b=>obtain⟨t,rfl⟩:=rx;exact SeqAt.EqAt.str_int a t' b t
  | str b=>obtain⟨t,rfl⟩:=rx;exact SeqAt.EqAt.str_str a t' b t
  | _=>exact absurd (show false=true from fx) gq
 | _=>exact absurd (show false=true from fy) gq
def eqU(x:V)(u:Value): Bool:=match u with
 | .none=>eqV .non x
 | .bool b=>eqV (.bl b) x
 | .int i _=>eqV (.int i) x
 | .str z _=>eqV (.str z) x
 | _=>false
theorem qfp{x y:V}{u:Value}(r:RelV y u)(f:wd y=true): eqU x u=eqV y x:=by
 cases y with
 | non=>cases r;rfl
 | bl b=>cases r;rfl
 | int i=>obtain⟨t,rfl⟩:=r;rfl
 | str z=>obtain⟨t,rfl⟩:=r;rfl
 | _=>exact absurd (show false=true from f) gq
theorem q37{x:V}: ∀ {xs:List V} {us:List Value},Vals xs us->xs.all wd=true->us.any (eqU x)=xs.any fun y=>eqV y x
 | _,_,.nil,_=>rfl
 | y :: xs,u :: us,.cons r t,f=>by
  rw [g0o,m7] at f;rw [List.any_cons,List.any_cons,qfp r f.1,q37 t f.2]
theorem q1u{A:Around}{s:Shared}{x:V}{v:Value}(rx:RelV x v)(fx:wd x=true): ∀ {xs:List V} {us:List Value},Vals xs us->xs.all wd=true->∀u∈us,SeqAt.EqAt A s u v (eqU x u)
 | _,_,.nil,_=>fun u hu=>by cases hu
 | y :: xs,u :: us,.cons r t,f=>fun u' hu=>by
  rw [g0o,m7] at f;rcases mf.mp hu with rfl|hu
  ·rw [qfp r f.1];exact qfo r rx f.1 fx
  ·exact q1u rx fx t f.2 u' hu
def inV(x:V)(xs:List V): Bool:=xs.any fun y=>eqV y x
def rIn(K:PySem.W.Frag)(neg:Bool): R2:=fun x y H Q=>∃p xs,y=.ref p/\(SqL K H p xs\/SqT K H p xs)/\wd x=true/\xs.all wd=true/\Q (.bl (if neg then !inV x xs else inV x xs)) H
theorem qfq:OpR X (compareOp .In) (rIn X.K false):=by
 intro pins s σ H x y v u Q I rx ry h;obtain⟨p,xs,rfl,hq,fx,fs,q⟩:=h;cases ry;rcases hq with hq|hq
 ·obtain⟨its,r,pl,hz⟩:=I.list hq
  refine SeqAt.in_listAt (eqU x) pl.isList (fun w hw=>q1u rx fx r fs w (by simpa using hw)) ⟨.bl _,H,I,rfl,?_⟩;rw [show its.toArray.any (eqU x)=its.any (eqU x) by simp,q37 r fs];exact q
 ·obtain⟨its,r,pl,hz⟩:=I.tuple hq
  refine SeqAt.in_tupleAt (eqU x) pl (fun w hw=>q1u rx fx r fs w (by simpa using hw)) ⟨.bl _,H,I,rfl,?_⟩;rw [show its.toArray.any (eqU x)=its.any (eqU x) by simp,q37 r fs];exact q
theorem qan:OpR X (compareOp .NotIn) (rIn X.K true):=by
 intro pins s σ H x y v u Q I rx ry h;obtain⟨p,xs,rfl,hq,fx,fs,q⟩:=h;cases ry;rcases hq with hq|hq
 ·obtain⟨its,r,pl,hz⟩:=I.list hq
  refine SeqAt.notIn_listAt (eqU x) pl.isList (fun w hw=>q1u rx fx r fs w (by simpa using hw)) ⟨.bl _,H,I,rfl,?_⟩;rw [show its.toArray.any (eqU x)=its.any (eqU x) by simp,q37 r fs];exact q
 ·obtain⟨its,r,pl,hz⟩:=I.tuple hq
  refine SeqAt.notIn_tupleAt (eqU x) pl (fun w hw=>q1u rx fx r fs w (by simpa using hw)) ⟨.bl _,H,I,rfl,?_⟩;rw [show its.toArray.any (eqU x)=its.any (eqU x) by simp,q37 r fs];exact q
theorem q9k:jw X (.type "tuple") (fun xs H Q=>∃p ys,xs=[.ref p]/\((SqL X.K H p ys/\∀l,H l=none->Q (.ref l) (upd H l (.tup ys)))\/(SqT X.K H p ys/\Q (.ref p) H))):=by
 intro pins s σ H xs us Q I r h;obtain⟨p,ys,rfl,h⟩:=h;obtain⟨u,rfl,rx⟩:=vals1 r;cases rx;rcases h with⟨hq,q⟩|⟨hq,q⟩
 ·obtain⟨its,r',pl,hz⟩:=I.list hq
  have hlen:=r'.length;refine call_tuple_list pl.isList (fun h' kp=>?_) (by simp only [gp] <;> omega);have I1:Inv X pins σ H {s with heap:=h'}:=I.kept (t':=s.toks) kp;have I2:Inv X pins σ (upd H h'.objs.size (.tup ys)) {s with heap:=h'.push {cls:=.type "tuple",data:=.seq its.toArray} }:=
   I1.laid (t':=s.toks) (fun b o e=>gh _ e) (gv _) (show ObjOk X.prog X.w _ _ _ (.tup ys) from⟨hz,its,r',TupX.new _ _⟩)
  exact⟨.ref h'.objs.size,_,I2,rfl,q _ (I1.hok.fresh (gv _))⟩
 ·obtain⟨its,r',pl,hz⟩:=I.tuple hq
  exact call_tuple_same pl ⟨.ref p,H,I,rfl,q⟩
def tyV(K:PySem.W.Frag)(T:String)(x:V)(H:Hp): Prop:=match x with
 | .str _=>T="str"
 | .int _=>T="int"
 | .ref p=>(T="list" /\ ∃xs,SqL K H p xs)\/(T="tuple" /\ ∃o,K.lookup p=some o/\o.cls=.type "tuple" /\ o.dict=none) \/
   (T="dict" /\ ((∃kvs,H p=some (.dK kvs))\/∃kvs,H p=some (.dT kvs)))\/(T="set" /\ ∃S n,H p=some (.set S n))
 | _=>False
theorem qmg{pins:List (Addr×Obj)}{σ : St}{H:Hp}{s:Shared}{T:String}{x:V}{v:Value}(I:Inv X pins σ H s)(r:RelV x v)(ty:tyV X.K T x H):
  s.TypeIs v T/\∀a,v=.ref a->∃ob,s.heap.get? a=some ob/\ob.dict=none:=by
 cases x with
 | str z=>
  obtain⟨t,rfl⟩:=r;cases(show T="str" from ty);exact⟨typeIs_str s z t,fun _ e=>nomatch e⟩
 | int i=>
  obtain⟨t,rfl⟩:=r;cases(show T="int" from ty);exact⟨typeIs_int s i t,fun _ e=>nomatch e⟩
 | ref p=>
  cases r;rcases ty with⟨rfl,xs,hq⟩|⟨rfl,o,hk,hc,hd⟩|⟨rfl,hk⟩|⟨rfl,S,n,hk⟩
  ·obtain⟨its,_,pl,_⟩:=I.list hq
   refine⟨pl.isList.typeIs,fun a e=>?_⟩;cases e;obtain⟨o,n,e,c,hd,_⟩:=pl;exact⟨o,e,hd⟩
  ·refine⟨⟨o,I.kIn p o hk,hc⟩,fun a e=>?_⟩
   cases e;exact⟨o,I.kIn _ o hk,hd⟩
  ·have z:∃o,s.heap.get? p=some o/\o.ExactDict:=by
    rcases hk with⟨kvs,hk⟩|⟨kvs,hk⟩
    ·obtain⟨_,_,_,_,o,_,_,e,ex,_⟩:=I.hok p _ hk
     exact⟨o,e,ex⟩
    ·obtain⟨_,_,_,_,o,_,_,e,ex,_⟩:=I.hok p _ hk
     exact⟨o,e,ex⟩
   obtain⟨o,e,ex⟩:=z;refine⟨⟨o,e,ex.1⟩,fun a e2=>?_⟩;cases e2;exact⟨o,e,ex.2.1⟩
  ·obtain⟨o,_,_,_,e,ex,_⟩:=I.hok p _ hk
   refine⟨⟨o,e,ex.1⟩,fun a e2=>?_⟩;cases e2;exact⟨o,e,ex.2.1⟩
 | _=>exact False.elim ty
def tBM(K:PySem.W.Frag)(T:String)(r:V->List V->Hp->VK->Prop)(to:TE)(t:TA): TE:=fun σ H Q=>to σ H fun x H1=>tyV K T x H1/\t σ H1 fun xs H2=>r x xs H2 Q
variable{o e:Expr}{es:List Expr}{to:TE}{t:TA}{name:Str}{apos cpos:Pos}{T id:String}{r:V->List V->Hp->VK->Prop}
theorem qok(pa:PlainAttrs T)(slot:Slot T name id)(hty:typeOf (.builtin id)=pure (.type "method_descriptor"))(hm:MtR X id r)(ho:PE X o to)(ha:PA X (e :: es) t)
  (hbase:attributeBase o name X.env (eval o X.env)=eval o X.env:=by rfl)
  (hfew:((backTo cpos (starEach (e :: es) X.env)).all (fun x=> !x.1)&&(backToKw cpos (keywordEach [] X.env)).all (fun x=>x.1.isSome)
   && decide ((e :: es).length+([]:List Keyword).length+(if([]:List Keyword).isEmpty then 0 else 1)<30))=true:=by rfl)
  (hline:(apos.endLine==cpos.line)=true:=by rfl) (hs:starEach (e :: es) X.env=(false,eval e X.env) :: starEach es X.env:=by rfl) (hplain:(backTo cpos (starEach es X.env)).any (·.1)=false:=by rfl) :
  PE X (.Call (.Attribute o name apos) (e :: es) [] cpos) (tBM X.K T r to t):=by
 intro pins s σ H Q I h;refine wpAny_Call_method_late hbase hfew hline rfl (thn (ho pins s σ H _ I h) fun v s1 ⟨x,H1,I1,r1,ty,q1⟩=>?_);obtain⟨h1,h2⟩:=qmg I1 r1 ty;refine⟨T,id,pa,slot,hty,h1,h2,?_⟩;have hA:=ha cpos pins s1 σ H1 _ I1 q1;rw [hs] at hA ⊢;refine Calls.callWith_builtin (by show(false || (backTo cpos (starEach es X.env)).any (·.1))=false;rw [hplain] <;> rfl) (Calls.evalArgs_plain ?_);exact thn hA fun us s2 ⟨vs,H2,I2,r2,q2⟩=>hm pins s2 σ H2 x vs v us Q I2 r1 r2 q2
end
def MtM(X:Cx)(id:String)(r:V->List V->Hp->VK->Prop): Prop:=
 ∀(pins:List (Addr×Obj)) (s:Shared) (σ : St) (H:Hp) (x:V) (xs:List V) (v:Value) (us:List Value) (Q:VK),Inv X pins σ H s->RelV x v->Vals xs us->r x xs H Q ->
  wpAny (model X.prog X.w) X.A (call (.builtin id) (v :: us)) (EP X pins σ Q) X.xe s
theorem Vals.one:∀ {x:V} {us:List Value},Vals [x] us->∃u,us=[u]/\RelV x u
 | _,_,.cons r .nil=>⟨_,rfl,r⟩
theorem Vals.two:∀ {x y:V} {us:List Value},Vals [x,y] us->∃u v,us=[u,v]/\RelV x u/\RelV y v
 | _,_,_,.cons r (.cons q .nil)=>⟨_,_,rfl,r,q⟩
section
variable{X:Cx}{pins:List (Addr×Obj)}{σ : St}{H:Hp}{s:Shared}{l b:Addr}{xs ys zs:List V}
theorem Inv.lset{its its':List Value}{n:Nat}{f:Array Value->Array Value}{t':Nat}(I:Inv X pins σ H s)(hH:H l=some (.lst xs))
  (e:s.heap.get? l=some {cls:=.type "list",data:=.seq its.toArray n}) (hf:f its.toArray=its'.toArray) (hv:Vals ys its') (hz:ys.length<=sizeLine) :
  Inv X pins σ (upd H l (.lst ys)) {s with heap:=s.heap.update l (Obj.mapSeq f),toks:=t'}:=by
 have q:=PySem.IsL.update e f;rw [hf] at q;refine I.write (x:=l) (e:=l) (by rw [hH];exact trivial) (.inl rfl) (fun b' u hb hu=>(mw s.heap (Obj.mapSeq f) (gu hb)).trans hu) ⟨_,q⟩ ?_;exact⟨hz,its',_,hv,q⟩
theorem Inv.lnew{its:List Value}{t':Nat}(I:Inv X pins σ H s)(hv:Vals ys its)(hz:ys.length<=sizeLine):
  Inv X pins σ (upd H s.heap.objs.size (.lst ys)) {s with heap:=s.heap.push {cls:=.type "list",data:=.seq its.toArray},toks:=t'}:=
 I.laid (fun _ _ q=>gh _ q) (gv _) ⟨hz,its,0,hv,m3 _ rfl⟩
theorem Inv.fresh(I:Inv X pins σ H s): H s.heap.objs.size=none:=I.hok.fresh (gv _)
theorem Inv.lstM(I:Inv X pins σ H s)(hH:H l=some (.lst xs)): xs.length<=sizeLine/\∃(its:List Value) (n:Nat),Vals xs its/\xs.length=its.length/\s.heap.get? l=some {cls:=.type "list",data:=.seq its.toArray n}:=by
 obtain⟨z,its,n,r,e⟩:=I.hok l _ hH;exact⟨z,its,n,r,r.length,e⟩
end
section
variable{X:Cx}
def rAppend:V->List V->Hp->VK->Prop:=fun x vs H Q=>∃l xs y,x=.ref l/\vs=[y]/\H l=some (.lst xs)/\xs.length<sizeLine/\Q .non (upd H l (.lst (xs++[y])))
theorem q4h:MtM X "list.append" rAppend:=by
 intro pins s σ H x vs v us Q I rx rv h;obtain⟨l,xs,y,rfl,rfl,hH,hz,q⟩:=h;cases rx;obtain⟨u,rfl,ru⟩:=rv.one;obtain⟨z,its,n,r,hl,e⟩:=I.lstM hH;refine g1s F.slot_list_append ⟨_,e,rfl⟩ F.entry_list_append (F.args_list_append_2 _ _) (PySem.list_append l its.toArray n u (by rw [gp];omega)) ⟨e,?_⟩;refine⟨.non,_,I.lset (its':=its++[u]) hH e (by simp) (r.append (.cons ru .nil)) ?_,rfl,q⟩;rw [mq,g2b];omega
end
section
variable{prog:Program}{w:World}{A:Around}{E:Value->Shared->Prop}{s:Shared}
end
section
variable{X:Cx}
end
end L2
namespace Att
open PySem PySem.W PySem.Calls PyProof.Rows
theorem q6y{P:Params}{h:Heap}: ∀(ns:List Int) (vs:List Value),WellAll P h vs (ns.map WData.int)->IntsAre vs ns:=by
 intro ns
 induction ns with
 | nil=>
  intro vs w;rw [ux] at w;cases w;exact .nil
 | cons n ns ih=>
  intro vs w;rw [mi] at w;cases w with
  | cons a b=>
   cases a;exact .cons _ _ (ih _ b)
theorem qfr{l:OpenLaw}{n:Nat}(hn:l.most=some n){P:Params}{h:Heap}{args:List WData}{vals:List Value}
  (hpre:l.row.toRowW.claim.pre args=true) (hwl:WellAll P h vals args) :
  ∃a vs ns,vals=[Value.ref a]/\args=[WData.list (ns.map WData.int)]/\h.get? a=some {cls:=.type "list",data:=.seq vs.toArray}/\IntsAre vs ns/\ns.length<=n:=by
 have hsh:WShape.hasAll [] args [.list .int]=true:=(pre_splitW hpre).1;have hc:l.pre.holds [] {args:=args}=true:=(pre_splitW hpre).2;obtain⟨d,r,rfl,h1,h2⟩:=hasAllW_cons hsh;obtain rfl:=hasAllW_nil h2;obtain⟨xs,rfl,h3⟩:=hasW_list h1;obtain⟨ns,rfl⟩:=items_int h3;have hlen:ns.length<=n:=by
  unfold OpenLaw.pre at hc;have h4:(WTm.not (.lt (.lit (.int (n:Int))) (.len (.arg 0)))).holds [] {args:=[.list (ns.map .int)]}=true:=by
   have h4:=(holds_andW hc).1;rw [hn] at h4;exact h4
  have h5:=condW_of h4 (w_not (w_lt w_lit (w_len_list (w_arg rfl))));rw [gx] at h5;refine Nat.le_of_not_lt fun q=>?_;have q':(n:Int)<((ns.length:Nat):Int):=by omega
  first
   | (rw [m6 q'] at h5;exact absurd h5 (by decide))
   | (simp at h5;omega)
 cases hwl with
 | cons w1 w2=>
  cases w2;cases w1 with
  | list ho hall=>exact⟨_,_,ns,rfl,rfl,ho,q6y ns _ hall,hlen⟩
theorem qfs(l:OpenLaw)(args:List WData): l.row.toRowW.claim.post args (.bool true) args=true:=
 postW_of (r:=l.row.toRowW) (X:=(true==true))
  (show WShape.has [] (.bool true) .bool=true by first|rfl|decide|simp [WShape.has,WShape.arms,WShape.armsAll])
  (show(WTm.eq .res (.lit (.bool true))).value [] {args:=args,res:=some (.bool true),after:=args}=some (.bool (true==true)) from w_eq_bool (w_res rfl) w_lit) rfl
theorem attach_call{l:OpenLaw}{n:Nat}{q:Program}{loose:List Str}{XP:(Str->Option Value)->Heap->Prop}{YP:World->Heap->Prop}{d:DefRec}
  (hn:l.most=some n) (hdf:d.params.defaults=[])
  (call:∀(w:World) (s₀ s₁:Shared) (mg mb:Str->Option Value) (fa:Addr) (o:Obj) (pm cd doc:Value) (a:Addr) (vs:List Value) (ns:List Int),
   Ground q loose [] XP w s₀ mg mb s₁.heap->YP w s₁.heap ->
   s₁.heap.get? fa=some o->o.data=.func (docDef d.name d.params d.body d.scope pm cd doc)->s₁.heap.CodeRec cd d.name->mg d.name=some (.ref fa) ->
   s₁.heap.get? a=some {cls:=.type "list",data:=.seq vs.toArray}->IntsAre vs ns->ns.length<=n->s₁.gens = #[] ->
   codeAny (model l.prog w) callerA (.call (.ref fa) ⟨[.ref a],[]⟩) (fun r s'=>r=.ok (.ret (.bool true))/\OldK s₁.heap s'.heap/\s'.os=s₁.os/\AllBare s'.gens) s₁) :
  WalkO q loose XP YP l.row.toRowW d [] (fun f vs=>PySem.call f vs):=by
 intro w s₀ s₁ mg mb G Y fa o pm cd doc dV kV ho hd hcd hD hmg hg args vals as hpre hlay hrd hwl hlo;obtain rfl:dV=.none:=Dflts.none hD hdf;obtain rfl:kV=.none:=Dflts.noKw hD;obtain⟨a,vs,ns,rfl,rfl,hobj,hints,hlen⟩:=qfr hn hpre hwl;refine enter_call (g0c (call w s₀ s₁ mg mb fa o pm cd doc a vs ns G Y ho (fd_plain hd) hcd hmg hobj hints hlen hg) fun r s' hq=>?_);obtain⟨rfl,h2,h3,h4⟩:=hq;exact⟨.inl ⟨.bool true,.bool true,[],rfl,fun _=>rfl,.bool true,qfs l _,fun _=>⟨List.Pairwise.nil,fun _ hm=>(nomatch hm)⟩⟩,h2,h3,h4⟩
section
variable{prog:Program}{w:World}{A:Around}{E:Value->Shared->Prop}{s:Shared}{K:Frag}
end
end Att
namespace L2
open PySem PySem.Spec PyProof.Rows
theorem q2m:∀ {vs:List Value} {ns:List Int},IntsAre vs ns->Vals (ns.map V.int) vs
 | _,_,.nil=>.nil
 | _,_,.cons n t h=>.cons ⟨t,rfl⟩ (q2m h)
def qho(H:Hp): Prop:=∀b,H b=none\/∃o xs,H b=some (.frz o (.lst xs))
theorem qhp{P:Program}{w:World}{K:PySem.W.Frag}{mg mb:Str->Option Value}{CX:CXT}{k:Nat}{fa a:Addr}{fd:FuncData}{x:Str}{sp:Sp}{s₁:Shared}{vs:List Value}{ns:List Int}
  (KX:K.In s₁.heap) (hns:s₁.heap.Ns mainGlobals mg) (hb:s₁.heap.Ns builtinsNs mb) (hbb:∀x:Str,x≠"__name__" -> mb x=bootBuiltins x) (hlim:s₁.heap.NoLimit) (hg:s₁.gens = #[])
  (ha:s₁.heap.get? a=some {cls:=.type "list",data:=.seq vs.toArray}) (hi:IntsAre vs ns) (hl:ns.length<=sizeLine) (hr:Room k callerA)
  (F:∀base:Heap,K.In base->base.Ns mainGlobals mg->FnOk P w K mg base CX k fa fd [x] sp) (hbind:∀(s:Shared) (u:Value),BindsTo s fd ⟨[u],[]⟩ [(x,u)])
  (hsp:∀H:Hp,qho H->SqL K H a (ns.map V.int)->sp [.ref a] H (fun v _=>v=.bl true) fun _ _ _=>False)
  (hCX:∀H e s',CX [] H s₁ (fun _ _ _=>False) e s'->False) :
  codeAny (model P w) callerA (.call (.ref fa) ⟨[.ref a],[]⟩) (fun r s'=>r=.ok (.ret (.bool true))/\OldK s₁.heap s'.heap/\s'.os=s₁.os/\AllBare s'.gens) s₁:=by
 have rv:=q2m hi;have lenV:=hi.length
 -- from an abstract heap in which nothing but the script may be tracked
 have core:∀H:Hp,qho H->SqL K H a (ns.map V.int)->HOk P w H s₁.heap->(∀b,H b≠none->b=a)->(H a≠none->K.lookup a=none) ->
   codeAny (model P w) callerA (.call (.ref fa) ⟨[.ref a],[]⟩) (fun r s'=>r=.ok (.ret (.bool true))/\OldK s₁.heap s'.heap/\s'.os=s₁.os/\AllBare s'.gens) s₁:=by
  intro H hO hS hok hA hK;have base_of:∀ {b:Addr} {o:Obj},s₁.heap.get? b=some o->H b=none->(q3l s₁.heap H).get? b=some o:=fun e n=>qha e n;have noA:∀ {b:Addr} {o:Obj} {es:Array DictEntry} {ep:Nat},s₁.heap.get? b=some o->o.data=.dict es ep->H b=none:=fun {b o es ep} e d=>by
   cases q:H b with
   | none=>rfl
   | some u=>
    have e':b=a:=hA b (by rw [q];simp);subst e';rw [ha] at e;cases e;have d':Data.seq vs.toArray _=Data.dict es ep:=d;cases d'
  have nsK:∀ {b:Addr} {m:Str->Option Value},s₁.heap.Ns b m->(q3l s₁.heap H).Ns b m:=fun {b m} ⟨o,es,ep,e,d,r⟩=>⟨o,es,ep,base_of e (noA e d),d,r⟩
  have hKb:K.In (q3l s₁.heap H):=fun b o e=>base_of (KX b o e) (by
   cases q:H b with
   | none=>rfl
   | some u=>
    have e':b=a:=hA b (by rw [q];simp);subst e';rw [hK (by rw [q];simp)] at e;cases e)
  have hM:Mod K mg (q3l s₁.heap H):=⟨hKb,nsK hns,⟨mb,nsK hb,hbb⟩,let⟨mc,h1,h2⟩:=hlim; ⟨mc,nsK h1,h2⟩⟩
  have e0:Env0 P w K mg (q3l s₁.heap H) callerA [] s₁ H:=⟨rfl,hM,fun b o e=>qjp e,Nat.le_of_eq (qfa _ _),trivial,fun b hb=>absurd (show b∈([]:List Addr) from hb) (by simp),hok,.of_eq hg⟩
  refine g0c ((F _ hKb (nsK hns)).run callerA [] s₁ H ⟨[.ref a],[]⟩ [.ref a] [.ref a] _ _ hr e0 (hbind s₁ (.ref a)) (.cons rfl .nil) (hsp H hO hS)) fun r s' h=>?_;cases r with
  | error e=>exact(hCX H e s' h).elim
  | ok fl=>
   cases fl with
   | next=>exact False.elim h
   | brk=>exact False.elim h
   | cont=>exact False.elim h
   | ret u=>
    obtain⟨v,H',os,bare,un,hok',r',q⟩:=h;have q':v=.bl true:=q;subst q';obtain rfl:u=Value.bool true:=r';refine⟨rfl,OldK.of_keep fun b o e=>?_,os,bare⟩;cases q:H b with
    | none=>exact un.keep b o e q (by intro z;exact absurd (show b∈([]:List Addr) from z) (by simp)) (by simp)
    | some u=>
     rcases hO b with z|⟨ob,xs,z⟩
     ·rw [q] at z;cases z
     ·have z2:=un.frzs b ob _ z
      obtain⟨e1,_⟩:=hok b _ z;obtain⟨e2,_⟩:=hok' b _ z2;rw [e] at e1;cases e1;exact e2
 cases hk:K.lookup a with
 | some o=>
  -- the script is one of the module's own objects
  have e:=KX a o hk;rw [ha] at e;cases e;refine core (fun _=>none) (fun _=>.inl rfl) (.inr ⟨_,vs.toArray,_,hk,rfl,rfl,rfl,by rw [gp,lenV];exact hl,by simpa using rv⟩) (fun b u z=>by have z':(none:Option HO)=some u:=z;cases z') (fun b z=>absurd rfl z) fun z=>absurd rfl z
 | none=>
  refine core (fun b=>if b=a then some (.frz {cls:=.type "list",data:=.seq vs.toArray} (.lst (ns.map V.int))) else none) (fun b=>?_) (.inl (.inr ⟨{cls:=.type "list",data:=.seq vs.toArray},gw rfl⟩)) (fun b u z=>?_) (fun b z=>?_) fun _=>hk
  ·by_cases hb:b=a
   ·exact .inr ⟨_,_,gw hb⟩
   ·exact .inl (m4 hb)
  ·by_cases hb:b=a
   ·have z':=(gw hb).symm.trans z
    cases z';subst hb;exact⟨ha,by rw [gx];exact hl,vs,_,rv,ha⟩
   ·have z':=(m4 hb).symm.trans z
    cases z'
  ·by_cases hb:b=a
   ·exact hb
   ·exact absurd (m4 hb) z
theorem qk4{l:PySem.W.OpenLaw}{n k:Nat}{q:Program}{loose:List Str}{XP:(Str->Option Value)->Heap->Prop}{YP:World->Heap->Prop}{d:DefRec}{K:Params->PySem.W.Frag}{CX:World->CXT}{sp:World->Sp}{x:Str}
  (hn:l.most=some n) (hn2:n<=sizeLine) (hdf:d.params.defaults=[]) (hr:Room k callerA)
  (hY:∀(w:World) (h:Heap),YP w h->(K w.params).In h)
  (F:∀(w:World) (mg:Str->Option Value) (fa:Addr) (h:Heap),(K w.params).In h->h.Ns mainGlobals mg->mg d.name=some (.ref fa) ->
   ∃fd:FuncData,(∀(s:Shared) (u:Value),BindsTo s fd ⟨[u],[]⟩ [(x,u)]) /\
    ∀base:Heap,(K w.params).In base->base.Ns mainGlobals mg->FnOk l.prog w (K w.params) mg base (CX w) k fa fd [x] (sp w))
  (hsp:∀(w:World) (H:Hp) (a:Addr) (ns:List Int),ns.length<=n->qho H->SqL (K w.params) H a (ns.map V.int)->sp w [.ref a] H (fun v _=>v=.bl true) fun _ _ _=>False)
  (hCX:∀(w:World) (H:Hp) (s:Shared) (e:Value) (s':Shared),CX w [] H s (fun _ _ _=>False) e s'->False) :
  PySem.W.WalkO q loose XP YP l.row.toRowW d [] (fun f vs=>PySem.call f vs):=by
 refine Att.attach_call hn hdf fun w s₀ s₁ mg mb fa o pm cd doc a vs ns G Y ho hd hcd hmg hobj hints hlen hg=>?_;have KX:=hY w _ Y;obtain⟨fd,hb,hF⟩:=F w mg fa _ KX G.T.g hmg;exact qhp KX G.T.g G.T.b G.T.builtins G.T.nolimit hg hobj hints (md hlen hn2) hr hF hb (fun H hO hS=>hsp w H a ns hlen hO hS) fun H e s'=>hCX w H s₁ e s'
def jk(s:Stmt): Arguments:=match s with
 | .FunctionDef _ a _ _ _ _ _ _ _ _=>a
 | _=>{posonlyargs:=[],args:=[],vararg:=none,kwonlyargs:=[],kw_defaults:=[],kwarg:=none,defaults:=[]}
def qr(s:Stmt): List Stmt:=match s with
 | .FunctionDef _ _ b _ _ _ _ _ _ _=>b
 | _=>[]
def qc(s:Stmt): Scope:=match s with
 | .FunctionDef _ _ _ _ _ _ sc _ _ _=>sc
 | _=>{kind:=.function,names:=[],isGenerator:=false,isCoroutine:=false}
abbrev CX0:CXT:=fun _ _ _ _ _ _=>False
abbrev E0:XK:=fun _ _ _=>False
theorem q2n{X:Cx}: q1s CX0 X E0:=fun _ _ _ _ _ _ _ h=>h.elim
structure Fun(K:PySem.W.Frag)(x qual:Str)(st:Stmt)(f:Addr)(fd:FuncData): Prop where
 ex:∃(oc:Value) (od:Option Addr) (kV doc pm:Value) (an:Option Addr) (cdv ct:Value) (osl:Array (Option Value)),
  fd=PySem.W.fnOf x qual (jk st) (qr st) (qc st) .none kV doc pm an cdv ct/\K.lookup f=some ⟨oc,od,.func fd,osl⟩/\PySem.W.codeIn K cdv qual=true
 kp:PySem.W.keepIn K (.ref f)=true
section
variable{P:Program}{w:World}{K:PySem.W.Frag}{mg:Str->Option Value}{base:Heap}
end
section
variable{X:Cx}
theorem pv(i:Nat){x:Str}{pos:Pos}(hN:X.N[i]? = some x:=by rfl)(hv:Vis X.env.scope x:=by first|exact Or.inl rfl|exact Or.inr (Or.inl rfl)|exact Or.inr (Or.inr rfl))(hd:(x==("__debug__" : Str))=false:=by decide)
  (hcd:(x==("__classdict__" : Str))=false:=by decide):PE X (.Name x pos) (yn i):=qlm hN hv hd hcd
end
theorem qmh{A B:Prop}(h:B): if false=true then A else B:=by
 rw [m4 gq];exact h
theorem qmi{A B:Prop}(h:A): if true=true then A else B:=by
 rw [gw rfl];exact h
def Same(H H':Hp): Prop:=∀b o,H b=some o->H' b=some o
theorem Same.refl(H:Hp): Same H H:=fun _ _ h=>h
theorem Same.trans{H H1 H2:Hp}(a:Same H H1)(b:Same H1 H2): Same H H2:=fun c o h=>b c o (a c o h)
theorem Same.free{H H':Hp}(e:Same H H'){l:Addr}(h:H' l=Option.none): H l=Option.none:=by
 cases q:H l with
 | none=>rfl
 | some o=>
  rw [e l o q] at h;cases h
theorem Same.seq{K:PySem.W.Frag}{H H':Hp}{a:Addr}{xs:List V}(e:Same H H')(h:SqL K H a xs): SqL K H' a xs:=by
 rcases h with(h|⟨o,h⟩)|h
 ·exact .inl (.inl (e _ _ h))
 ·exact .inl (.inr ⟨o,e _ _ h⟩)
 ·exact .inr h
theorem q1v(env:Env): ∀(names:List (Str×NameKind)) (acc:List (Str×Addr)),
  (∀y∈names,y.2=.free->∃c,env.cells.lookup y.1=some c)->(∀x c,acc.lookup x=some c->env.cells.lookup x=some c) ->
  ∃ cl,(forIn names acc (fun(x:Str×NameKind) (r:List (Str×Addr))=>(do
    if x.2==NameKind.free then do
     let a <- cellOf env x.1
     pure (ForInStep.yield ((x.1,a) :: r))
    else pure (ForInStep.yield r):Sem (ForInStep (List (Str×Addr))))):Sem (List (Str×Addr)))=pure cl /\
   (∀x c,cl.lookup x=some c->env.cells.lookup x=some c)/\(∀x c,acc.lookup x=some c->∃d,cl.lookup x=some d)/\(∀y∈names,y.2=.free->∃c,cl.lookup y.1=some c)
 | [],acc,_,h2=>⟨acc,rfl,h2,fun x c h=>⟨c,h⟩,fun y hy=>by cases hy⟩
 | (n,k) :: r,acc,h1,h2=>by
  by_cases hk:k=NameKind.free
  ·subst hk
   obtain⟨c,hc⟩:=h1 (n,.free) mj rfl;have h2':∀x d,((n,c) :: acc).lookup x=some d->env.cells.lookup x=some d:=fun x d e=>by
    rw [mm] at e
    split at e
    ·rename_i q
     have q':x=n:=by simpa using q
     subst q';cases e;exact hc
    ·exact h2 x d e
   obtain⟨cl,e,a1,a2,a3⟩:=q1v env r ((n,c) :: acc) (fun y hy=>h1 y (m5 _ hy)) h2';refine⟨cl,?_,a1,fun x d e2=>?_,fun y hy hf=>?_⟩
   ·rw [g09]
    simp only [g03,nv];have hco:cellOf env n=pure c:=by unfold cellOf;rw [hc]
    rw [hco];exact e
   ·by_cases q:x=n
    ·subst q
     exact a2 x c (by rw [mm];simp)
    ·exact a2 x d (by rw [mm,show(x==n)=false by simpa using q];exact e2)
   ·rcases mf.mp hy with rfl|hy
    ·exact a2 n c (by rw [mm];simp)
    ·exact a3 y hy hf
  ·obtain⟨cl,e,a1,a2,a3⟩:=q1v env r acc (fun y hy=>h1 y (m5 _ hy)) h2
   refine⟨cl,?_,a1,a2,fun y hy hf=>?_⟩
   ·rw [g09]
    have hb:(k==NameKind.free)=false:=by simpa using hk
    simp only [hb,nr,tq];exact e
   ·rcases mf.mp hy with rfl|hy
    ·exact absurd hf hk
    ·exact a3 y hy hf
theorem q6z{scope:Scope}{env:Env}(h:∀y∈scope.names,y.2=.free->∃c,env.cells.lookup y.1=some c):
  ∃cl,closureFor scope env=pure cl/\(∀x c,cl.lookup x=some c->env.cells.lookup x=some c)/\(∀y∈scope.names,y.2=.free->∃c,cl.lookup y.1=some c):=by
 obtain⟨cl,e,a1,_,a3⟩:=q1v env scope.names [] h (fun x c q=>by cases q);refine⟨cl,?_,a1,a3⟩;unfold closureFor;exact(p8 (fun m=>m >>= fun r=>(pure r:Sem (List (Str×Addr)))) e).trans rfl
abbrev qft(ifs:List Expr)(env:Env): Sem Bool:=
 forIn ifs true fun c r=>if r=true then do let ok <- isTrue c env (eval c env);pure (ForInStep.yield ok) else pure (ForInStep.yield r)
def q04(X:Cx)(ifs:List Expr)(t:TT): Prop:=
 ∀(pins:List (Addr×Obj)) (s:Shared) (σ : St) (H:Hp) (Q:Bool->Hp->Prop),Inv X pins σ H s->t σ H Q->wpAny (model X.prog X.w) X.A (qft ifs X.env) (TP X pins σ Q) X.xe s
def tTrue:TT:=fun _ H Q=>Q true H
theorem qhq{X:Cx}: q04 X [] tTrue:=fun pins s σ H Q I h=>wpAny_tests_nil ⟨H,I,h⟩
theorem qhr{X:Cx}{c:Expr}{t:TT}(h:PT X c t): q04 X [c] t:=fun pins s σ H Q I hq=>wpAny_tests_one (h pins s σ H Q I hq)
section
variable{prog:Program}{w:World}{A:Around}{R:Result->Shared->Prop}{s:Shared}
theorem q64{elt target iter:Expr}{ifs:List Expr}{scope:Scope}{pos:Pos}{it acc:Value}{env:Env}(I:Nat->Shared->Prop)
  (turn:∀n s,I n s->wpAny (model prog w) A (pyNext it) (fun r s₁=>match r with
   | none=>R (.ok .next) s₁
   | some v=>wpAny (model prog w) A (letOwnedTupleGo target it v) (fun _ s'=>wpAny (model prog w) A (assign target env v) (fun _ s₂=>
     wpAny (model prog w) A (qft ifs env) (fun ok s₃=>
      if ok=true then wpAny (model prog w) A (eval elt env) (fun x s₄=>
       wpAny (model prog w) A (call (.builtin "list.append") [acc,x]) (fun _ s₅=>∃m,m<n/\I m s₅) (fun _ _=>False) s₄) (fun _ _=>False) s₃
      else ∃m,m<n/\I m s₃) (fun _ _=>False) s₂) (fun _ _=>False) s') (fun _ _=>False) s₁) (fun _ _=>False) s)
  (n:Nat) (h:I n s) :
  codeAny (model prog w) A (.compLoop (.ListComp elt [⟨target,iter,ifs,0⟩] scope pos) 0 it acc env) R s:=by
 refine codeAny_loop rfl I (fun n s hI=>?_) n h;show wpAny _ A ((compTurn (.ListComp elt [⟨target,iter,ifs,0⟩] scope pos) 0 it acc env).onRaise (fun x=>do noteFrame x env;theTreesLotGoes x)) _ _ s;refine wpAny_noted ?_;rw [compTurn_list];refine g6 (g1n (g6 (mx (turn n s hI) (fun r s₁ h₁=>?_) fun _ _ h'=>h'.elim)));cases r with
 | none=>exact gi h₁
 | some v=>
  refine g6 (mx h₁ (fun _ s' h'=>?_) fun _ _ h'=>h'.elim);refine g6 (mx h' (fun _ s₂ h₂=>g6 (mx h₂ (fun ok s₃ h₃=>?_) fun _ _ h'=>h'.elim)) fun _ _ h'=>h'.elim);cases ok with
  | false=>exact gi ⟨rfl,h₃⟩
  | true=>
   exact g6 (g6 (mx h₃ (fun x s₄ h₄=>g6 (mx h₄ (fun _ s₅ h₅=>gi (gi ⟨rfl,h₅⟩)) fun _ _ h'=>h'.elim)) fun _ _ h'=>h'.elim))
end
abbrev va(X:Cx)(N':List Str)(scope:Scope)(cl:List (Str×Addr))(C:Addr)(s₀:Shared)(H₀:Hp)(fp:List Addr): Cx:=
 {X with N:=N',env:=compEnvC scope cl C X.env,s₀:=s₀,H₀:=H₀,outer:=X.stack,ex:=fp,fn:=fun _=>false,pn:=[],xe:=fun _ _=>False}
structure CapOk(X:Cx)(N':List Str)(scope:Scope)(cap:List (Option Nat)): Prop where
 kind:scope.kind=.function
 cell:∀y∈scope.names,y.2 ≠ .cell
 names:∀y∈scope.names,y.2=.local->scope.names.lookup y.1=some .local
 frees:∀y∈scope.names,y.2=.free->X.env.kindOf y.1=some .cell\/X.env.kindOf y.1=some .free
 len:cap.length=N'.length
 cap:∀(i j:Nat),cap[i]? = some (some j)->∃x,N'[i]? = some x/\X.N[j]? = some x/\scope.names.lookup x=some .free
def q4i(cap:List (Option Nat))(σ : St): St:=cap.map fun o=>o.bind fun j=>(σ[j]?).join
theorem lookup_mem{α β : Type}[BEq α][LawfulBEq α]{l:List (α × β)}{a : α}{b : β}(h:l.lookup a=some b): (a,b)∈l:=by
 induction l with
 | nil=>cases h
 | cons p r ih=>
  obtain⟨x,y⟩:=p;rw [mm] at h
  split at h
  ·rename_i q
   have q':a=x:=by simpa using q
   subst q';cases h;exact mj
  ·exact m5 _ (ih h)
theorem yo{env:Env}: ∀ {names:List (Str×NameKind)} {x:Str} {k:NameKind},(names.map fun(n,k)=>if(k==NameKind.free&&env.scope.kind == .function&&env.kindOf n==some .cell) then(n,NameKind.cell) else(n,k)).lookup x=some k ->
  (names.lookup x=some k)\/(k=.cell/\names.lookup x=some .free)
 | [],_,_,h=>by cases h
 | (n,k0) :: r,x,k,h=>by
  have ih:=@yo env r x k;have h':List.lookup x ((if(k0==NameKind.free&&env.scope.kind == .function&&env.kindOf n==some .cell)=true then(n,NameKind.cell) else(n,k0)) :: _)=some k:=h
  by_cases hc:(k0==NameKind.free&&env.scope.kind == .function&&env.kindOf n==some .cell)=true
  ·rw [gw hc,mm] at h'
   have hf:k0=.free:=by
    simp only [m7,ni] at hc;exact hc.1.1
   cases q:x==n with
   | true=>rw [q] at h';cases h';exact .inr ⟨rfl,by rw [mm,q,hf]⟩
   | false=>rw [q] at h';rw [mm,q];exact ih h'
  ·rw [m4 hc,mm] at h'
   cases q:x==n with
   | true=>rw [q] at h';rw [mm,q];exact .inl h'
   | false=>rw [q] at h';rw [mm,q];exact ih h'
theorem q1w{env:Env}: ∀ {names:List (Str×NameKind)} {x:Str},names.lookup x=some .free ->
  (names.map fun(n,k)=>if(k==NameKind.free&&env.scope.kind == .function&&env.kindOf n==some .cell) then(n,NameKind.cell) else(n,k)).lookup x=some .cell \/
  (names.map fun(n,k)=>if(k==NameKind.free&&env.scope.kind == .function&&env.kindOf n==some .cell) then(n,NameKind.cell) else(n,k)).lookup x=some .free
 | [],_,h=>by cases h
 | (n,k0) :: r,x,h=>by
  have ih:=@q1w env r x;show List.lookup x ((if(k0==NameKind.free&&env.scope.kind == .function&&env.kindOf n==some .cell)=true then(n,NameKind.cell) else(n,k0)) :: _)=_\/List.lookup x ((if(k0==NameKind.free&&env.scope.kind == .function&&env.kindOf n==some .cell)=true then(n,NameKind.cell) else(n,k0)) :: _)=_;rw [mm] at h
  by_cases hc:(k0==NameKind.free&&env.scope.kind == .function&&env.kindOf n==some .cell)=true
  ·rw [gw hc,mm]
   cases q:x==n with
   | true=>exact .inl rfl
   | false=>rw [q] at h;exact ih h
  ·rw [m4 hc,mm]
   cases q:x==n with
   | true=>rw [q] at h;exact .inr h
   | false=>rw [q] at h;exact ih h
section
variable{X:Cx}{pins:List (Addr×Obj)}{σ : St}{H:Hp}{s:Shared}{N':List Str}{scope:Scope}{cap:List (Option Nat)}{cl:List (Str×Addr)}{fp:List Addr}
theorem qhs(I:Inv X pins σ H s)(co:CapOk X N' scope cap)(h1:∀x c,cl.lookup x=some c->X.env.cells.lookup x=some c)(h2:∀y∈scope.names,y.2=.free->∃c,cl.lookup y.1=some c)
  (hf:∀b∈fp,v9 X pins H b) (ho:∀b∈fp,∃o,s.heap.get? b=some o) {h':Heap} {t':Nat} {m:Str->Option Value} (hn:h'.Ns s.heap.objs.size m) (hk:∀b o,s.heap.get? b=some o->h'.get? b=some o) :
  Inv (va X N' scope cl s.heap.objs.size s H fp) [] (q4i cap σ) H {s with heap:=h',toks:=t'}:=by
 have flt:∀b∈fp,b<s.heap.objs.size:=fun b hb=>let⟨o,e⟩:=ho b hb;gs e
 refine⟨⟨I.ok.mod,co.kind,I.ok.glob,I.ok.blt,gv _,fun x y c e1 e2=>I.ok.inj x y c (h1 x c e1) (h1 y c e2),fun x hx=>?_,fun x c z _=>(nomatch z),I.ok.hd,I.ok.frames,.inl rfl,fun b hb=>?_,I.bs,md I.ok.bsz I.sz,fun b o e hb=>?_,fun b hb z=>?_,I.stack,I.stkFree⟩,
  rfl,I.bare,Un.kept hk,⟨m,hn,fun i x v e1 e2 e3=>?_⟩,fun x c e=>?_,I.hok.fresh (gv _),fun x c e=>I.freeC x c (h1 x c e),fun p hp=>(nomatch hp),I.hok.kept hk,?_⟩
 ·have hx':(relabel scope X.env).names.lookup x=some .cell\/(relabel scope X.env).names.lookup x=some .free:=hx
  have hfree:scope.names.lookup x=some .free:=by
   rcases hx' with q|q
   ·rcases yo q with z|⟨_,z⟩
    ·exact absurd rfl (co.cell _ (lookup_mem z))
    ·exact z
   ·rcases yo q with z|⟨z,_⟩
    ·exact z
    ·cases z
  exact h2 (x,.free) (lookup_mem hfree) rfl
 ·obtain⟨f0,f1,f2,f3,f4,f5⟩:=hf b hb
  exact⟨ma (flt b hb),fun x c e=>f4 x c (h1 x c e)⟩
 ·obtain⟨f0,f1,f2,f3,f4,f5⟩:=hf b hb
  rcases f3 with z|z
  ·exact I.ok.noex b o e z
  ·exact absurd (gy (gs e) (md I.ok.bsz z)) (ny _)
 ·obtain⟨f0,f1,f2,f3,f4,f5⟩:=hf b hb
  rcases mf.mp (I.stkSub b z) with q|q
  ·exact f1 q
  ·exact f2 q
 ·-- a captured name
  have e2':(cap.map fun o=>o.bind fun j=>(σ[j]?).join)[i]? = some (some v):=e2;rw [m9] at e2';cases q:cap[i]? with
  | none=>rw [q] at e2';cases e2'
  | some o=>
   rw [q] at e2';cases o with
   | none=>cases e2'
   | some j=>
    obtain⟨y,a1,a2,a3⟩:=co.cap i j q;have e1':N'[i]? = some x:=e1;rw [a1] at e1';obtain rfl:y=x:=mn e1';have ej:(σ[j]?).join=some v:=by
     have:=e2';simp only [gz,gc,g0i] at this;exact this
    have ej' : σ[j]? = some (some v):=by
     cases z : σ[j]? with
     | none=>rw [z] at ej;cases ej
     | some u=>rw [z] at ej;simp only [tx] at ej;rw [ej]
    have kd:=co.frees (y,.free) (lookup_mem a3) rfl;obtain⟨m0,hn0,hl0⟩:=I.loc;have vis:Vis X.env.scope y:=by
     rcases kd with k|k
     ·exact .inr (.inl k)
     ·exact .inr (.inr k)
    obtain⟨u,ru,lk⟩:=hl0 j y v a2 ej' vis;refine⟨u,ru,.inr ⟨q1w a3,?_⟩⟩;obtain⟨c,hc⟩:=h2 (y,.free) (lookup_mem a3) rfl;rcases lk with⟨k,_⟩|⟨_,c',hc',z⟩
    ·rcases kd with k'|k'
     ·rw [k] at k';cases k'
     ·rw [k] at k';cases k'
    ·have:=h1 _ _ hc
     rw [hc'] at this;obtain rfl:c'=c:=mn this;obtain⟨o,eo,ed⟩:=z;exact⟨c',hc,o,hk _ _ eo,ed⟩
 ·obtain⟨v,o,eo,ed⟩:=I.cell x c (h1 x c e)
  exact⟨v,o,hk _ _ eo,ed⟩
 ·show(cap.map _).length=N'.length
  rw [gx];exact co.len
theorem qef{N':List Str}{C:Addr}{H':Hp}{s':Shared}{σ':St}{h':Heap}(I:Inv X pins σ H s)(hf:∀b∈fp,v9 X pins H b)(J:Inv (va X N' scope cl C s H fp) [] σ' H' s')(hs:Heap.SameBut C s'.heap h'):
  Inv X pins σ H' {s' with heap:=h'}:=by
 have hC:s.heap.objs.size<=C:=J.ok.above;have kp:∀b o,b≠C->s'.heap.get? b=some o->h'.get? b=some o:=fun b o hb e=>(hs.2 b hb).trans e;have hC0:H' C=none:=J.free;have un:Un (frs X.stack) fp H H' s.heap h':=by
  have u:Un (frs X.stack) fp H H' s.heap s'.heap:=J.base;have neC:∀b o,s.heap.get? b=some o->b≠C:=fun b o e=>ma (gy (gs e) hC);exact⟨fun b o e n h1 h2=>kp b o (neC b o e) (u.keep b o e n h1 h2),fun b o e n h1 h2=>let⟨sl,q⟩:=u.slot b o e n h1 h2; ⟨sl,kp b _ (neC b o e) q⟩,u.free,fun b o e h=>let⟨o',q⟩:=u.there b o e h; ⟨o',kp b o' (neC b o e) q⟩,u.tups,u.frzs,u.tbls⟩
 have hok:HOk X.prog X.w H' h':=fun b u e=>by
  refine(J.hok b u e).stay (fun c v hc q=>kp c v ?_ q) (fun _ q=>q) fun _ _ q=>q;rcases hc with z|z
  ·rw [z];intro z2;rw [z2,hC0] at e;cases e
  ·intro z2;rw [z2,hC0] at z;cases z
 exact I.call' (s':={s' with heap:=h'}) (ch:=fp) J.os un hok J.bare fun b hb=>by
  obtain⟨f0,f1,f2,f3,f4,f5⟩:=hf b hb;exact⟨f3,f1,f4,f5⟩
end
def qht(J:It)(cap:List (Option Nat))(g:TG)(tc:TT)(te:TE)(σ : St)(H1:Hp)(p:Addr)(K:Hp->Prop): Prop:=
 ∃ W:Nat->Nat->St->Hp->Prop,(∃m,W 0 m (q4i cap σ) (upd H1 p (.lst [])))/\∀i m σ' H',W i m σ' H' ->
  (J.stop i H'/\K H')\/(J.go i H'/\∀x H'',J.yld i H' x H''->g x σ' H'' fun σ2 H2=>tc σ2 H2 fun b H3=>
   if b=true then te σ2 H3 fun y H4=>∃xs,H4 p=some (.lst xs)/\xs.length<sizeLine/\∃m',m'<m/\W (i+1) m' σ2 (upd H4 p (.lst (xs++[y])))
   else ∃m',m'<m/\W (i+1) m' σ2 H3)
def qeg(wi:TI)(cap:List (Option Nat))(g:TG)(tc:TT)(te:TE): TE:=fun σ H Q=>wi σ H fun J H1=>∀p,H1 p=none->qht J cap g tc te σ H1 p (Q (.ref p))
section
variable{X:Cx}{N':List Str}{scope:Scope}{cap:List (Option Nat)}{tg iter elt:Expr}{ifs:List Expr}{wi:TI}{g:TG}{tc:TT}{te:TE}{pos:Pos}
theorem qfu{cl:List (Str×Addr)}{pins:List (Addr×Obj)}{s:Shared}{σ : St}{H:Hp}{it:Addr}{fp:List Addr}{tn:Nat->Heap->Prop}{J:It}{E:Value->Shared->Prop}{K:Addr->Hp->Prop}
  {RR:Value->Addr->Result->Shared->Prop} (hc:X.calm=true) (co:CapOk X N' scope cap)
  (h1:∀x c,cl.lookup x=some c->X.env.cells.lookup x=some c) (h2:∀y∈scope.names,y.2=.free->∃c,cl.lookup y.1=some c)
  (hg:∀cl C s₀ H₀ fp,PG (va X N' scope cl C s₀ H₀ fp) tg g) (hcs:∀cl C s₀ H₀ fp,q04 (va X N' scope cl C s₀ H₀ fp) ifs tc) (he:∀cl C s₀ H₀ fp,PE (va X N' scope cl C s₀ H₀ fp) elt te)
  (I:Inv X pins σ H s) (T:Turn X.prog X.w X.K tg J fp it tn) (st:tn 0 s.heap) (hf:∀b∈fp,v9 X pins H b) (h:∀p,H p=none->qht J cap g tc te σ H p (K p))
  (hRR:∀(D C:Addr) (s':Shared) (H':Hp),s.heap.objs.size<=C->(∃m,s'.heap.Ns C m)->(∀h',Heap.SameBut C s'.heap h'->Inv X pins σ H' {s' with heap:=h'})->H' C=none->K D H'->RR (.ref D) C (.ok .next) s') :
  wpAny (model X.prog X.w) X.A (newList []) (fun acc s₃=>wpAny (model X.prog X.w) X.A (newFunctionEnv scope X.env.globals cl [] X.env.qual none .none (some X.env)) (fun cenv s₄=>
   codeAny (model X.prog X.w) X.A (.compStart (.ListComp elt [⟨tg,iter,ifs,0⟩] scope pos) 0 (.ref it) acc {cenv with scope:=relabel scope X.env}) (RR acc cenv.locals) s₄) E s₃) E s:=by
 refine nu (wpAny_newFunctionEnv co.cell (by intro y hy;simp at hy) (fun hh hns hsb=>?_) co.kind);have hD:H s.heap.objs.size=none:=I.fresh;have I3:Inv X pins σ (upd H s.heap.objs.size (.lst [])) {s with heap:=s.heap.push {cls:=.type "list",dict:=none,data:=.seq ([]:List Value).toArray} }:=I.lnew (ys:=[]) (its:=[]) (t':=s.toks) .nil (g1f _);obtain⟨W,⟨m0,w0⟩,turn⟩:=h s.heap.objs.size hD;have fobj:∀b∈fp,∃o,s.heap.get? b=some o:=fun b hb=>let⟨o,e,_⟩:=T.obj 0 _ st b hb; ⟨o,e⟩
 generalize e3:({s with heap:=s.heap.push {cls:=.type "list",dict:=none,data:=.seq ([]:List Value).toArray} }:Shared)=s3 at I3;have es3:s3.heap=s.heap.push {cls:=.type "list",dict:=none,data:=.seq ([]:List Value).toArray}:=by rw [<- e3]
 have eC:(s.heap.push {cls:=.type "list",dict:=none,data:=.seq ([]:List Value).toArray}).objs.size=s3.heap.objs.size:=by rw [es3]
 have hf3:∀b∈fp,v9 X pins (upd H s.heap.objs.size (.lst [])) b:=fun b hb=>by
  obtain⟨f0,f1⟩:=hf b hb;obtain⟨o,e⟩:=fobj b hb;exact⟨by rw [qo (ma (gs e))];exact f0,f1⟩
 have kp:∀b o,s3.heap.get? b=some o->hh.get? b=some o:=fun b o e=>by
  refine hsb.extBut b o ?_ (gh _ (by rw [<- es3];exact e));show b≠(s.heap.push {cls:=.type "list",dict:=none,data:=.seq ([]:List Value).toArray}).objs.size;rw [eC];exact ma (gs e)
 have hle:s.heap.objs.size<=s3.heap.objs.size:=by rw [es3,nk];exact g27 _
 have s3e:∀t:Nat,({s with heap:=hh,toks:=t}:Shared) = {s3 with heap:=hh,toks:=t}:=fun t=>by rw [<- e3]
 have I4:Inv (va X N' scope cl s3.heap.objs.size s3 (upd H s.heap.objs.size (.lst [])) fp) [] (q4i cap σ) (upd H s.heap.objs.size (.lst [])) {s3 with heap:=hh,toks:=s.toks+([]:List (Str×Value)).length}:=
  qhs I3 co h1 h2 hf3 (fun b hb=>let⟨o,e⟩:=fobj b hb; ⟨o,by rw [es3];exact gh _ e⟩) (by rw [<- eC];exact hns) kp
 have st4:tn 0 hh:=T.keep 0 _ _ st fun b hb o e=>kp b o (by rw [es3];exact gh _ e);have etk:s3.toks+([]:List (Str×Value)).length=s.toks+([]:List (Str×Value)).length:=by rw [<- e3]
 show codeAny (model X.prog X.w) X.A (.compStart (.ListComp elt [⟨tg,iter,ifs,0⟩] scope pos) 0 (.ref it) (.ref s.heap.objs.size) (compEnvC scope cl s3.heap.objs.size X.env)) (RR (.ref s.heap.objs.size) s3.heap.objs.size)
  {s3 with heap:=hh,toks:=s3.toks+([]:List (Str×Value)).length}
 rw [etk];generalize eX:va X N' scope cl s3.heap.objs.size s3 (upd H s.heap.objs.size (.lst [])) fp=X' at I4;have hg':PG X' tg g:=by rw [<- eX];exact hg _ _ _ _ _
 have hcs':q04 X' ifs tc:=by rw [<- eX];exact hcs _ _ _ _ _
 have he':PE X' elt te:=by rw [<- eX];exact he _ _ _ _ _
 have eenv:X'.env=compEnvC scope cl s3.heap.objs.size X.env:=by rw [<- eX]
 have exe:X'.xe=fun _ _=>False:=by rw [<- eX]
 have eex:X'.ex=fp:=by rw [<- eX]
 have eprog:X'.prog=X.prog:=by rw [<- eX]
 have ew:X'.w=X.w:=by rw [<- eX]
 have eK:X'.K=X.K:=by rw [<- eX]
 have eA:X'.A=X.A:=by rw [<- eX]
 have ecalm:X'.calm=true:=by rw [<- eX];exact hc
 have epn:X'.pn=[]:=by rw [<- eX]
 have eloc:X'.env.locals=s3.heap.objs.size:=by rw [eenv];rfl
 have ok':=I4.ok;have stat:∀ {H':Hp},(∀b∈fp,H' b=none)->∀b∈fp,v9 X' [] H' b:=fun hn b hb=>by
  have hbx:b∈X'.ex:=by rw [eex];exact hb
  exact⟨hn b hb,(ok'.exf b hbx).1,ok'.exfs b hbx,.inl hbx,(ok'.exf b hbx).2,fun p hp=>by rw [epn] at hp;cases hp⟩
 have back:∀ {σ':St} {H':Hp} {s':Shared},Inv X' [] σ' H' s'->K s.heap.objs.size H'->RR (.ref s.heap.objs.size) s3.heap.objs.size (.ok .next) s':=fun {σ' H' s'} J' k=>by
  refine hRR _ _ _ H' hle ?_ (fun h' hs'=>?_) ?_ k
  ·obtain⟨m,hm,_⟩:=J'.loc
   exact⟨m,by rw [<- eloc];exact hm⟩
  ·rw [<- eX] at J'
   exact qef I3 hf3 J' hs'
  ·rw [<- eloc];exact J'.free
 have loop:codeAny (model X.prog X.w) X.A (.compLoop (.ListComp elt [⟨tg,iter,ifs,0⟩] scope pos) 0 (.ref it) (.ref s.heap.objs.size) (compEnvC scope cl s3.heap.objs.size X.env)) (RR (.ref s.heap.objs.size) s3.heap.objs.size)
   {s3 with heap:=hh,toks:=s.toks+([]:List (Str×Value)).length}:=by
  refine q64 (fun n s'=>∃i σ' H',Inv X' [] σ' H' s'/\tn i s'.heap/\(∀b∈fp,H' b=none)/\W i n σ' H') ?_ m0 ⟨0,_,_,I4,st4,fun b hb=>(hf3 b hb).1,w0⟩
  rintro n s5 ⟨i, σ5,H5,I5,st5,fr5,w5⟩
  rw [<- eenv];rcases turn i n σ5 H5 w5 with⟨stop,qn⟩|⟨go,step⟩
  ·have:=T.done X' eprog ew eK ecalm i [] s5 σ5 H5 (fun _ _=>False) I5 (stat fr5) st5 stop
   rw [eA] at this;refine thn this fun r s6 ⟨hr,I6⟩=>?_;subst hr;exact back I6 qn
  ·have:=T.item X' eprog ew eK ecalm i [] s5 σ5 H5 (fun _ _=>False) I5 (stat fr5) st5 go
   rw [eA] at this;refine thn this fun r s6 ⟨u,hr,h6⟩=>?_;subst hr;refine thn h6 fun _ s7 ⟨x,H7,I7,r7,y7,st7,fr7⟩=>?_;have I7':=I7.pinned (stat fr7) (T.obj _ _ st7);have hg2:=hg' _ s7 σ5 H7 x u _ I7' r7 (step x H7 y7);rw [exe,eprog,ew,eA] at hg2;refine thn hg2 fun _ s8 ⟨σ8,H8,I8,q8⟩=>?_;have hc2:=hcs' _ s8 σ8 H8 _ I8 q8;rw [exe,eprog,ew,eA] at hc2;refine thn hc2 fun ok s9 ⟨H9,I9,q9⟩=>?_;have again:∀ {H':Hp} {s':Shared} {m':Nat},Inv X' ([]++q0y fp s7.heap) σ8 H' s'->m'<n->W (i+1) m' σ8 H'->∃m,m<n/\∃i σ' H',Inv X' [] σ' H' s'/\tn i s'.heap/\(∀b∈fp,H' b=none)/\W i m σ' H':=fun {H' s' m'} J' hm w'=>by
    refine⟨m',hm,i+1, σ8,H',J'.unpinned,T.keep _ _ _ st7 fun b hb o e=>(J'.pin (b,o) (mh _ (mh _ (ke hb e)))).1,fun b hb=>?_,w'⟩;obtain⟨o,e,d⟩:=T.obj _ _ st7 b hb;exact(J'.pin (b,o) (mh _ (mh _ (ke hb e)))).2.1
   cases ok with
   | false=>
    rw [m4 gq] at q9 ⊢;obtain⟨m',hm,w'⟩:=q9;exact again I9 hm w'
   | true=>
    rw [gw rfl] at q9 ⊢;have he2:=he' _ s9 σ8 H9 _ I9 q9;rw [exe,eprog,ew,eA] at he2;refine thn he2 fun y s10 ⟨yv,H10,I10,r10,xs,hp,hz,m',hm,w'⟩=>?_;have ha2:=q4h (X:=X') ([]++q0y fp s7.heap) s10 σ8 H10 (.ref s.heap.objs.size) [yv] (.ref s.heap.objs.size) [y] (fun _ H'=>H'=upd H10 s.heap.objs.size (.lst (xs++[yv]))) I10 rfl (.cons r10 .nil) ⟨_,xs,yv,rfl,rfl,hp,hz,rfl⟩;rw [exe,eprog,ew,eA] at ha2;refine thn ha2 fun _ s11 ⟨_,H11,I11,_,e11⟩=>?_;subst e11;exact again I11 hm w'
 exact codeAny_compStart_list loop (T.self _ 0 _ _ _ st4 loop)
theorem qk5(hc:X.calm=true)(co:CapOk X N' scope cap)(hi:PI X tg iter wi)
  (hg:∀cl C s₀ H₀ fp,PG (va X N' scope cl C s₀ H₀ fp) tg g) (hcs:∀cl C s₀ H₀ fp,q04 (va X N' scope cl C s₀ H₀ fp) ifs tc) (he:∀cl C s₀ H₀ fp,PE (va X N' scope cl C s₀ H₀ fp) elt te)
  (hs:∀x,foldedSetIterable iter X.env x=pure x:=by intro _;rfl):PE X (.ListComp elt [⟨tg,iter,ifs,0⟩] scope pos) (qeg wi cap g tc te):=by
 intro pins s σ H Q I h;obtain⟨cl,ecl,c1,c2⟩:=q6z (scope:=scope) (env:=X.env) fun y hy hf=>I.ok.has y.1 (co.frees y hy hf);rw [eval_ListComp];refine wpAny_comprehension_free (use:=none) rfl hs ecl co.kind co.names (mx (hi pins s σ H _ I h) (fun v s1 h1=>mx h1 (fun itv s2 h2=>?_) fun _ _ e=>e) fun _ _ e=>e);obtain⟨it,fp,tn,J,H2,rfl,I2,T,st2,f2,h2⟩:=h2;refine qfu (K:=fun p=>Q (.ref p)) (RR:=fun acc C=>compPost (model X.prog X.w) X.A X.xe none (EP X pins σ Q) acc C) hc co c1 c2 hg hcs he I2 T st2 f2 h2 ?_;intro D C s' H' hle ⟨m,hm⟩ hI hC q;exact⟨m,hm,fun h' hs'=>⟨.ref D,H',hI h' hs',rfl,q⟩⟩
end
section
variable{X:Cx}{N':List Str}{scope:Scope}{cap:List (Option Nat)}{tg iter elt:Expr}{ifs:List Expr}{wi:TI}{g:TG}{tc:TT}{te:TE}{pos:Pos}
end
end L2
namespace DL
open PySem PySem.Spec PyProof.Rows L2
structure ExcC(K:PySem.W.Frag)(D:Addr): Prop where
 ga:PySem.W.findIn K (.ref D) "__getattribute__" = some (some (.builtin "BaseException.__getattribute__"))
 gk:PySem.W.findIn K (.ref D) "__getattr__" = some none
 cc:PySem.W.findIn K (.ref D) "__class__" = some (some (.builtin "object.__class__"))
 cs:PySem.W.specialIn K (.builtin "object.__class__") "__get__" = some (some (.builtin "getset_descriptor.__get__"))
 ct:PySem.W.takesIn K (.builtin "object.__class__")=some true
 cm:PySem.W.mroIn K D (.type "object")=some true
 cb:PySem.W.mroIn K D (.type "BaseException")=some true
section
variable{prog:Program}{w:World}{A:Around}{E:Value->Shared->Prop}{K:PySem.W.Frag}{s:Shared}{x D:Addr}{od:Option Addr}{ox:Obj}
open PySem.W in
theorem q7u(c:ExcC K D): (clsIn K D).isSome=true:=by
 have:=c.cm;unfold mroIn at this;cases q:clsIn K D with
 | none=>rw [q] at this;cases this
 | some cd=>rfl
def XE(a C:Addr)(od:Option Addr)(h:Heap): Prop:=∃o vs,h.get? a=some o/\o.cls=.ref C/\o.dict=od/\o.data=.fields vs
open PySem.W in
theorem q1l{M:Model}{a C:Addr}{od:Option Addr}{h:Heap}(e:XE a C od h): Looks M h (typeOf (.ref a)) (.ref C):=by
 obtain⟨o,vs,e1,e2,_,e3⟩:=e;exact e2 ▸ (Looks.ld e1).andThen .now
open PySem.W Builtin.ObjectAttr in
theorem qk6{M:Model}{h:Heap}(c:ExcC K D)(X:K.In h): Looks M h (find (.ref x) (.ref D) "__class__") (.bind (.builtin "getset_descriptor.__get__") (.builtin "object.__class__")):=by
 refine(looks_findIn (M:=M) X c.cc).andThen ((looks_specialIn (M:=M) X c.cs).andThen ?_);exact(show Looks M h (dataDescriptor? (some (.builtin "object.__class__")) (some (.builtin "getset_descriptor.__get__"))) (some (.builtin "getset_descriptor.__get__",.builtin "object.__class__")) from(looks_takesIn (M:=M) X c.ct).andThen .now).andThen (Looks.tag .now)
open PySem.W Builtin Builtin.ObjectAttr Builtin.Getset_descriptor in
theorem qmj{tp:Value}{R:Result->Shared->Prop}(c:ExcC K D)(X:K.In s.heap)(I:XE x D od s.heap)(h:R (.ok (.ret (.ref D))) s):
  codeAny (model prog w) A (.call (.builtin "getset_descriptor.__get__") ⟨[.builtin "object.__class__",.ref x,tp],[]⟩) R s:=by
 obtain⟨hh,g,dr,t,os⟩:=s;have L0:=q1l (M:=model prog w) I;have L1:=looks_mroIn (M:=model prog w) X c.cm;refine t8 KF.slot_gs.plain KF.entry_gs (KF.slot_gs.check _ _ _ _ _ _ _ _ KF.type_class (KF.args_gs _ _ _) ?_);unfold Builtin.«getset_descriptor.__get__» descrGet;rw [dga_obj];refine g6 (gi ?_);unfold descrGetter descrCheckInstance descrNameAndClass isInstance;simp only [KF.owner_class]
 repeat lk
 refine⟨g1h _ (by decide +kernel),codeAny_builtin KF.entry_class ?_⟩;unfold Builtin.«object.__class__» shownTypeOf
 repeat lk
 exact h
open PySem.W in
theorem qhu{tk:Tok}{Q:Fin->Shared->Prop}(c:ExcC K D)(X:K.In s.heap)(I:XE x D od s.heap)(hq:Q (.done (.ret (.ref D))) s):
  wpAny (model prog w) A (Builtin.«object.__getattribute__» ⟨[.ref x,.str "__class__" tk],[]⟩) Q E s:=by
 obtain⟨hh,g,dr,t,os⟩:=s;have L0:=q1l (M:=model prog w) I;have L1:=qk6 (x:=x) (M:=model prog w) c X;unfold Builtin.«object.__getattribute__»;refine g6 (gi (g6 (gi (g6 (L0.at (g6 (L1.at ?_)))))));show wpAny _ _ (Builtin.ObjectAttr.bindTo _ _ _ _) _ _ _;unfold Builtin.ObjectAttr.bindTo;refine g6 (nj (ue (qmj c X I ?_)));exact gi hq
open PySem.W in
theorem qao{M:Model}{nameV:Value}{Q:Unit->Shared->Prop}(c:ExcC K D)(X:K.In s.heap)(I:XE x D od s.heap)(hq:Q () s): wpAny M A (checkBuiltinCall "BaseException.__getattribute__" ⟨[.ref x,nameV],[]⟩) Q E s:=by
 obtain⟨hh,g,dr,t,os⟩:=s;have L0:=q1l (M:=M) I;have L1:=looks_mroIn (M:=M) X c.cb;have hk:builtinKind "BaseException.__getattribute__" = some .slot:=by decide +kernel
 have hsplit:splitId "BaseException.__getattribute__" = some ("BaseException","__getattribute__"):=by decide +kernel
 have ha:=F.args_bexc_ga (.ref x) nameV;simp only [checkBuiltinCall,hk,hsplit];refine g6 ?_;unfold isInstance;refine g6 (L0.at (L1.at ?_))
 repeat (first|wp_step)
 exact hq
open PySem.W in
theorem qhv{Q:Option Value->Shared->Prop}(c:ExcC K D)(X:K.In s.heap)(I:XE x D od s.heap)(h:Q (some (.ref D)) {s with toks:=s.toks+1}): wpAny (model prog w) A (getAttr? (.ref x) "__class__") Q E s:=by
 obtain⟨hh,g,dr,t,os⟩:=s;have L0:=q1l (M:=model prog w) I;have L1:=looks_findIn (M:=model prog w) X c.ga;have L2:=looks_findIn (M:=model prog w) X c.gk;have f3:=pf.ga.bind (.ref x);unfold getAttr? getAttrBy? getAttrBy;refine g6 (wpAny_mkText (g6 (g0p (nj (g6 (L0.at (g6 (L1.at ?_))))))));show wpAny _ _ (getAttrByItsOwn _ _ _ _ _ _) _ _ _;unfold getAttrByItsOwn hookBefore;rw [gw (show onTheHeap (Value.ref D)=true from rfl)];refine g6 (L2.at ?_);refine g6 (g0p (nj ?_));unfold callGetattribute boundAndCalled;rw [m4 (by decide)];rw [f3];refine g6 (gi ?_);refine ue (t8 pf.ga.plain F.entry_bexc_ga (qao c X I (qhu c X I ?_)));dsimp only;exact handed_on rfl (gi h)
theorem q6c(c:ExcC K D): PySem.W.KitX K (.ref x) (.ref D) (XE x D od) where
 ty:=fun M h _ e=>q1l e
 it:=fun _ _ X _=>by
  obtain⟨cdD,hcD⟩:=tj.mp (q7u c);unfold PySem.W.clsIn at hcD
  split at hcD
  ·rename_i c' d' cd' sl' ho
   intro A' Q' E' s' k q;unfold isType loadHead;exact g6 (g1c (k _ _ (X _ _ ho)) (gi q))
  ·cases hcD
 ne:=fun h tp dd its n sl X htp=>by
  obtain⟨cdD,hcD⟩:=tj.mp (q7u c);refine Bool.eq_false_iff.mpr fun q=>?_;have e:D=tp:=Value.ref.inj (ni.mp q);subst e;unfold PySem.W.clsIn at hcD
  split at hcD
  ·rename_i c' d' cd' sl' ho
   have z:=(X _ _ ho).symm.trans htp;cases z
  ·cases hcD
 ca:=fun X e k=>qhv c X e k
end
def q7v(K:PySem.W.Frag)(C:Addr): Prop:=ExcC K C/\∀T:String,T∈["int","bool","tuple","list","str","dict"]->PySem.W.kitOne K (.ref C) (.type T)=some false
inductive D where
 | non
 | bl (b:Bool)
 | int (i:Int)
 | str (x:Str)
 | tup (ds:List D)
 | lst (ds:List D)
 | dct (ks:List Key) (vs:List D)
 | dtt (ks:List (List Int)) (vs:List D)
 | obj (x:Str)
 | exc (x:Str) (f:Option (Str×Int))
abbrev Frag:=PySem.W.Frag
abbrev St:=L2.St
def qmk(K:Frag)(C:Addr): Prop:=PySem.W.plainGet K C "__class__" = true/\PySem.W.hasDictIn K C=true/\PySem.W.findIn K (.ref C) "__class__" = some (some (.builtin "object.__class__")) /\
 PySem.W.specialIn K (.builtin "object.__class__") "__get__" = some (some (.builtin "getset_descriptor.__get__"))/\PySem.W.takesIn K (.builtin "object.__class__")=some true/\PySem.W.mroIn K C (.type "object")=some true /\
 ∀T:String,T∈["int","bool","tuple","list","str","dict"]->PySem.W.kitOne K (.ref C) (.type T)=some false
def qpl(x:List Int×Addr×Value): DictEntry:=⟨reduceHash (Builtin.Tuple.tupleHashOf (x.1.map hashInt)),.ref x.2.1,x.2.2⟩
def DE(a:Addr)(xs:List (List Int×Addr×Value))(ep:Nat)(h:Heap): Prop:=∃o es,h.get? a=some o/\o.ExactDict/\o.data=.dict es ep/\es.toList=xs.map qpl
def XF(H:Hp): Option Addr->Option (Str×Int)->Prop
 | none,none=>True
 | some dx,some p=>H dx=some (.xd [(p.1,.int p.2)])
 | _,_=>False
theorem XF.mono{H H':Hp}(e:Same H H'): ∀ {od:Option Addr} {f:Option (Str×Int)},XF H od f->XF H' od f
 | none,none,_=>trivial
 | some _,some _,h=>e _ _ h
 | none,some _,h=>h
 | some _,none,h=>h
mutual
/-- v stands for the datum in the heap H -/
def Rep(K:Frag)(H:Hp): D->V->Prop
 | .non,v=>v=.non
 | .bl b,v=>v=.bl b
 | .int i,v=>v=.int i
 | .str x,v=>v=.str x
 | .tup ds,v=>∃a xs,v=.ref a/\SqT K H a xs/\RepL K H ds xs
 | .lst ds,v=>∃a xs,v=.ref a/\SqL K H a xs/\RepL K H ds xs
 | .dct ks vs,v=>∃a xs,v=.ref a/\H a=some (.dK (ks.zip xs))/\ks.length=xs.length/\RepL K H vs xs
 | .dtt ks vs,v=>∃a xs ys ep,v=.ref a/\H a=some (.ext (DE a xs ep))/\xs.map (·.1)=ks/\ks.Nodup/\xs.length<=sizeLine/\(a==sysModules)=false/\(∀x∈xs,SqT K H x.2.1 (x.1.map V.int))/\Vals ys (xs.map fun x=>x.2.2)/\RepL K H vs ys
 | .obj x,v=>∃a dx C,v=.ref a/\H a=some (.ins C dx [])/\PySem.W.nsIn K mainGlobals x=some (some (.ref C))/\qmk K C
 | .exc x f,v=>∃a C,v=.ref a/\(∃od,H a=some (.ext (XE a C od))/\XF H od f)/\PySem.W.nsIn K mainGlobals x=some (some (.ref C))/\q7v K C
def RepL(K:Frag)(H:Hp): List D->List V->Prop
 | [],xs=>xs=[]
 | d :: ds,xs=>∃x r,xs=x :: r/\Rep K H d x/\RepL K H ds r
end
theorem qx{K:Frag}{H H':Hp}{a:Addr}{xs:List V}(e:Same H H')(h:SqT K H a xs): SqT K H' a xs:=by
 rcases h with(h|⟨o,h⟩)|h
 ·exact .inl (.inl (e _ _ h))
 ·exact .inl (.inr ⟨o,e _ _ h⟩)
 ·exact .inr h
mutual
theorem Rep.mono{K:Frag}{H H':Hp}(e:Same H H'): ∀ {d:D} {v:V},Rep K H d v->Rep K H' d v
 | .non,v,h=>by simpa only [Rep] using h
 | .bl b,v,h=>by simpa only [Rep] using h
 | .int i,v,h=>by simpa only [Rep] using h
 | .str x,v,h=>by simpa only [Rep] using h
 | .tup ds,v,h=>by
  simp only [Rep] at h ⊢;obtain⟨a,xs,e1,e2,e3⟩:=h;exact⟨a,xs,e1,qx e e2,RepL.mono e e3⟩
 | .lst ds,v,h=>by
  simp only [Rep] at h ⊢;obtain⟨a,xs,e1,e2,e3⟩:=h;exact⟨a,xs,e1,e.seq e2,RepL.mono e e3⟩
 | .dct ks vs,v,h=>by
  simp only [Rep] at h ⊢;obtain⟨a,xs,e1,e2,e3,e4⟩:=h;exact⟨a,xs,e1,e _ _ e2,e3,RepL.mono e e4⟩
 | .dtt ks vs,v,h=>by
  simp only [Rep] at h ⊢;obtain⟨a,xs,ys,ep,e1,e2,e3,e4,e5,e6,e7,e8,e9⟩:=h;exact⟨a,xs,ys,ep,e1,e _ _ e2,e3,e4,e5,e6,fun x hx=>qx e (e7 x hx),e8,RepL.mono e e9⟩
 | .obj x,v,h=>by
  simp only [Rep] at h ⊢;obtain⟨a,dx,C,e1,e2,e3⟩:=h;exact⟨a,dx,C,e1,e _ _ e2,e3⟩
 | .exc x f,v,h=>by
  simp only [Rep] at h ⊢;obtain⟨a,C,e1,⟨od,e2,e4⟩,e3⟩:=h;exact⟨a,C,e1,⟨od,e _ _ e2,e4.mono e⟩,e3⟩
theorem RepL.mono{K:Frag}{H H':Hp}(e:Same H H'): ∀ {ds:List D} {xs:List V},RepL K H ds xs->RepL K H' ds xs
 | [],xs,h=>by simpa only [RepL] using h
 | d :: ds,xs,h=>by
  simp only [RepL] at h ⊢;obtain⟨x,r,e1,e2,e3⟩:=h;exact⟨x,r,e1,Rep.mono e e2,RepL.mono e e3⟩
end
section
variable{K:Frag}{H:Hp}
theorem RepL.nil:RepL K H [] []:=by simp only [RepL]
theorem RepL.cons{d:D}{ds:List D}{x:V}{xs:List V}(h:Rep K H d x)(t:RepL K H ds xs): RepL K H (d :: ds) (x :: xs):=by
 simp only [RepL];exact⟨x,xs,rfl,h,t⟩
theorem RepL.nil_inv{xs:List V}(h:RepL K H [] xs): xs=[]:=by simpa only [RepL] using h
theorem RepL.cons_inv{d:D}{ds:List D}{xs:List V}(h:RepL K H (d :: ds) xs): ∃x r,xs=x :: r/\Rep K H d x/\RepL K H ds r:=by simpa only [RepL] using h
theorem RepL.length:∀ {ds:List D} {xs:List V},RepL K H ds xs->ds.length=xs.length
 | [],xs,h=>by rw [h.nil_inv];rfl
 | d :: ds,xs,h=>by
  obtain⟨x,r,rfl,_,t⟩:=h.cons_inv;simp [RepL.length t]
theorem RepL.append:∀ {ds es:List D} {xs ys:List V},RepL K H ds xs->RepL K H es ys->RepL K H (ds++es) (xs++ys)
 | [],es,xs,ys,h,t=>by rw [h.nil_inv];exact t
 | d :: ds,es,xs,ys,h,t=>by
  obtain⟨x,r,rfl,h1,h2⟩:=h.cons_inv;exact .cons h1 (RepL.append h2 t)
theorem RepL.get:∀ {ds:List D} {xs:List V} {i:Nat} {d:D},RepL K H ds xs->ds[i]? = some d->∃x,xs[i]? = some x/\Rep K H d x
 | [],xs,i,d,h,e=>by simp at e
 | d :: ds,xs,0,d',h,e=>by
  obtain⟨x,r,rfl,h1,h2⟩:=h.cons_inv;simp at e;subst e;exact⟨x,rfl,h1⟩
 | d :: ds,xs,i+1,d',h,e=>by
  obtain⟨x,r,rfl,h1,h2⟩:=h.cons_inv;obtain⟨y,e1,e2⟩:=RepL.get (i:=i) h2 (by simpa using e);exact⟨y,by simpa using e1,e2⟩
theorem RepL.take:∀ {ds:List D} {xs:List V} (n:Nat),RepL K H ds xs->RepL K H (ds.take n) (xs.take n)
 | _,_,0,_=>by simp only [List.take_zero];exact .nil
 | [],xs,n+1,h=>by rw [h.nil_inv];exact .nil
 | d :: ds,xs,n+1,h=>by
  obtain⟨x,r,rfl,h1,h2⟩:=h.cons_inv;exact .cons h1 (RepL.take n h2)
theorem RepL.drop:∀ {ds:List D} {xs:List V} (n:Nat),RepL K H ds xs->RepL K H (ds.drop n) (xs.drop n)
 | ds,xs,0,h=>by simpa only [g2c] using h
 | [],xs,n+1,h=>by rw [h.nil_inv];exact .nil
 | d :: ds,xs,n+1,h=>by
  obtain⟨x,r,rfl,h1,h2⟩:=h.cons_inv;exact RepL.drop n h2
theorem RepL.ints:∀ {ns:List Int} {xs:List V},RepL K H (ns.map D.int) xs↔xs=ns.map V.int
 | [],xs=>by simp only [ux,RepL]
 | n :: ns,xs=>by
  simp only [mi,RepL]
  constructor
  ·rintro⟨x,r,rfl,h1,h2⟩
   simp only [Rep] at h1;rw [h1,RepL.ints.mp h2]
  ·rintro rfl
   exact⟨_,_,rfl,by simp only [Rep],RepL.ints.mpr rfl⟩
theorem rep_int{i:Int}{v:V}: Rep K H (.int i) v↔v=.int i:=by simp only [Rep]
theorem rep_bl{i:Bool}{v:V}: Rep K H (.bl i) v↔v=.bl i:=by simp only [Rep]
theorem rep_str{i:Str}{v:V}: Rep K H (.str i) v↔v=.str i:=by simp only [Rep]
theorem rep_non{v:V}: Rep K H .non v↔v=.non:=by simp only [Rep]
theorem rep_tup{ds:List D}{v:V}: Rep K H (.tup ds) v↔∃a xs,v=.ref a/\SqT K H a xs/\RepL K H ds xs:=by simp only [Rep]
theorem rep_lst{ds:List D}{v:V}: Rep K H (.lst ds) v↔∃a xs,v=.ref a/\SqL K H a xs/\RepL K H ds xs:=by simp only [Rep]
theorem rep_dct{ks:List Key}{vs:List D}{v:V}: Rep K H (.dct ks vs) v↔∃a xs,v=.ref a/\H a=some (.dK (ks.zip xs))/\ks.length=xs.length/\RepL K H vs xs:=by simp only [Rep]
theorem rep_dtt{ks:List (List Int)}{vs:List D}{v:V}: Rep K H (.dtt ks vs) v↔∃a xs ys ep,v=.ref a/\H a=some (.ext (DE a xs ep))/\xs.map (·.1)=ks/\ks.Nodup/\xs.length<=sizeLine/\(a==sysModules)=false/\(∀x∈xs,SqT K H x.2.1 (x.1.map V.int))/\Vals ys (xs.map fun x=>x.2.2)/\RepL K H vs ys:=by simp only [Rep]
theorem rep_exc{x:Str}{f:Option (Str×Int)}{v:V}: Rep K H (.exc x f) v↔∃a C,v=.ref a/\(∃od,H a=some (.ext (XE a C od))/\XF H od f)/\PySem.W.nsIn K mainGlobals x=some (some (.ref C))/\q7v K C:=by simp only [Rep]
theorem rep_obj{x:Str}{v:V}: Rep K H (.obj x) v↔∃a dx C,v=.ref a/\H a=some (.ins C dx [])/\PySem.W.nsIn K mainGlobals x=some (some (.ref C))/\qmk K C:=by simp only [Rep]
end
class Lam where
 tab:List (Addr×Str)
class Pin where
 pin:Option Addr
instance (priority:=low) pin0:Pin:=⟨none⟩
variable[Lam][Pin]
def Tab(H:Hp): Prop:=∀p∈Lam.tab,∃ps,H p.1=some (.tbl ps)/\TriplesOk ps.toList/\∀pos cv,codeAmong pos ps.toList=some cv->∃c φ,cv=.ref c/\H c=some (.ext φ)/\∀h, φ h->h.CodeRec (.ref c) p.2
def qhw(F:Hp): Prop:=∀p∈Lam.tab,F p.1=none
theorem Tab.updG{H:Hp}(t:Tab H){p:Addr}{o:HO}(h:∀u,H p=some u->(∀ps,u ≠ .tbl ps)/\∀ φ,u ≠ .ext φ): Tab (upd H p o):=fun q hq=>by
 obtain⟨ps,e,ht,k⟩:=t q hq;refine⟨ps,by rw [qo (fun z=>by subst z;exact(h _ e).1 ps rfl)];exact e,ht,fun pos cv z=>?_⟩;obtain⟨c, φ,e1,e2,e3⟩:=k pos cv z;exact⟨c, φ,e1,by rw [qo (fun z=>by subst z;exact(h _ e2).2 φ rfl)];exact e2,e3⟩
theorem Tab.upd{H:Hp}(t:Tab H){p:Addr}{o:HO}(h:H p=none\/∃xs,H p=some (.lst xs)): Tab (upd H p o):=t.updG fun u e=>by
 rcases h with h|⟨xs,h⟩
 ·rw [h] at e;cases e
 ·rw [h] at e;cases e;exact⟨nofun,nofun⟩
structure Kept(H H':Hp): Prop where
 lst:∀b xs,H b=some (.lst xs)->H' b=some (.lst xs)
 ext:∀b φ,H b=some (.ext φ)->H' b=some (.ext φ)
 free:∀ {b},H' b=none->H b=none
 tb:Tab H->Tab H'
 dk:∀b (u:Addr×Addr×List (Str×V)),H b=some (.ins u.1 u.2.1 u.2.2)->H' b=some (.ins u.1 u.2.1 u.2.2)
theorem Kept.refl(H:Hp): Kept H H:=⟨fun _ _ e=>e,fun _ _ e=>e,fun e=>e,fun t=>t,fun _ _ e=>e⟩
theorem Kept.trans{H H1 H2:Hp}(a:Kept H H1)(b:Kept H1 H2): Kept H H2:=⟨fun c xs e=>b.lst c xs (a.lst c xs e),fun c φ e=>b.ext c φ (a.ext c φ e),fun e=>a.free (b.free e),fun t=>b.tb (a.tb t),fun c kvs e=>b.dk c kvs (a.dk c kvs e)⟩
theorem Kept.new{H:Hp}{p:Addr}{o:HO}(hp:H p=none): Kept H (upd H p o):=⟨fun b xs e=>by rw [qo (je e hp)];exact e,fun b φ e=>by rw [qo (je e hp)];exact e,fun {b} e=>by
 by_cases z:b=p
 ·subst z;exact hp
 ·rw [qo z] at e;exact e,fun t=>t.upd (.inl hp),fun b kvs e=>by rw [qo (je e hp)];exact e⟩
structure SameT(F H:Hp): Prop where
 s:Same F H
 t:Tab H
 f:qhw F
structure Grow(F H F' H':Hp): Prop where
 ff:Same F F'
 hh:Kept H H'
 fh:Same F' H'
 nw:∀b,F' b≠none->F b≠none\/H b=none
theorem Grow.refl{F H:Hp}(h:Same F H): Grow F H F H:=⟨.refl _,.refl _,h,fun _ h=>.inl h⟩
theorem Grow.trans{F H F1 H1 F2 H2:Hp}(a:Grow F H F1 H1)(b:Grow F1 H1 F2 H2): Grow F H F2 H2:=
 ⟨a.ff.trans b.ff,a.hh.trans b.hh,b.fh,fun c h=>(b.nw c h).elim (fun z=>a.nw c z) fun z=>.inr (a.hh.free z)⟩
theorem wm{H:Hp}{p:Addr}{o:HO}(h:H p=none): Same H (upd H p o):=fun b u q=>by rw [qo (je q h)];exact q
theorem qfv{F H:Hp}{p:Addr}{o:HO}(h:Same F H): Same (upd F p o) (upd H p o):=fun b u q=>by
 unfold upd at q ⊢
 split
 ·rename_i z;rw [gw z] at q;exact q
 ·rename_i z;rw [m4 z] at q;exact h _ _ q
theorem Grow.new{F H:Hp}{p:Addr}{o:HO}(h:Same F H)(hp:H p=none): Grow F H (upd F p o) (upd H p o):=
 ⟨wm (h.free hp),.new hp,qfv h,fun b hb=>by
  by_cases e:b=p
  ·subst e;exact .inr hp
  ·rw [qo e] at hb;exact .inl hb⟩
theorem Grow.own{F H:Hp}{p:Addr}{o:HO}(h:Same F H)(hp:H p=none): Grow F H F (upd H p o):=
 ⟨.refl _,.new hp,h.trans (wm hp),fun _ h=>.inl h⟩
inductive B where
 | fz (d:D)
 | ow (ds:List D)
 | od (kvs:Str×List (Str×D))
abbrev Rho:=List (Option B)
def FsR(K:Frag)(F:Hp): List (Str×D)->List (Str×V)->Prop
 | [],vs=>vs=[]
 | p :: fs,vs=>∃v r,vs=(p.1,v) :: r/\Rep K F p.2 v/\FsR K F fs r
omit [Lam] [Pin] in
theorem FsR.mono{K:Frag}{F F':Hp}(s:Same F F'): ∀ {fs:List (Str×D)} {vs:List (Str×V)},FsR K F fs vs->FsR K F' fs vs
 | [],_,h=>h
 | p :: fs,_,⟨v,r,e,h1,h2⟩=>⟨v,r,e,h1.mono s,FsR.mono s h2⟩
structure ODt(K:Frag)(F H H0:Hp)(a:Addr)(bs:List Addr)(kvs:Str×List (Str×D)): Prop where
 nb:bs=[]
 ex:∃C dx vs,H a=some (.ins C dx vs)/\PySem.W.nsIn K mainGlobals kvs.1=some (some (.ref C))/\FsR K F kvs.2 vs
 f:F a=none
 z:H0 a=none
 pn:∀p,Pin.pin=some p->a=p
structure RS(K:Frag)(F0 H0 F H:Hp)(σ : St)(ρ : Rho): Prop where
 t0:Tab H0/\qhw F0
 g:Grow F0 H0 F H
 len : σ.length = ρ.length
 fz:∀(i:Nat) (d:D), ρ[i]? = some (some (.fz d))->∃v, σ[i]? = some (some v)/\Rep K F d v
 ow:∀(i:Nat) (ds:List D), ρ[i]? = some (some (.ow ds))->∃a xs, σ[i]? = some (some (.ref a))/\H a=some (.lst xs)/\F a=none/\H0 a=none/\RepL K F ds xs
 dj:∀(i j:Nat) (ds es:List D) (a:Addr),i≠j -> ρ[i]? = some (some (.ow ds)) -> ρ[j]? = some (some (.ow es)) -> σ[i]? = some (some (.ref a)) -> σ[j]? ≠ some (some (.ref a))
 od:∀(i:Nat) (kvs:Str×List (Str×D)), ρ[i]? = some (some (.od kvs))->∃a bs, σ[i]? = some (some (.ref a))/\ODt K F H H0 a bs kvs/\∀(j:Nat) (es:List D) (b:Addr), ρ[j]? = some (some (.ow es))->b∈bs -> σ[j]? ≠ some (some (.ref b))
 o1:∀(i j:Nat) (k1 k2:Str×List (Str×D)), ρ[i]? = some (some (.od k1)) -> ρ[j]? = some (some (.od k2))->i=j
theorem qdd{F H F' H':Hp}{a:Addr}{o:HO}(g:Grow F H F' H')(h1:F a=none)(h2:H a=some o): F' a=none:=by
 cases q:F' a with
 | none=>rfl
 | some o=>
  rcases g.nw a (by rw [q];simp) with z|z
  ·exact absurd h1 z
  ·rw [h2] at z;cases z
theorem ODt.mem{K:Frag}{F H H0:Hp}{a:Addr}{bs:List Addr}{kvs:Str×List (Str×D)}(o:ODt K F H H0 a bs kvs){b:Addr}(h:b∈bs): ∃xs,H b=some (.lst xs)/\F b=none/\H0 b=none:=by
 rw [o.nb] at h;cases h
theorem ODt.nl{K:Frag}{F H H0:Hp}{a:Addr}{bs:List Addr}{kvs:Str×List (Str×D)}(o:ODt K F H H0 a bs kvs){xs:List V}(h:H a=some (.lst xs)): False:=by
 obtain⟨C,dx,vs,e,_⟩:=o.ex;rw [h] at e;cases e
theorem ODt.grow{K:Frag}{F H F' H' H0:Hp}{a:Addr}{bs:List Addr}{kvs:Str×List (Str×D)}(o:ODt K F H H0 a bs kvs)(g:Grow F H F' H'): ODt K F' H' H0 a bs kvs:=by
 obtain⟨C,dx,vs,e1,e2,e3⟩:=o.ex;exact⟨o.nb,⟨C,dx,vs,g.hh.dk a (C,dx,_) e1,e2,e3.mono g.ff⟩,qdd g o.f e1,o.z,o.pn⟩
theorem ODt.other{K:Frag}{F H H0:Hp}{a p:Addr}{bs:List Addr}{kvs:Str×List (Str×D)}{u:HO}(o:ODt K F H H0 a bs kvs)(h1:p≠a)(h2:p∉bs): ODt K F (upd H p u) H0 a bs kvs:=by
 obtain⟨C,dx,vs,e1,e2,e3⟩:=o.ex;exact⟨o.nb,⟨C,dx,vs,by rw [qo (gu h1)];exact e1,e2,e3⟩,o.f,o.z,o.pn⟩
theorem ODt.otherF{K:Frag}{F H H0:Hp}{a p:Addr}{bs:List Addr}{kvs:Str×List (Str×D)}{u:HO}(o:ODt K F H H0 a bs kvs)(hs:Same F (upd F p u))(h1:p≠a)(h2:p∉bs): ODt K (upd F p u) H H0 a bs kvs:=by
 obtain⟨C,dx,vs,e1,e2,e3⟩:=o.ex;exact⟨o.nb,⟨C,dx,vs,e1,e2,e3.mono hs⟩,by rw [qo (gu h1)];exact o.f,o.z,o.pn⟩
section
variable{K:Frag}{F0 H0 F H F' H':Hp}{σ : St}{ρ : Rho}
theorem RS.fh(r:RS K F0 H0 F H σ ρ): Same F H:=r.g.fh
theorem RS.tab(r:RS K F0 H0 F H σ ρ): Tab H:=r.g.hh.tb r.t0.1
theorem RS.tabF(r:RS K F0 H0 F H σ ρ): qhw F:=fun p hp=>by
 cases q:F p.1 with
 | none=>rfl
 | some o=>
  rcases r.g.nw p.1 (by rw [q];simp) with z|z
  ·exact absurd (r.t0.2 p hp) z
  ·obtain⟨ps,e,_⟩:=r.t0.1 p hp
   rw [e] at z;cases z
theorem RS.grow(r:RS K F0 H0 F H σ ρ)(g:Grow F H F' H'): RS K F0 H0 F' H' σ ρ where
 t0:=r.t0
 g:=r.g.trans g
 len:=r.len
 fz:=fun i d e=>let⟨v,e1,e2⟩:=r.fz i d e; ⟨v,e1,e2.mono g.ff⟩
 ow:=fun i ds e=>by
  obtain⟨a,xs,e1,e2,e3,e4,e5⟩:=r.ow i ds e;refine⟨a,xs,e1,g.hh.lst _ _ e2,?_,e4,e5.mono g.ff⟩;cases q:F' a with
  | none=>rfl
  | some o=>
   rcases g.nw a (by rw [q];simp) with z|z
   ·exact absurd e3 z
   ·rw [e2] at z;cases z
 dj:=r.dj
 od:=fun i kvs e=>let⟨a,bs,e1,e2,e3⟩:=r.od i kvs e; ⟨a,bs,e1,e2.grow g,e3⟩
 o1:=r.o1
theorem RS.sameT(r:RS K F0 H0 F H σ ρ)(g:Grow F H F' H'): SameT F' H':=⟨g.fh,(r.grow g).tab,(r.grow g).tabF⟩
theorem qm{α : Type}{l:List α}{i:Nat}{x y : α}(h:(l.set i x)[i]? = some y): y=x/\i<l.length:=by
 rw [uo] at h;simp only [nv] at h
 split at h
 ·exact⟨(mn h).symm,by assumption⟩
 ·cases h
theorem RS.set(r:RS K F0 H0 F H σ ρ){d:D}{v:V}(i:Nat)(h:Rep K F d v): RS K F0 H0 F H (σ.set i (some v)) (ρ.set i (some (.fz d))) where
 t0:=r.t0
 g:=r.g
 len:=by rw [my,my];exact r.len
 fz:=fun j e h1=>by
  by_cases q:j=i
  ·subst q
   obtain⟨z,l⟩:=qm h1;cases z;exact⟨v,by rw [uo];simp [r.len,l],h⟩
  ·rw [gf (gu q)] at h1 ⊢
   exact r.fz j e h1
 ow:=fun j ds h1=>by
  by_cases q:j=i
  ·subst q
   obtain⟨z,l⟩:=qm h1;cases z
  ·rw [gf (gu q)] at h1 ⊢
   exact r.ow j ds h1
 dj :=fun j k ds es a hjk h1 h2 h3=>by
  by_cases q:j=i
  ·subst q
   obtain⟨z,l⟩:=qm h1;cases z
  ·by_cases q2:k=i
   ·subst q2
    obtain⟨z,l⟩:=qm h2;cases z
   ·rw [gf (gu q)] at h1 h3
    rw [gf (gu q2)] at h2 ⊢;exact r.dj j k ds es a hjk h1 h2 h3
 od :=fun j kvs h1=>by
  by_cases q:j=i
  ·subst q
   obtain⟨z,l⟩:=qm h1;cases z
  ·rw [gf (gu q)] at h1 ⊢
   obtain⟨a,bs,e1,e2,e3⟩:=r.od j kvs h1;refine⟨a,bs,e1,e2,fun k es b h2 h3=>?_⟩
   by_cases q2:k=i
   ·subst q2
    obtain⟨z,l⟩:=qm h2;cases z
   ·rw [gf (gu q2)] at h2 ⊢
    exact e3 k es b h2 h3
 o1 :=fun j k k1 k2 h1 h2=>by
  by_cases q:j=i
  ·subst q
   obtain⟨z,l⟩:=qm h1;cases z
  ·by_cases q2:k=i
   ·subst q2
    obtain⟨z,l⟩:=qm h2;cases z
   ·rw [gf (gu q)] at h1
    rw [gf (gu q2)] at h2;exact r.o1 j k k1 k2 h1 h2
theorem RS.setO(r:RS K F0 H0 F H σ ρ){ds:List D}{xs:List V}{a:Addr}(i:Nat)(h1:H a=some (.lst xs))(h2:F a=none)(h3:H0 a=none)(h4:RepL K F ds xs)
  (h5:∀(j:Nat) (es:List D), ρ[j]? = some (some (.ow es)) -> σ[j]? ≠ some (some (.ref a)))
  (h6:∀(j:Nat) (kvs:Str×List (Str×D)), ρ[j]? = some (some (.od kvs))->∃a' bs, σ[j]? = some (some (.ref a'))/\ODt K F H H0 a' bs kvs/\a∉bs/\∀(j':Nat) (es:List D) (b:Addr), ρ[j']? = some (some (.ow es))->b∈bs -> σ[j']? ≠ some (some (.ref b))):RS K F0 H0 F H (σ.set i (some (.ref a))) (ρ.set i (some (.ow ds))) where
 t0:=r.t0
 g:=r.g
 len:=by rw [my,my];exact r.len
 fz:=fun j e q1=>by
  by_cases q:j=i
  ·subst q
   obtain⟨z,l⟩:=qm q1;cases z
  ·rw [gf (gu q)] at q1 ⊢
   exact r.fz j e q1
 ow:=fun j es q1=>by
  by_cases q:j=i
  ·subst q
   obtain⟨z,l⟩:=qm q1;cases z;exact⟨a,xs,by rw [uo];simp [r.len,l],h1,h2,h3,h4⟩
  ·rw [gf (gu q)] at q1 ⊢
   exact r.ow j es q1
 dj :=fun j k ds' es b hjk q1 q2 q3=>by
  by_cases q:j=i
  ·subst q
   have e3:=qm q3;have eb:b=a:=by have:=e3.1;simpa using this
   subst eb;rw [gf hjk] at q2 ⊢;exact h5 k es q2
  ·rw [gf (gu q)] at q1 q3
   by_cases q4:k=i
   ·subst q4
    intro z;have eb:b=a:=by have:=(qm z).1;simpa using this
    subst eb;exact h5 j ds' q1 q3
   ·rw [gf (gu q4)] at q2 ⊢
    exact r.dj j k ds' es b hjk q1 q2 q3
 od :=fun j kvs q1=>by
  by_cases q:j=i
  ·subst q
   obtain⟨z,l⟩:=qm q1;cases z
  ·rw [gf (gu q)] at q1 ⊢
   obtain⟨a',bs,e1,e2,e3,e4⟩:=h6 j kvs q1;refine⟨a',bs,e1,e2,fun k es b p1 p2 p3=>?_⟩
   by_cases q2:k=i
   ·subst q2
    have eb:b=a:=by have:=(qm p3).1;simpa using this
    exact e3 (eb ▸ p2)
   ·rw [gf (gu q2)] at p1 p3
    exact e4 k es b p1 p2 p3
 o1 :=fun j k k1 k2 p1 p2=>by
  by_cases q:j=i
  ·subst q
   obtain⟨z,l⟩:=qm p1;cases z
  ·by_cases q2:k=i
   ·subst q2
    obtain⟨z,l⟩:=qm p2;cases z
   ·rw [gf (gu q)] at p1
    rw [gf (gu q2)] at p2;exact r.o1 j k k1 k2 p1 p2
theorem RS.wrt(r:RS K F0 H0 F H σ ρ){ds es:List D}{ys:List V}{a:Addr}{i:Nat}(h1 : ρ[i]? = some (some (.ow ds)))(h2 : σ[i]? = some (some (.ref a)))(h4:RepL K F es ys):
  RS K F0 H0 F (upd H a (.lst ys)) σ (ρ.set i (some (.ow es))):=by
 obtain⟨a',xs,e1,e2,e3,e4,e5⟩:=r.ow i ds h1;rw [h2] at e1;obtain rfl:a=a':=by simpa using e1
 have nF:∀b o,F b=some o->b≠a:=fun b o e z=>by subst z;rw [e3] at e;cases e
 exact {
  t0:=r.t0
  g :=⟨r.g.ff,⟨fun b o e=>by rw [qo (fun z=>by subst z;rw [e4] at e;cases e)];exact r.g.hh.lst b o e,fun b o e=>by rw [qo (fun z=>by subst z;rw [e4] at e;cases e)];exact r.g.hh.ext b o e,fun {b} e=>by
    by_cases z:b=a
    ·subst z;exact e4
    ·rw [qo z] at e;exact r.g.hh.free e,fun t=>(r.g.hh.tb t).upd (.inr ⟨_,e2⟩),fun b o e=>by rw [qo (fun z=>by subst z;rw [e4] at e;cases e)];exact r.g.hh.dk b o e⟩,fun b o e=>by rw [qo (nF b o e)];exact r.g.fh b o e,r.g.nw⟩
  len:=by rw [my];exact r.len
  fz:=fun j e q1=>by
   by_cases q:j=i
   ·subst q
    obtain⟨z,l⟩:=qm q1;cases z
   ·rw [gf (gu q)] at q1
    exact r.fz j e q1
  ow :=fun j es' q1=>by
   by_cases q:j=i
   ·subst q
    obtain⟨z,l⟩:=qm q1;cases z;exact⟨a,ys,h2,qv,e3,e4,h4⟩
   ·rw [gf (gu q)] at q1
    obtain⟨b,zs,f1,f2,f3,f4,f5⟩:=r.ow j es' q1;have hb:b≠a:=fun z=>by
     subst z;exact r.dj i j ds es' b (gu q) h1 q1 h2 f1
    exact⟨b,zs,f1,by rw [qo hb];exact f2,f3,f4,f5⟩
  dj:=fun j k ds' es' b hjk q1 q2 q3=>by
   have back:∀(l:Nat) (us:List D),(ρ.set i (some (.ow es)))[l]? = some (some (.ow us))->∃ws, ρ[l]? = some (some (.ow ws)):=fun l us z=>by
    by_cases q:l=i
    ·subst q;exact⟨ds,h1⟩
    ·rw [gf (gu q)] at z;exact⟨us,z⟩
   obtain⟨w1,z1⟩:=back j ds' q1;obtain⟨w2,z2⟩:=back k es' q2;exact r.dj j k w1 w2 b hjk z1 z2 q3
  od:=fun j kvs q1=>by
   by_cases q:j=i
   ·subst q
    obtain⟨z,l⟩:=qm q1;cases z
   ·rw [gf (gu q)] at q1
    obtain⟨a',bs,f1,f2,f3⟩:=r.od j kvs q1;refine⟨a',bs,f1,f2.other (fun z=>by subst z;exact f2.nl e2) fun z=>f3 i ds a h1 z h2,fun k es' b p1 p2=>?_⟩
    by_cases q2:k=i
    ·subst q2;exact f3 k ds b h1 p2
    ·rw [gf (gu q2)] at p1;exact f3 k es' b p1 p2
  o1 :=fun j k k1 k2 p1 p2=>by
   have back:∀(l:Nat) (us),(ρ.set i (some (.ow es)))[l]? = some (some (.od us)) -> ρ[l]? = some (some (.od us)):=fun l us z=>by
    by_cases q:l=i
    ·subst q
     obtain⟨z',_⟩:=qm z;cases z'
    ·rw [gf (gu q)] at z;exact z
   exact r.o1 j k k1 k2 (back _ _ p1) (back _ _ p2)}
theorem RS.freeze(r:RS K F0 H0 F H σ ρ){ds:List D}{i:Nat}(h1 : ρ[i]? = some (some (.ow ds))): ∃F',Same F F'/\RS K F0 H0 F' H σ (ρ.set i (some (.fz (.lst ds)))):=by
 obtain⟨a,xs,e1,e2,e3,e4,e5⟩:=r.ow i ds h1;have sF:Same F (upd F a (.lst xs)):=wm e3;refine⟨upd F a (.lst xs),sF,?_⟩;exact {
  t0:=r.t0
  g :=⟨r.g.ff.trans sF,r.g.hh,fun b o e=>by
    by_cases q:b=a
    ·subst q;rw [qv] at e;cases e;exact e2
    ·rw [qo q] at e;exact r.g.fh b o e,fun b hb=>by
    by_cases q:b=a
    ·subst q;exact .inr e4
    ·rw [qo q] at hb;exact r.g.nw b hb⟩
  len:=by rw [my];exact r.len
  fz:=fun j e q1=>by
   by_cases q:j=i
   ·subst q
    obtain⟨z,l⟩:=qm q1;cases z;exact⟨_,e1,rep_lst.mpr ⟨a,xs,rfl,SqL.of qv,e5.mono sF⟩⟩
   ·rw [gf (gu q)] at q1
    obtain⟨v,z1,z2⟩:=r.fz j e q1;exact⟨v,z1,z2.mono sF⟩
  ow :=fun j es' q1=>by
   by_cases q:j=i
   ·subst q
    obtain⟨z,l⟩:=qm q1;cases z
   ·rw [gf (gu q)] at q1
    obtain⟨b,zs,f1,f2,f3,f4,f5⟩:=r.ow j es' q1;have hb:b≠a:=fun z=>by
     subst z;exact r.dj i j ds es' b (gu q) h1 q1 e1 f1
    exact⟨b,zs,f1,f2,by rw [qo hb];exact f3,f4,f5.mono sF⟩
  dj :=fun j k ds' es' b hjk q1 q2 q3=>by
   have back:∀(l:Nat) (us:List D),(ρ.set i (some (.fz (.lst ds))))[l]? = some (some (.ow us)) -> ρ[l]? = some (some (.ow us)):=fun l us z=>by
    by_cases q:l=i
    ·subst q
     obtain⟨z',_⟩:=qm z;cases z'
    ·rw [gf (gu q)] at z;exact z
   exact r.dj j k ds' es' b hjk (back _ _ q1) (back _ _ q2) q3
  od:=fun j kvs q1=>by
   by_cases q:j=i
   ·subst q
    obtain⟨z,l⟩:=qm q1;cases z
   ·rw [gf (gu q)] at q1
    obtain⟨a',bs,f1,f2,f3⟩:=r.od j kvs q1;refine⟨a',bs,f1,f2.otherF sF (fun z=>by subst z;exact f2.nl e2) fun z=>f3 i ds a h1 z e1,fun k es' b p1 p2=>?_⟩
    by_cases q2:k=i
    ·subst q2;exact f3 k ds b h1 p2
    ·rw [gf (gu q2)] at p1;exact f3 k es' b p1 p2
  o1 :=fun j k k1 k2 p1 p2=>by
   have back:∀(l:Nat) (us),(ρ.set i (some (.fz (.lst ds))))[l]? = some (some (.od us)) -> ρ[l]? = some (some (.od us)):=fun l us z=>by
    by_cases q:l=i
    ·subst q
     obtain⟨z',_⟩:=qm z;cases z'
    ·rw [gf (gu q)] at z;exact z
   exact r.o1 j k k1 k2 (back _ _ p1) (back _ _ p2)}
end
end DL
namespace DL
open PySem PySem.Spec PyProof.Rows L2
variable[Lam][Pin]
abbrev lim:Nat:=1000000
theorem yp{n:Nat}(h:n<=lim): n<=sizeLine:=md h (by decide)
theorem q8x{n:Nat}(h:n<lim): n<sizeLine:=gy h (by decide)
abbrev FE:=Rho->Option D
abbrev FT:=Rho->Option Bool
abbrev FA:=Rho->Option (List D)
inductive Fl where
 | nx|bk|ct
 | rt (d:D)
abbrev FS:=Rho->Option (Fl×Rho)
def tD(K:Frag)(f:FE): TE:=fun σ H Q=>∃F0 H0 F ρ d,RS K F0 H0 F H σ ρ /\ f ρ = some d/\∀v F' H',Grow F H F' H'->Rep K F' d v->Q v H'
def tL(K:Frag)(f:FA): TE:=fun σ H Q=>∃F0 H0 F ρ ds,RS K F0 H0 F H σ ρ /\ f ρ = some ds/\∀a xs F' H',Grow F H F' H'->F' a=none->H a=none->H' a=some (.lst xs)->RepL K F' ds xs->Q (.ref a) H'
def tDT(K:Frag)(f:FT): TT:=fun σ H Q=>∃F0 H0 F ρ b,RS K F0 H0 F H σ ρ /\ f ρ = some b/\∀F' H',Grow F H F' H'->Q b H'
def tDA(K:Frag)(f:FA): TA:=fun σ H Q=>∃F0 H0 F ρ ds,RS K F0 H0 F H σ ρ /\ f ρ = some ds/\∀vs F' H',Grow F H F' H'->RepL K F' ds vs->Q vs H'
def qa5(K:Frag)(F0 H0 F:Hp)(D:Ends)(fl:Fl)(ρ':Rho): Prop:=match fl with
 | .nx=>∀ σ' F' H',Same F F'->RS K F0 H0 F' H' σ' ρ'->D.nx σ' H'
 | .bk=>∀ σ' F' H',Same F F'->RS K F0 H0 F' H' σ' ρ'->D.bk σ' H'
 | .ct=>∀ σ' F' H',Same F F'->RS K F0 H0 F' H' σ' ρ'->D.ct σ' H'
 | .rt d=>∀v σ' F' H',RS K F0 H0 F' H' σ' ρ'->Rep K F' d v->D.rt v H'
def tDS(K:Frag)(f:FS): TS:=fun D σ H=>∃F0 H0 F ρ fl ρ',RS K F0 H0 F H σ ρ /\ f ρ = some (fl, ρ')/\qa5 K F0 H0 F D fl ρ'
section
variable{X:Cx}{e:Expr}{pos:Pos}
theorem zc{t t':TE}(h:PE X e t)(i:∀ σ H Q,t' σ H Q->t σ H Q): PE X e t':=fun pins s σ H Q I q=>h pins s σ H Q I (i σ H Q q)
theorem q38{t t':TT}(h:PT X e t)(i:∀ σ H Q,t' σ H Q->t σ H Q): PT X e t':=fun pins s σ H Q I q=>h pins s σ H Q I (i σ H Q q)
theorem q70{es:List Expr}{t t':TA}(h:PA X es t)(i:∀ σ H Q,t' σ H Q->t σ H Q): PA X es t':=fun pos pins s σ H Q I q=>h pos pins s σ H Q I (i σ H Q q)
theorem jj{st:Stmt}{t t':TS}(h:PS X st t)(i:∀D σ H,t' D σ H->t D σ H): PS X st t':=fun pins s σ H D I q=>h pins s σ H D I (i D σ H q)
theorem q39{st:List Stmt}{t t':TS}(h:PSs X st t)(i:∀D σ H,t' D σ H->t D σ H): PSs X st t':=fun pins s σ H D I q=>h pins s σ H D I (i D σ H q)
def eV(i:Nat): FE:=fun ρ =>match ρ[i]? with
 | some (some (.fz d))=>some d
 | _=>none
def eC(d:D): FE:=fun _=>some d
theorem qde{i:Nat}{ρ : Rho}{d:D}(h:eV i ρ = some d): ρ[i]? = some (some (.fz d)):=by
 unfold eV at h
 split at h
 ·rename_i e;rw [e,mn h]
 ·cases h
theorem qa{K:Frag}{i:Nat}(h:PE X e (yn i)): PE X e (tD K (eV i)):=zc h fun σ H Q ⟨F0,H0,F, ρ,d,r,hf,q⟩=>by
 obtain⟨v,e1,e2⟩:=r.fz i d (qde hf);exact⟨v,e1,q v F H (.refl r.fh) e2⟩
theorem q3o{K:Frag}{v:V}{d:D}(h:PE X e (tC v))(hd:∀H,Rep K H d v): PE X e (tD K (eC d)):=zc h fun σ H Q ⟨F0,H0,F, ρ,d',r,hf,q⟩=>by
 cases hf;exact q v F H (.refl r.fh) (hd F)
theorem qi{K:Frag}{i j}: PE X (.Constant (.int i) j pos) (tD K (eC (.int i))):=q3o qln fun _=>rep_int.mpr rfl
theorem vj{K:Frag}{b j}: PE X (.Constant (.bool b) j pos) (tD K (eC (.bl b))):=q3o qnz fun _=>rep_bl.mpr rfl
theorem q1x{K:Frag}{j}: PE X (.Constant .none j pos) (tD K (eC .non)):=q3o qlo fun _=>rep_non.mpr rfl
def rD(K:Frag)(op:D->D->Option D): R2:=fun x y H Q=>∃F d1 d2 d,Same F H/\Rep K F d1 x/\Rep K F d2 y/\op d1 d2=some d/\∀v F' H',Grow F H F' H'->Rep K F' d v->Q v H'
def eOp(op:D->D->Option D)(f g:FE): FE:=fun ρ =>(f ρ).bind fun x=>(g ρ).bind fun y=>op x y
theorem two{K:Frag}{f g:FE}{op:D->D->Option D}{σ : St}{H:Hp}{Q:VK}(h:tD K (eOp op f g) σ H Q): tD K f σ H fun x H1=>tD K g σ H1 fun y H2=>rD K op x y H2 Q:=by
 obtain⟨F0,H0,F, ρ,d,r,hf,q⟩:=h;obtain⟨d1,h1,hf⟩:=g9.mp hf;obtain⟨d2,h2,h3⟩:=g9.mp hf;refine⟨F0,H0,F, ρ,d1,r,h1,fun v F1 H1 g1 r1=>⟨F0,H0,F1, ρ,d2,r.grow g1,h2,fun u F2 H2 g2 r2=>?_⟩⟩;exact⟨F2,d1,d2,d,g2.fh,r1.mono g2.ff,r2,h3,fun w F3 H3 g3 r3=>q w F3 H3 (g1.trans (g2.trans g3)) r3⟩
variable{a b:Expr}{f g:FE}
theorem qs{op:Operator}{o:D->D->Option D}(ho:OpR X (binaryOp op) (rD X.K o))(ha:PE X a (tD X.K f))(hb:PE X b (tD X.K g)): PE X (.BinOp a op b pos) (tD X.K (eOp o f g)):=
 zc (qo6 ho ha hb) fun σ H Q h=>two h
theorem q0i{f:Value->Value->Sem Value}{r r':R2}(h:OpR X f r)(i:∀x y H Q,r' x y H Q->r x y H Q): OpR X f r':=fun pins s σ H x y v u Q I rx ry q=>h pins s σ H x y v u Q I rx ry (i x y H Q q)
theorem qap{f:Value->Value->Sem Value}{K:Frag}{o o':D->D->Option D}(h:OpR X f (rD K o))(h':OpR X f (rD K o')): OpR X f (rD K fun x y=>(o x y).or (o' x y)):=fun pins s σ H x y v u Q I rx ry q=>by
 obtain⟨F,d1,d2,d,q1,q2,q3,q4,q5⟩:=q;have q4:(o d1 d2).or (o' d1 d2)=some d:=q4;cases e:o d1 d2 with
 | some d'=>rw [e] at q4;cases q4;exact h pins s σ H x y v u Q I rx ry ⟨F,d1,d2,_,q1,q2,q3,e,q5⟩
 | none=>rw [e] at q4;exact h' pins s σ H x y v u Q I rx ry ⟨F,d1,d2,d,q1,q2,q3,q4,q5⟩
def oI(C:Int->Int->Bool)(z:Int->Int->Int): D->D->Option D
 | .int i,.int j=>if C i j then some (.int (z i j)) else none
 | _,_=>none
def oB(z:Int->Int->Bool): D->D->Option D
 | .int i,.int j=>some (.bl (z i j))
 | _,_=>none
theorem q7w{C:Int->Int->Bool}{z:Int->Int->Int}{d1 d2 d:D}(h:oI C z d1 d2=some d): ∃i j,d1=.int i/\d2=.int j/\C i j=true/\d=.int (z i j):=by
 cases d1 <;> cases d2 <;> simp only [oI] at h <;> first|(cases h;done)|skip
 split at h
 ·exact⟨_,_,rfl,rfl,by assumption,(mn h).symm⟩
 ·cases h
theorem qk7{z:Int->Int->Bool}{d1 d2 d:D}(h:oB z d1 d2=some d): ∃i j,d1=.int i/\d2=.int j/\d=.bl (z i j):=by
 cases d1 <;> cases d2 <;> simp only [oB] at h <;> first|(cases h;done)|skip
 exact⟨_,_,rfl,rfl,(mn h).symm⟩
theorem q71{fv:Value->Value->Sem Value}{P:Int->Int->Prop}{C:Int->Int->Bool}{z:Int->Int->Int}(h:OpR X fv (rI P fun i j=>.int (z i j)))(hC:∀i j,C i j=true->P i j): OpR X fv (rD X.K (oI C z)):=
 q0i h fun x y H Q ⟨F,d1,d2,d,q1,q2,q3,q4,q5⟩=>by
  obtain⟨i,j,rfl,rfl,c,rfl⟩:=q7w q4;exact⟨i,j,rep_int.mp q2,rep_int.mp q3,hC i j c,q5 _ F H (.refl q1) (rep_int.mpr rfl)⟩
theorem qfw{fv:Value->Value->Sem Value}{z:Int->Int->Int}(h:OpR X fv (rI0 fun i j=>.int (z i j))): OpR X fv (rD X.K (oI (fun _ _=>true) z)):=
 q0i h fun x y H Q ⟨F,d1,d2,d,q1,q2,q3,q4,q5⟩=>by
  obtain⟨i,j,rfl,rfl,c,rfl⟩:=q7w q4;exact⟨i,j,rep_int.mp q2,rep_int.mp q3,q5 _ F H (.refl q1) (rep_int.mpr rfl)⟩
theorem q72{fv:Value->Value->Sem Value}{z:Int->Int->Bool}(h:OpR X fv (rI0 fun i j=>.bl (z i j))): OpR X fv (rD X.K (oB z)):=
 q0i h fun x y H Q ⟨F,d1,d2,d,q1,q2,q3,q4,q5⟩=>by
  obtain⟨i,j,rfl,rfl,rfl⟩:=qk7 q4;exact⟨i,j,rep_int.mp q2,rep_int.mp q3,q5 _ F H (.refl q1) (rep_bl.mpr rfl)⟩
abbrev oAdd:=oI (fun _ _=>true) fun i j=>i+j
abbrev oSub:=oI (fun _ _=>true) fun i j=>i-j
abbrev oMul:=oI (fun i j=>(decide (-(2 ^ 64)<i)&&decide (i<2 ^ 64)) || (decide (-(2 ^ 64)<j)&&decide (j<2 ^ 64))) fun i j=>i*j
abbrev oDiv:=oI (fun _ j=>decide (0<j)&&decide (j<1073741824)) fun i j=>i / j
abbrev oMod:=oI (fun _ j=>decide (0<j)) fun i j=>i%j
theorem q3a{p q:Prop}[Decidable p][Decidable q](h:(decide p&&decide q)=true): p/\q:=by simpa using h
theorem qml:OpR X (binaryOp .Add) (rD X.K oAdd):=qfw qm2
theorem q3b:OpR X (binaryOp .Sub) (rD X.K oSub):=qfw qm3
theorem qmm:OpR X (binaryOp .Mult) (rD X.K oMul):=q71 qm4 fun i j h=>by
 rcases p6 _ _ ▸ h with z|z
 ·exact .inl (q3a z)
 ·exact .inr (q3a z)
theorem q1y:OpR X (binaryOp .FloorDiv) (rD X.K oDiv):=q71 qjv fun i j h=>q3a h
theorem j5:OpR X (binaryOp .Mod) (rD X.K oMod):=q71 qm5 fun i j h=>g0j h
abbrev oPow:=oI (fun i j=>decide (0<=j)&&(decide (j<=1000000)&&decide (i.natAbs<2 ^ 64))) fun i j=>i ^ j.toNat
theorem qhx{p q r:Prop}[Decidable p][Decidable q][Decidable r](h:(decide p&&(decide q&&decide r))=true): p/\q/\r:=by simpa using h
theorem qaq:OpR X (binaryOp .Pow) (rD X.K oPow):=q71 qm6 fun i j h=>qhx h
abbrev oLt:=oB fun i j=>decide (i<j)
abbrev oLe:=oB fun i j=>decide (i<=j)
abbrev oGt:=oB fun i j=>decide (j<i)
abbrev oGe:=oB fun i j=>decide (j<=i)
theorem qol:OpR X (compareOp .Lt) (rD X.K oLt):=q72 qo9
theorem qjd:OpR X (compareOp .LtE) (rD X.K oLe):=q72 qoa
theorem q5h:OpR X (compareOp .Gt) (rD X.K oGt):=q72 qob
theorem qje:OpR X (compareOp .GtE) (rD X.K oGe):=q72 qoc
def flD:D->Option V
 | .non=>some .non
 | .bl b=>some (.bl b)
 | .int i=>some (.int i)
 | .str x=>some (.str x)
 | _=>none
theorem q5i{K:Frag}{H:Hp}{d:D}{v u:V}(h:flD d=some u)(r:Rep K H d v): v=u:=by
 cases d <;> simp only [flD] at h <;> first|(cases h;done)|skip
 ·cases h;exact rep_non.mp r
 ·cases h;exact rep_bl.mp r
 ·cases h;exact rep_int.mp r
 ·cases h;exact rep_str.mp r
def qhy:D->D->Option D:=fun d e=>(flD d).bind fun x=>(flD e).bind fun y=>if q7s x y then some (.bl (decide (x=y))) else none
def qar:D->D->Option D:=fun d e=>(flD d).bind fun x=>(flD e).bind fun y=>if q7s x y then some (.bl (!decide (x=y))) else none
theorem qmn:OpR X (compareOp .Eq) (rD X.K qhy):=q0i qo7 fun x y H Q ⟨F,d1,d2,d,q1,q2,q3,q4,q5⟩=>by
 obtain⟨u,h1,q4⟩:=g9.mp q4;obtain⟨w,h2,q4⟩:=g9.mp q4;cases q5i h1 q2;cases q5i h2 q3
 split at q4
 ·rename_i z
  cases q4;exact⟨z,q5 _ F H (.refl q1) (rep_bl.mpr rfl)⟩
 ·cases q4
theorem qfx:OpR X (compareOp .NotEq) (rD X.K qar):=q0i qo8 fun x y H Q ⟨F,d1,d2,d,q1,q2,q3,q4,q5⟩=>by
 obtain⟨u,h1,q4⟩:=g9.mp q4;obtain⟨w,h2,q4⟩:=g9.mp q4;cases q5i h1 q2;cases q5i h2 q3
 split at q4
 ·rename_i z
  cases q4;exact⟨z,q5 _ F H (.refl q1) (rep_bl.mpr rfl)⟩
 ·cases q4
theorem q3c{op:CmpOp}{o:D->D->Option D}(ho:OpR X (compareOp op) (rD X.K o))(ha:PE X a (tD X.K f))(hb:PE X b (tD X.K g))(hm:behindInMarks op b=false:=by first|exact q6b _ (by decide) (by decide)|rfl):
  PE X (.Compare a [op] [b] pos) (tD X.K (eOp o f g)):=zc (qjw ho ha hb hm) fun σ H Q h=>two h
def q6d:D->Option Bool
 | .non=>some false
 | .bl b=>some b
 | .int i=>some (i != 0)
 | .tup ds=>some (!ds.isEmpty)
 | .lst ds=>some (!ds.isEmpty)
 | .str x=>if x.length<=lim then some ((x.length:Int) != 0) else none
 | _=>none
def bT(f:FE): FT:=fun ρ =>(f ρ).bind q6d
theorem qfy{K:Frag}{F H:Hp}{d:D}{b:Bool}{v:V}(h:q6d d=some b)(fh:Same F H)(r:Rep K F d v): qhg K v H b:=by
 cases d with
 | non=>cases h;rw [rep_non.mp r];rfl
 | bl c=>cases h;rw [rep_bl.mp r];rfl
 | int i=>cases h;rw [rep_int.mp r];rfl
 | str x=>
  simp only [q6d] at h
  split at h
  ·rename_i z
   cases h;rw [rep_str.mp r];exact⟨yp z,rfl⟩
  ·cases h
 | tup ds=>
  cases h;obtain⟨p,xs,rfl,q1,q2⟩:=rep_tup.mp r;refine .inr (.inl ⟨xs,qx fh q1,?_⟩);cases ds with
  | nil=>rw [q2.nil_inv];rfl
  | cons d ds=>obtain⟨y,r',rfl,_⟩:=q2.cons_inv;rfl
 | lst ds=>
  cases h;obtain⟨p,xs,rfl,q1,q2⟩:=rep_lst.mp r;refine .inl ⟨xs,fh.seq q1,?_⟩;cases ds with
  | nil=>rw [q2.nil_inv];rfl
  | cons d ds=>obtain⟨y,r',rfl,_⟩:=q2.cons_inv;rfl
 | dct _ _=>cases h
 | dtt _ _=>cases h
 | obj _=>cases h
 | exc _ _=>cases h
theorem xk(ha:PE X a (tD X.K f))(he:∀whole,isTrue a X.env whole=(do let v <- whole;standAt a.pos;holding [v] (truthy v)):=by intro _;rfl): PT X a (tDT X.K (bT f)):=
 q38 (qaj ha he) fun σ H Q ⟨F0,H0,F, ρ,b,r,hf,q⟩=>by
  obtain⟨d,h1,h2⟩:=g9.mp hf;exact⟨F0,H0,F, ρ,d,r,h1,fun v F' H' g' r'=>⟨b,qfy h2 g'.fh r',q F' H' g'⟩⟩
def isB:D->Option Bool
 | .bl b=>some b
 | _=>none
def z0(o:D->D->Option D)(f g:FE): FT:=fun ρ =>(eOp o f g ρ).bind isB
theorem zi{op:CmpOp}{o:D->D->Option D}(ho:OpR X (compareOp op) (rD X.K o))(ha:PE X a (tD X.K f))(hb:PE X b (tD X.K g))(hm:behindInMarks op b=false:=by first|exact q6b _ (by decide) (by decide)|rfl):
  PT X (.Compare a [op] [b] pos) (tDT X.K (z0 o f g)):=q38 (qd9 ho ha hb hm) fun σ H Q ⟨F0,H0,F, ρ,c,r,hf,q⟩=>by
 obtain⟨d,h1,h2⟩:=g9.mp hf;refine two ⟨F0,H0,F, ρ,d,r,h1,fun v F' H' g' r'=>?_⟩;cases d <;> simp only [isB] at h2 <;> first|(cases h2;done)|skip
 cases h2;exact⟨_,rep_bl.mp r',q F' H' g'⟩
def yq(t:FT): FT:=fun ρ =>(t ρ).map not
def q1z(t u:FT): FT:=fun ρ =>(t ρ).bind fun c=>if c then u ρ else some false
def bOr(t u:FT): FT:=fun ρ =>(t ρ).bind fun c=>if c then some true else u ρ
variable{t u:FT}{rest:List Expr}
theorem yr(ha:PT X a (tDT X.K t)): PT X (.UnaryOp .Not a pos) (tDT X.K (yq t)):=q38 (qfc ha) fun σ H Q ⟨F0,H0,F, ρ,c,r,hf,q⟩=>by
 obtain⟨d,h1,h2⟩:=gj.mp hf;subst h2;exact⟨F0,H0,F, ρ,d,r,h1,fun F' H' g'=>q F' H' g'⟩
theorem qfz{t t':TT}(h:PW X a t)(i:∀ σ H Q,t' σ H Q->t σ H Q): PW X a t':=fun wh pins s σ H Q I q=>h wh pins s σ H Q I (i σ H Q q)
theorem qdf(ha:PT X a (tDT X.K t)): PW X (.BoolOp .And [a] pos) (tDT X.K t):=qjr ha
theorem q4j(ha:PT X a (tDT X.K t)): PW X (.BoolOp .Or [a] pos) (tDT X.K t):=qlp ha
theorem qas(ha:PT X a (tDT X.K t))(hb:PW X (.BoolOp .And (b :: rest) pos) (tDT X.K u)): PW X (.BoolOp .And (a :: b :: rest) pos) (tDT X.K (q1z t u)):=qfz (qlq ha hb) fun σ H Q ⟨F0,H0,F, ρ,c,r,hf,q⟩=>by
 obtain⟨d,h1,h2⟩:=g9.mp hf;refine⟨F0,H0,F, ρ,d,r,h1,fun F' H' g'=>?_⟩;cases d with
 | true=>rw [gw rfl] at h2 ⊢;exact⟨F0,H0,F', ρ,c,r.grow g',h2,fun F2 H2 g2=>q F2 H2 (g'.trans g2)⟩
 | false=>rw [m4 gq] at h2 ⊢;cases h2;exact q F' H' g'
theorem q5j(ha:PT X a (tDT X.K t))(hb:PW X (.BoolOp .Or (b :: rest) pos) (tDT X.K u)): PW X (.BoolOp .Or (a :: b :: rest) pos) (tDT X.K (bOr t u)):=qfz (qo0 ha hb) fun σ H Q ⟨F0,H0,F, ρ,c,r,hf,q⟩=>by
 obtain⟨d,h1,h2⟩:=g9.mp hf;refine⟨F0,H0,F, ρ,d,r,h1,fun F' H' g'=>?_⟩;cases d with
 | false=>rw [m4 gq] at h2 ⊢;exact⟨F0,H0,F', ρ,c,r.grow g',h2,fun F2 H2 g2=>q F2 H2 (g'.trans g2)⟩
 | true=>rw [gw rfl] at h2 ⊢;cases h2;exact q F' H' g'
def q05(f g:FE): FE:=fun ρ =>(f ρ).bind fun x=>(isB x).bind fun c=>if c then g ρ else some (.bl false)
def eOr(f g:FE): FE:=fun ρ =>(f ρ).bind fun x=>(isB x).bind fun c=>if c then some (.bl true) else g ρ
def q7x(f:FE): FE:=fun ρ =>(f ρ).bind fun x=>(isB x).map fun c=>.bl (!c)
def eIf(t:FT)(f g:FE): FE:=fun ρ =>(t ρ).bind fun c=>if c then f ρ else g ρ
theorem q6e{d:D}{c:Bool}(h:isB d=some c): d=.bl c:=by
 cases d <;> simp only [isB] at h <;> first|(cases h;done)|skip
 rw [mn h]
theorem q4k{op}(h:PE X a (tD X.K f)): PE X (.BoolOp op [a] pos) (tD X.K f):=qlr h
theorem q20(ha:PE X a (tD X.K f))(hb:PE X (.BoolOp .And (b :: rest) pos) (tD X.K g)): PE X (.BoolOp .And (a :: b :: rest) pos) (tD X.K (q05 f g)):=zc (qls ha hb) fun σ H Q ⟨F0,H0,F, ρ,d,r,hf,q⟩=>by
 obtain⟨x,h1,hf⟩:=g9.mp hf;obtain⟨c,h2,h3⟩:=g9.mp hf;refine⟨F0,H0,F, ρ,x,r,h1,fun v F' H' g' r'=>?_⟩;rw [q6e h2] at r';refine⟨c,rep_bl.mp r',?_⟩;cases c with
 | true=>rw [gw rfl] at h3 ⊢;exact⟨F0,H0,F', ρ,d,r.grow g',h3,fun w F2 H2 g2 r2=>q w F2 H2 (g'.trans g2) r2⟩
 | false=>rw [m4 gq] at h3 ⊢;cases h3;exact q _ F' H' g' (rep_bl.mpr rfl)
theorem qg0(ha:PE X a (tD X.K f)): PE X (.UnaryOp .Not a pos) (tD X.K (q7x f)):=zc (qlt ha) fun σ H Q ⟨F0,H0,F, ρ,d,r,hf,q⟩=>by
 obtain⟨x,h1,hf⟩:=g9.mp hf;obtain⟨c,h2,h3⟩:=gj.mp hf;subst h3;refine⟨F0,H0,F, ρ,x,r,h1,fun v F' H' g' r'=>?_⟩;rw [q6e h2] at r';exact⟨c,rep_bl.mp r',q _ F' H' g' (rep_bl.mpr rfl)⟩
theorem qjf{c:Expr}(hc:PT X c (tDT X.K t))(ha:PE X a (tD X.K f))(hb:PE X b (tD X.K g)): PE X (.IfExp c a b pos) (tD X.K (eIf t f g)):=zc (qhb hc ha hb) fun σ H Q ⟨F0,H0,F, ρ,d,r,hf,q⟩=>by
 obtain⟨x,h1,h2⟩:=g9.mp hf;refine⟨F0,H0,F, ρ,x,r,h1,fun F' H' g'=>?_⟩;cases x with
 | true=>rw [gw rfl] at h2 ⊢;exact⟨F0,H0,F', ρ,d,r.grow g',h2,fun w F2 H2 g2 r2=>q w F2 H2 (g'.trans g2) r2⟩
 | false=>rw [m4 gq] at h2 ⊢;exact⟨F0,H0,F', ρ,d,r.grow g',h2,fun w F2 H2 g2 r2=>q w F2 H2 (g'.trans g2) r2⟩
end
section
variable{X:Cx}{e:Expr}{es:List Expr}{pos:Pos}{f g:FE}{fa:FA}
def notStar:Expr->Bool
 | .Starred _ _=>false
 | _=>true
theorem q7y{e:Expr}{es:List Expr}{env:Env}(h:notStar e=true): starEach (e :: es) env=(false,eval e env) :: starEach es env:=by
 cases e <;> first|rfl|cases h
def qh:FA:=fun _=>some []
def qb(f:FE)(fa:FA): FA:=fun ρ =>(f ρ).bind fun d=>(fa ρ).map fun ds=>d :: ds
theorem qg:PA X [] (tDA X.K qh):=q70 kx fun σ H Q ⟨F0,H0,F, ρ,ds,r,hf,q⟩=>by
 cases hf;exact q [] F H (.refl r.fh) .nil
theorem qk8(ha:PE X e (tD X.K f))(hr:PA X es (tDA X.K fa))(hs:starEach (e :: es) X.env=(false,eval e X.env) :: starEach es X.env:=by first|exact q7y rfl|rfl): PA X (e :: es) (tDA X.K (qb f fa)):=
 q70 (zw ha hr hs) fun σ H Q ⟨F0,H0,F, ρ,ds,r,hf,q⟩=>by
  obtain⟨d,h1,hf⟩:=g9.mp hf;obtain⟨ds',h2,h3⟩:=gj.mp hf;subst h3;refine⟨F0,H0,F, ρ,d,r,h1,fun v F1 H1 g1 r1=>⟨F0,H0,F1, ρ,ds',r.grow g1,h2,fun vs F2 H2 g2 r2=>?_⟩⟩;exact q _ F2 H2 (g1.trans g2) (.cons (r1.mono g2.ff) r2)
def vc(fa:FA): FE:=fun ρ =>(fa ρ).bind fun ds=>if ds.length<=lim then some (.tup ds) else none
def wo(fa:FA): FA:=fun ρ =>(fa ρ).bind fun ds=>if ds.length<=lim then some ds else none
theorem xw{x1}(h:PA X es (tDA X.K fa)): PE X (.Tuple es x1 pos) (tD X.K (vc fa)):=zc (qfl h) fun σ H Q ⟨F0,H0,F, ρ,d,r,hf,q⟩=>by
 obtain⟨ds,h1,h2⟩:=g9.mp hf
 split at h2
 ·rename_i hl
  cases h2;refine⟨F0,H0,F, ρ,ds,r,h1,fun vs F1 H1 g1 r1=>⟨yp (by rw [<- r1.length];exact hl),fun p hp=>?_⟩⟩;have gn:Grow F1 H1 (upd F1 p (.tup vs)) (upd H1 p (.tup vs)):=Grow.new g1.fh hp;exact q _ _ _ (g1.trans gn) (rep_tup.mpr ⟨p,vs,rfl,SqT.of qv,r1.mono gn.ff⟩)
 ·cases h2
theorem q0z(h:PA X es (tDA X.K fa)): PE X (.List es pos) (tL X.K (wo fa)):=zc (qma h) fun σ H Q ⟨F0,H0,F, ρ,ds,r,hf,q⟩=>by
 obtain⟨ds',h1,h2⟩:=g9.mp hf
 split at h2
 ·rename_i hl
  cases h2;refine⟨F0,H0,F, ρ,ds,r,h1,fun vs F1 H1 g1 r1=>⟨yp (by rw [<- r1.length];exact hl),fun p hp=>?_⟩⟩;exact q p vs F1 (upd H1 p (.lst vs)) (g1.trans (Grow.own g1.fh hp)) (g1.fh.free hp) (g1.hh.free hp) qv r1
 ·cases h2
def eL(fa:FA): FE:=fun ρ =>(fa ρ).map .lst
theorem q06(h:PE X e (tL X.K fa)): PE X e (tD X.K (eL fa)):=zc h fun σ H Q ⟨F0,H0,F, ρ,d,r,hf,q⟩=>by
 obtain⟨ds,h1,h2⟩:=gj.mp hf;subst h2;refine⟨F0,H0,F, ρ,ds,r,h1,fun a xs F1 H1 g1 fa' ha' hl r1=>?_⟩;have sF:Same F1 (upd F1 a (.lst xs)):=wm fa';refine q _ (upd F1 a (.lst xs)) H1 ⟨g1.ff.trans sF,g1.hh,fun b o z=>?_,fun b hb=>?_⟩ (rep_lst.mpr ⟨a,xs,rfl,SqL.of qv,r1.mono sF⟩)
 ·by_cases q':b=a
  ·subst q';rw [qv] at z;cases z;exact hl
  ·rw [qo q'] at z;exact g1.fh b o z
 ·by_cases q':b=a
  ·subst q';exact .inr ha'
  ·rw [qo q'] at hb;exact g1.nw b hb
def rC(K:Frag)(op:List D->Option D): List V->Hp->VK->Prop:=fun xs H Q=>∃F ds d,Same F H/\RepL K F ds xs/\op ds=some d/\∀v F' H',Grow F H F' H'->Rep K F' d v->Q v H'
def qj(op:List D->Option D)(fa:FA): FE:=fun ρ =>(fa ρ).bind op
theorem q2o{f:Value}{r r':List V->Hp->VK->Prop}(h:jw X f r)(i:∀xs H Q,r' xs H Q->r xs H Q): jw X f r':=fun pins s σ H xs us Q I rv q=>h pins s σ H xs us Q I rv (i xs H Q q)
theorem qg1{K:Frag}{op:List D->Option D}{σ : St}{H:Hp}{Q:VK}(h:tD K (qj op fa) σ H Q): tDA K fa σ H fun vs H1=>rC K op vs H1 Q:=by
 obtain⟨F0,H0,F, ρ,d,r,hf,q⟩:=h;obtain⟨ds,h1,h2⟩:=g9.mp hf;exact⟨F0,H0,F, ρ,ds,r,h1,fun vs F1 H1 g1 r1=>⟨F1,ds,d,g1.fh,r1,h2,fun v F2 H2 g2 r2=>q v F2 H2 (g1.trans g2) r2⟩⟩
theorem z8{x:Str}{p:Pos}{id:String}{op:List D->Option D}(hc:jw X (.builtin id) (rC X.K op))(hg:Gl X x)(hm:X.mg x=none)(hv:bootBuiltins x=some (.builtin id))(ha:PA X (e :: es) (tDA X.K fa))
  (hn:x≠"__name__" :=by decide) (hdb:(x==("__debug__" : Str))=false:=by decide)
  (he:starEach (e :: es) X.env=(false,eval e X.env) :: starEach es X.env:=by rfl) (hpl:(backTo pos (starEach es X.env)).any (·.1)=false:=by rfl):PE X (.Call (.Name x p) (e :: es) [] pos) (tD X.K (qj op fa)):=
 zc (q1t hc hg hm hv ha hn hdb he hpl) fun σ H Q h=>qg1 h
theorem q2p{x:Str}{p:Pos}{T:String}{op:List D->Option D}(hc:jw X (.type T) (rC X.K op))(hg:Gl X x)(hm:X.mg x=none)(hv:bootBuiltins x=some (.type T))(ha:PA X (e :: es) (tDA X.K fa))
  (hn:x≠"__name__" :=by decide) (hdb:(x==("__debug__" : Str))=false:=by decide)
  (he:starEach (e :: es) X.env=(false,eval e X.env) :: starEach es X.env:=by rfl) (hpl:(backTo pos (starEach es X.env)).any (·.1)=false:=by rfl):PE X (.Call (.Name x p) (e :: es) [] pos) (tD X.K (qj op fa)):=
 zc (qfn hc hg hm hv ha hn hdb he hpl) fun σ H Q h=>qg1 h
def spD(K:Frag)(ar:Nat)(op:List D->Option D): Sp:=fun vs H Q _=>∃F ds d,SameT F H/\RepL K F ds vs/\ds.length=ar/\op ds=some d/\∀v F' H',Grow F H F' H'->Rep K F' d v->Q v H'
def qt(ar:Nat)(dds:List D)(op:List D->Option D): List D->Option D:=fun ds=>if(ds++dds).length=ar then op (ds++dds) else none
theorem qk9{k ar:Nat}{fn:Addr}{fd:FuncData}{ps:List Str}{op:List D->Option D}{x:Str}{p:Pos}{dvs:List V}{dds:List D}{dv:List Value}(F:FnOk X.prog X.w X.K X.mg X.base CX0 k fn fd ps (spD X.K ar op))(hr:Room k X.A)(hg:Gl X x)(hm:X.mg x=some (.ref fn))(hk:PySem.W.keepIn X.K (.ref fn)=true)
  (hb:Binds X.K fd ps dv) (hd:Vals dvs dv) (hdd:∀H,RepL X.K H dds dvs) (ha:PA X (e :: es) (tDA X.K fa)) (hdb:(x==("__debug__" : Str))=false:=by decide)
  (he:starEach (e :: es) X.env=(false,eval e X.env) :: starEach es X.env:=by rfl) (hpl:(backTo pos (starEach es X.env)).any (·.1)=false:=by rfl) :
  PE X (.Call (.Name x p) (e :: es) [] pos) (tD X.K (qj (qt ar dds op) fa)):=
 zc (q36 F hr hg hm hk hb hd q2n ha hdb he hpl) fun σ H Q ⟨F0,H0,Fz, ρ,d,r,hf,q⟩=>by
  obtain⟨ds,h1,h2⟩:=g9.mp hf;unfold qt at h2
  split at h2
  ·rename_i hl
   exact⟨F0,H0,Fz, ρ,ds,r,h1,fun vs F1 H1 g1 r1=>⟨F1,ds++dds,d,r.sameT g1,r1.append (hdd F1),hl,h2,fun v F2 H2 g2 r2=>q v F2 H2 (g1.trans g2) r2⟩⟩
  ·cases h2
end
section
variable{X:Cx}{st:Stmt}{rest:List Stmt}{e:Expr}{pos:Pos}{f:FE}{fa:FA}{t:FT}{u w:FS}
def zq:FS:=fun ρ =>some (.nx, ρ)
def qu(u w:FS): FS:=fun ρ =>(u ρ).bind fun r=>match r with
 | (.nx, ρ')=>w ρ'
 | (fl, ρ')=>some (fl, ρ')
def sIf(t:FT)(u w:FS): FS:=fun ρ =>(t ρ).bind fun c=>if c then u ρ else w ρ
def zy(i:Nat)(f:FE): FS:=fun ρ =>(f ρ).map fun d=>(.nx, ρ.set i (some (.fz d)))
def q21(i:Nat)(fa:FA): FS:=fun ρ =>(fa ρ).map fun ds=>(.nx, ρ.set i (some (.ow ds)))
def zd(f:FE): FS:=fun ρ =>(f ρ).map fun d=>(.rt d, ρ)
def qom:FS:=fun ρ =>some (.rt .non, ρ)
def qpm:FS:=fun ρ =>some (.bk, ρ)
def qpn:FS:=fun ρ =>some (.ct, ρ)
def qon(f:FE): FS:=fun ρ =>(f ρ).map fun _=>(.nx, ρ)
theorem zf:PSs X [] (tDS X.K zq):=q39 qjs fun D σ H ⟨F0,H0,F, ρ,fl, ρ',r,hf,q⟩=>by
 cases hf;exact q σ F H (.refl _) r
theorem yt{K:Frag}{F0 H0 F F':Hp}{D:Ends}{fl:Fl}{ρ':Rho}(s:Same F F')(h:qa5 K F0 H0 F D fl ρ'): qa5 K F0 H0 F' D fl ρ':=by
 cases fl with
 | nx=>exact fun σ' F2 H2 s2 r=>h σ' F2 H2 (s.trans s2) r
 | bk=>exact fun σ' F2 H2 s2 r=>h σ' F2 H2 (s.trans s2) r
 | ct=>exact fun σ' F2 H2 s2 r=>h σ' F2 H2 (s.trans s2) r
 | rt d=>exact h
theorem qp(h1:PS X st (tDS X.K u))(h2:PSs X rest (tDS X.K w)): PSs X (st :: rest) (tDS X.K (qu u w)):=q39 (qah h1 h2) fun D σ H ⟨F0,H0,F, ρ,fl, ρ',r,hf,q⟩=>by
 obtain⟨⟨fl1, ρ1⟩,h3,h4⟩:=g9.mp hf;refine⟨F0,H0,F, ρ,fl1, ρ1,r,h3,?_⟩;cases fl1 with
 | nx=>exact fun σ' F' H' s r'=>⟨F0,H0,F', ρ1,fl, ρ',r',h4,yt s q⟩
 | bk=>cases h4;exact q
 | ct=>cases h4;exact q
 | rt d=>cases h4;exact q
theorem qq(h1:PS X st (tDS X.K u)): PSs X [st] (tDS X.K u):=q5f h1
theorem j7{c:Expr}{a b:List Stmt}(hc:PT X c (tDT X.K t))(ha:PSs X a (tDS X.K u))(hb:PSs X b (tDS X.K w)): PS X (.If c a b pos) (tDS X.K (sIf t u w)):=jj (qe3 hc ha hb) fun D σ H ⟨F0,H0,F, ρ,fl, ρ',r,hf,q⟩=>by
 obtain⟨c,h1,h2⟩:=g9.mp hf;refine⟨F0,H0,F, ρ,c,r,h1,fun F' H' g'=>?_⟩;cases c with
 | true=>rw [gw rfl] at h2 ⊢;exact⟨F0,H0,F', ρ,fl, ρ',r.grow g',h2,yt g'.ff q⟩
 | false=>rw [m4 gq] at h2 ⊢;exact⟨F0,H0,F', ρ,fl, ρ',r.grow g',h2,yt g'.ff q⟩
theorem qy(he:PE X e (tD X.K f)): PS X (.Return (some e) pos) (tDS X.K (zd f)):=jj (qai he) fun D σ H ⟨F0,H0,F, ρ,fl, ρ',r,hf,q⟩=>by
 obtain⟨d,h1,h2⟩:=gj.mp hf;cases h2;exact⟨F0,H0,F, ρ,d,r,h1,fun v F' H' g' r'=>q v σ F' H' (r.grow g') r'⟩
theorem qoo{K:Frag}{i:Nat}{D:Ends}{σ : St}{H:Hp}(h:tDS K (zy i f) D σ H): tD K f σ H fun x H1=>qa3 i x σ H1 D.nx:=by
 obtain⟨F0,H0,F, ρ,fl, ρ',r,hf,q⟩:=h;obtain⟨d,h1,h2⟩:=gj.mp hf;cases h2;exact⟨F0,H0,F, ρ,d,r,h1,fun v F' H' g' r'=>q _ F' H' g'.ff ((r.grow g').set i r')⟩
theorem qop{K:Frag}{i:Nat}{D:Ends}{σ : St}{H:Hp}(h:tDS K (q21 i fa) D σ H): tL K fa σ H fun x H1=>qa3 i x σ H1 D.nx:=by
 obtain⟨F0,H0,F, ρ,fl, ρ',r,hf,q⟩:=h;obtain⟨ds,h1,h2⟩:=gj.mp hf;cases h2;refine⟨F0,H0,F, ρ,ds,r,h1,fun a xs F' H' g' fa' ha' hl r'=>q _ F' H' g'.ff ((r.grow g').setO i hl fa' (r.g.hh.free ha') r' (fun j es z1 z2=>?_) fun j kvs z1=>?_)⟩
 ·obtain⟨b,ys,e1,e2,_⟩:=r.ow j es z1
  rw [z2] at e1;obtain rfl:a=b:=by simpa using e1
  rw [ha'] at e2;cases e2
 ·obtain⟨b,bs,e1,e2,e3⟩:=r.od j kvs z1
  refine⟨b,bs,e1,e2.grow g',fun z=>?_,e3⟩;obtain⟨xs,f,_⟩:=e2.mem z;rw [ha'] at f;cases f
theorem j0{i:Nat}{x:Str}{px:Pos}(hN:X.N.Nodup)(hi:X.N[i]? = some x)(hx:Loc X.env.scope x)(he:PE X e (tD X.K f))(hs:swapsWith e (some (.Name x px)) pos.line X.env=pure false:=by rfl)(hf:X.fn x=true\/X.env.scope.names.lookup x=some .local:=by first|exact .inl rfl|exact .inr rfl|assumption):
  PS X (.Assign [.Name x px] e pos) (tDS X.K (zy i f)):=jj (q6u hN hi hx he hs hf) fun D σ H h=>qoo h
theorem q4l{i:Nat}{x:Str}{px:Pos}(hN:X.N.Nodup)(hi:X.N[i]? = some x)(hx:Loc X.env.scope x)(he:PE X e (tL X.K fa))(hs:swapsWith e (some (.Name x px)) pos.line X.env=pure false:=by rfl)(hf:X.fn x=true\/X.env.scope.names.lookup x=some .local:=by first|exact .inl rfl|exact .inr rfl|assumption):
  PS X (.Assign [.Name x px] e pos) (tDS X.K (q21 i fa)):=jj (q6u hN hi hx he hs hf) fun D σ H h=>qop h
def q22(i:Nat)(ρ : Rho): Option (List D):=match ρ[i]? with
 | some (some (.ow ds))=>some ds
 | _=>none
theorem q2q{i:Nat}{ρ : Rho}{ds:List D}(h:q22 i ρ = some ds): ρ[i]? = some (some (.ow ds)):=by
 unfold q22 at h
 split at h
 ·rename_i e;rw [e,mn h]
 ·cases h
def q4m(i:Nat)(f:FE): FS:=fun ρ =>(q22 i ρ).bind fun ds=>(f ρ).bind fun d=>if ds.length<lim then some (.nx, ρ.set i (some (.ow (ds++[d])))) else none
theorem q73{i:Nat}{x:Str}{px apos cpos:Pos}(hv:PE X (.Name x px) (yn i))(he:PE X e (tD X.K f))
  (hbase:attributeBase (.Name x px) "append" X.env (eval (.Name x px) X.env)=eval (.Name x px) X.env:=by rfl)
  (hfew:((backTo cpos (starEach [e] X.env)).all (fun x=> !x.1)&&(backToKw cpos (keywordEach [] X.env)).all (fun x=>x.1.isSome)&&decide ([e].length+([]:List Keyword).length+(if([]:List Keyword).isEmpty then 0 else 1)<30))=true:=by rfl)
  (hline:(apos.endLine==cpos.line)=true:=by rfl) (hse:starEach [e] X.env=(false,eval e X.env) :: starEach [] X.env:=by rfl)
  (hs:swapsWith (.Call (.Attribute (.Name x px) "append" apos) [e] [] cpos) none pos.line X.env=pure false:=by rfl):PS X (.Expr (.Call (.Attribute (.Name x px) "append" apos) [e] [] cpos) pos) (tDS X.K (q4m i f)):=
 jj (q7r (qok PySem.F.plainAttrs_list PySem.F.slot_list_append PySem.F.type_list_append q4h hv (zw he kx hse) hbase hfew hline hse rfl) hs) fun D σ H ⟨F0,H0,F, ρ,fl, ρ',r,hf,q⟩=>by
  obtain⟨ds,h1,hf⟩:=g9.mp hf;obtain⟨d,h2,h3⟩:=g9.mp hf;have h1:=q2q h1
  split at h3
  ·rename_i hl
   cases h3;obtain⟨a,xs,e1,e2,e3,e4,e5⟩:=r.ow i ds h1;refine⟨.ref a,e1,.inl ⟨rfl,xs,SqL.of e2⟩,F0,H0,F, ρ,d,r,h2,fun v F' H' g' r'=>?_⟩;have r2:=r.grow g';refine⟨a,xs,v,rfl,rfl,g'.hh.lst _ _ e2,q8x (by rw [<- e5.length];exact hl),?_⟩;exact q _ F' _ g'.ff (r2.wrt h1 e1 ((e5.mono g'.ff).append (.cons r' .nil)))
  ·cases h3
def frz(i:Nat)(ρ : Rho): Rho:=match ρ[i]? with
 | some (some (.ow ds))=> ρ.set i (some (.fz (.lst ds)))
 | _=> ρ
def q2x(i:Nat)(u:FS): FS:=fun ρ =>u (frz i ρ)
theorem qg2{K:Frag}{F0 H0 F H:Hp}{σ : St}{ρ : Rho}(i:Nat)(r:RS K F0 H0 F H σ ρ): ∃F',Same F F'/\RS K F0 H0 F' H σ (frz i ρ):=by
 unfold frz
 split
 ·rename_i ds h
  exact r.freeze h
 ·exact⟨F,.refl _,r⟩
theorem qat(i:Nat){sts:List Stmt}(h:PSs X sts (tDS X.K u)): PSs X sts (tDS X.K (q2x i u)):=q39 h fun D σ H ⟨F0,H0,F, ρ,fl, ρ',r,hf,q⟩=>by
 obtain⟨F',s',r'⟩:=qg2 i r;exact⟨F0,H0,F',frz i ρ,fl, ρ',r',hf,yt s' q⟩
end
def zx(n:Nat)(u:FS)(ds:List D): Option D:=match u (ds.map (fun d=>some (.fz d))++List.replicate (n-ds.length) none) with
 | some (.rt d,_)=>some d
 | some (.nx,_)=>some .non
 | _=>none
theorem q8y{N:List Str}{vs:List V}{i:Nat}{v:V}(h:vs[i]? = some v): (L2.start N vs)[i]? = some (some v):=by
 unfold L2.start;have hi:i<vs.length:=(mr.mp h).1;rw [mv (by simpa using hi),m9,h];rfl
theorem qmo{P:Program}{w:World}{K:Frag}{H:Hp}{vs:List V}{Q:VK}{N:List Str}{u:FS}{ar:Nat}{E:XK}(hl:ar<=N.length)(h:spD K ar (zx N.length u) vs H Q E): tDS K u {nx:=fun _ H'=>Q .non H',rt:=Q} (L2.start N vs) H:=by
 obtain⟨F,ds,d,fh,rl,el,hd,q⟩:=h;have hlen:=rl.length;have r:RS K F H F H (L2.start N vs) (ds.map (fun d=>some (.fz d))++List.replicate (N.length-ds.length) none):={
  t0:=⟨fh.t,fh.f⟩
  g:=.refl fh.s
  len:=by unfold L2.start;simp only [mq,gx,uw];omega
  fz :=fun i e h1=>by
   by_cases hi:i<ds.length
   ·rw [mv (by simpa using hi),m9] at h1
    cases z:ds[i]? with
    | none=>rw [z] at h1;cases h1
    | some d'=>
     rw [z] at h1;cases h1;obtain⟨v,e1,e2⟩:=rl.get z;exact⟨v,q8y e1,e2⟩
   ·rw [n9 (by simpa using hi),nh] at h1
    split at h1 <;> cases h1
  ow:=fun i es h1=>by
   by_cases hi:i<ds.length
   ·rw [mv (by simpa using hi),m9] at h1
    cases z:ds[i]? with
    | none=>rw [z] at h1;cases h1
    | some d'=>rw [z] at h1;cases h1
   ·rw [n9 (by simpa using hi),nh] at h1
    split at h1 <;> cases h1
  dj:=fun i j us es a _ h1=>by
   by_cases hi:i<ds.length
   ·rw [mv (by simpa using hi),m9] at h1
    cases z:ds[i]? with
    | none=>rw [z] at h1;cases h1
    | some d'=>rw [z] at h1;cases h1
   ·rw [n9 (by simpa using hi),nh] at h1
    split at h1 <;> cases h1
  od:=fun i kvs h1=>by
   by_cases hi:i<ds.length
   ·rw [mv (by simpa using hi),m9] at h1
    cases z:ds[i]? with
    | none=>rw [z] at h1;cases h1
    | some d'=>rw [z] at h1;cases h1
   ·rw [n9 (by simpa using hi),nh] at h1
    split at h1 <;> cases h1
  o1:=fun i j k1 k2 h1=>by
   by_cases hi:i<ds.length
   ·rw [mv (by simpa using hi),m9] at h1
    cases z:ds[i]? with
    | none=>rw [z] at h1;cases h1
    | some d'=>rw [z] at h1;cases h1
   ·rw [n9 (by simpa using hi),nh] at h1
    split at h1 <;> cases h1}
 unfold zx at hd;cases z:u (ds.map (fun d=>some (.fz d))++List.replicate (N.length-ds.length) none) with
 | none=>rw [z] at hd;cases hd
 | some p=>
  obtain⟨fl, ρ'⟩:=p;rw [z] at hd;refine⟨F,H,F,_,fl, ρ',r,z,?_⟩;cases fl with
  | nx=>cases hd;exact fun σ' F' H' s' r'=>q .non F' H' r'.g (rep_non.mpr rfl)
  | bk=>cases hd
  | ct=>cases hd
  | rt d'=>cases hd;exact fun v σ' F' H' g' r'=>q v F' H' g'.g r'
theorem qoq{P:Program}{w:World}{K:Frag}{mg:Str->Option Value}{base:Heap}{k:Nat}{f:Addr}{name qual:Str}{params:Arguments}{body:List Stmt}{scope:Scope}{dV kV doc pm cdv ct oc:Value}{an od:Option Addr}
  {osl:Array (Option Value)} {N ps:List Str} {u:FS} (lk:K.lookup f=some ⟨oc,od,.func (PySem.W.fnOf name qual params body scope dV kV doc pm an cdv ct),osl⟩) (hcd:PySem.W.codeIn K cdv qual=true) (S:FnScope N ps scope)
  (hb:∀(A:Around) (outer:List Env) (s:Shared) (H:Hp) (E:XK),Room k (A.deeper (envOfC qual scope s.heap.objs.size f cdv))->PSs (z7 CX0 P w K mg base N qual scope f cdv A outer s H E).nox body (tDS K u)) :
  FnOk P w K mg base CX0 (k+1) f (PySem.W.fnOf name qual params body scope dV kV doc pm an cdv ct) ps (spD K ps.length (zx N.length u)):=by
 have hpl:ps.length<=N.length:=by have:=p8 List.length S.pre;rw [p9] at this;omega
 refine q6w lk hcd S (fun vs H Q E h=>?_) fun A outer s H vs Q E hr hsp=>⟨_,(hb A outer s H E hr).nox,qmo (P:=P) (w:=w) hpl hsp⟩
 obtain⟨F,ds,d,_,rl,el,_⟩:=h;rw [<- rl.length];exact el
structure ItD(K:Frag)(F:Hp)(ds:List D)(J:It): Prop where
 go:∀(i:Nat) (F' H:Hp),Same F F'->Same F' H->i<ds.length->J.go i H
 yld:∀(i:Nat) (d:D) (F' H:Hp) (x:V) (H':Hp),Same F F'->Same F' H->ds[i]? = some d->J.yld i H x H'->∃F'',Grow F' H F'' H'/\Rep K F'' d x
 stop:∀(i:Nat) (F' H:Hp),Same F F'->Same F' H->ds.length<=i->J.stop i H
def tDI(K:Frag)(f:FA): TI:=fun σ H R=>∃F0 H0 F ρ ds,RS K F0 H0 F H σ ρ /\ f ρ = some ds/\∀J F' H',Grow F H F' H'->ItD K F' ds J->R J H'
abbrev FB:=D->Rho->Option Rho
abbrev FBs:=List D->Rho->Option Rho
def tDG(K:Frag)(b:FB): TG:=fun v σ H Q=>∃F0 H0 F ρ d ρ',RS K F0 H0 F H σ ρ /\ Rep K F d v/\b d ρ = some ρ'/\∀ σ',RS K F0 H0 F H σ' ρ'->Q σ' H
def qau(K:Frag)(b:FBs): TGs:=fun vs σ H Q=>∃F0 H0 F ρ ds ρ',RS K F0 H0 F H σ ρ /\ RepL K F ds vs/\b ds ρ = some ρ'/\∀ σ',RS K F0 H0 F H σ' ρ'->Q σ' H
section
variable{X:Cx}{tg e:Expr}{es:List Expr}{pos:Pos}
theorem qav{t t':TI}(h:PI X tg e t)(i:∀ σ H R,t' σ H R->t σ H R): PI X tg e t':=fun pins s σ H R I q=>h pins s σ H R I (i σ H R q)
theorem qaw{t t':TG}(h:PG X e t)(i:∀v σ H Q,t' v σ H Q->t v σ H Q): PG X e t':=fun pins s σ H v u Q I r q=>h pins s σ H v u Q I r (i v σ H Q q)
theorem qdg{t t':TGs}(h:PGs X es t)(i:∀v σ H Q,t' v σ H Q->t v σ H Q): PGs X es t':=fun pins s σ H v u Q I r q=>h pins s σ H v u Q I r (i v σ H Q q)
def bN(i:Nat): FB:=fun d ρ =>some (ρ.set i (some (.fz d)))
def jx:FBs:=fun ds ρ =>if ds.isEmpty then some ρ else none
def z6(b:FB)(bs:FBs): FBs:=fun ds ρ =>match ds with
 | d :: r=>(b d ρ).bind fun ρ'=>bs r ρ'
 | []=>none
def xl(n:Nat)(bs:FBs): FB:=fun d ρ =>match d with
 | .tup ds=>if ds.length=n then bs ds ρ else none
 | _=>none
theorem zh{i:Nat}{x:Str}(hN:X.N.Nodup)(hi:X.N[i]? = some x)(hx:Loc X.env.scope x)(hf:X.fn x=true\/X.env.scope.names.lookup x=some .local:=by first|exact .inl rfl|exact .inr rfl|assumption): PG X (.Name x pos) (tDG X.K (bN i)):=
 qaw (qjt hN hi hx hf) fun v σ H Q ⟨F0,H0,F, ρ,d, ρ',r,hr,hb,q⟩=>by
  cases hb;exact q _ (r.set i hr)
theorem q10:PGs X [] (qau X.K jx):=qdg qju fun vs σ H Q ⟨F0,H0,F, ρ,ds, ρ',r,hr,hb,q⟩=>by
 unfold jx at hb
 split at hb
 ·rename_i z
  cases hb;have z':ds=[]:=by simpa using z
  subst z';exact⟨hr.nil_inv,q σ r⟩
 ·cases hb
theorem jc{b:FB}{bs:FBs}(h1:PG X e (tDG X.K b))(h2:PGs X es (qau X.K bs))(hs:(assignEach (e :: es) X.env).map (·.2)=assign e X.env :: (assignEach es X.env).map (·.2):=by rfl): PGs X (e :: es) (qau X.K (z6 b bs)):=
 qdg (qhc h1 h2 hs) fun vs σ H Q ⟨F0,H0,F, ρ,ds, ρ',r,hr,hb,q⟩=>by
  cases ds with
  | nil=>cases hb
  | cons d ds=>
   obtain⟨v,vr,rfl,h3,h4⟩:=hr.cons_inv;obtain⟨ρ1,h5,h6⟩:=g9.mp hb;exact⟨v,vr,rfl,F0,H0,F, ρ,d, ρ1,r,h3,h5,fun σ' r'=>⟨F0,H0,F, ρ1,ds, ρ',r',h4,h6,q⟩⟩
theorem q23{k n:Nat}{bs:FBs}(hc:X.calm=true)(h:PGs X es (qau X.K bs))(hn:(assignEach es X.env).length=n:=by rfl)(hst:(assignEach es X.env).findIdx? (·.1)=none:=by rfl): PG X (.Tuple es k pos) (tDG X.K (xl n bs)):=
 qaw (qlu hc h hn hst) fun v σ H Q ⟨F0,H0,F, ρ,d, ρ',r,hr,hb,q⟩=>by
  cases d <;> simp only [xl] at hb <;> first|(cases hb;done)|skip
  rename_i ds
  split at hb
  ·rename_i hl
   obtain⟨a,xs,rfl,h1,h2⟩:=rep_tup.mp hr;exact⟨a,xs,rfl,qx r.fh h1,by rw [<- h2.length];exact hl,F0,H0,F, ρ,ds, ρ',r,h2,hb,q⟩
  ·cases hb
def q74(f:FE)(b:FB): FS:=fun ρ =>(f ρ).bind fun d=>(b d ρ).map fun ρ'=>(.nx, ρ')
theorem qka{f:FE}{b:FB}{ts:Expr}(he:PE X e (tD X.K f))(hg:PG X ts (tDG X.K b))(hs:swapsWithSole [ts] e pos.line X.env=pure false:=by rfl)(hw:swappedStores [ts] e X.env=pure none:=by rfl)
  (h1:(assignEach [ts] X.env).map (·.2)=[assign ts X.env]:=by rfl):PS X (.Assign [ts] e pos) (tDS X.K (q74 f b)):=jj (qlw he hg hs hw h1) fun D σ H ⟨F0,H0,F, ρ,fl, ρ',r,hf,q⟩=>by
 obtain⟨d,h2,h3⟩:=g9.mp hf;obtain⟨ρ1,h4,h5⟩:=gj.mp h3;cases h5;exact⟨F0,H0,F, ρ,d,r,h2,fun v F' H' g' r'=>⟨F0,H0,F', ρ,d, ρ',r.grow g',r',h4,fun σ' r2=>q σ' F' H' g'.ff r2⟩⟩
theorem qhz{K:Frag}{F:Hp}{a:Addr}{xs:List V}{ds:List D}(h:SqL K F a xs)(hd:RepL K F ds xs): ItD K F ds (Itl K a) where
 go:=fun i F' H s1 s2 hi=>⟨xs,xs[i]'(by rw [<- hd.length];exact hi),(s1.trans s2).seq h,by simp⟩
 yld:=fun i d F' H x H' s1 s2 hi ⟨e,y⟩=>by
  subst e;obtain⟨z,h1,h2⟩:=hd.get hi;have:=y xs ((s1.trans s2).seq h);rw [h1] at this;cases this;exact⟨F',.refl s2,h2.mono s1⟩
 stop:=fun i F' H s1 s2 hi=>⟨xs,(s1.trans s2).seq h,by rw [<- hd.length];exact hi⟩
theorem qkb{K:Frag}{F:Hp}{a:Addr}{xs:List V}{ds:List D}(h:SqT K F a xs)(hd:RepL K F ds xs): ItD K F ds (Itt K a) where
 go:=fun i F' H s1 s2 hi=>⟨xs,xs[i]'(by rw [<- hd.length];exact hi),qx (s1.trans s2) h,by simp⟩
 yld:=fun i d F' H x H' s1 s2 hi ⟨e,y⟩=>by
  subst e;obtain⟨z,h1,h2⟩:=hd.get hi;have:=y xs (qx (s1.trans s2) h);rw [h1] at this;cases this;exact⟨F',.refl s2,h2.mono s1⟩
 stop:=fun i F' H s1 s2 hi=>⟨xs,qx (s1.trans s2) h,by rw [<- hd.length];exact hi⟩
def ju(lo:Int)(n:Nat): List D:=(List.range n).map fun i:Nat=>.int (lo+i)
theorem qg3{K:Frag}{F:Hp}(lo:Int)(n:Nat): ItD K F (ju lo n) (Itr lo n) where
 go:=fun i F' H s1 s2 hi=>by show i<n;simpa [ju] using hi
 yld:=fun i d F' H x H' s1 s2 hi ⟨e,y⟩=>by
  subst e y;simp only [ju,m9] at hi;cases q:(List.range n)[i]? with
  | none=>rw [q] at hi;cases hi
  | some j=>
   rw [q] at hi;cases hi;have:j=i:=by
    have h2:=mr.mp q;obtain⟨h3,h4⟩:=h2;rw [List.getElem_range] at h4;exact h4.symm
   subst this;exact⟨F',.refl s2,rep_int.mpr rfl⟩
 stop:=fun i F' H s1 s2 hi=>by show n<=i;simpa [ju] using hi
def q24:D->Option (List D)
 | .tup ds=>some ds
 | .lst ds=>some ds
 | _=>none
def yu(f:FE): FA:=fun ρ =>(f ρ).bind q24
theorem qor{l:Expr}{tl:TE}(hl:PE X l tl): PI X tg l (fun σ H R=>tl σ H fun x H1=>(∃a,x=.ref a/\(∃xs,SqL X.K H1 a xs)/\R (Itl X.K a) H1)\/(∃a,x=.ref a/\(∃xs,SqT X.K H1 a xs)/\R (Itt X.K a) H1)):=by
 intro pins s σ H R I h;refine thn (hl pins s σ H _ I h) fun v s1 ⟨x,H1,I1,r1,q1⟩=>?_;rcases q1 with⟨a,e,⟨xs,hq⟩,q⟩|⟨a,e,⟨xs,hq⟩,q⟩
 ·subst e
  cases r1;obtain⟨its,rv,p,hz⟩:=I1.list hq;refine g0k p.isList ?_;refine⟨s1.heap.objs.size,[s1.heap.objs.size],_,_,H1,rfl,I1.kept (t':=s1.toks) fun b o e=>gh _ e,qfd a _,⟨_,m3 _ rfl,rfl,rfl⟩,fun b hb=>?_,q⟩;have e:b=s1.heap.objs.size:=by simpa using hb
  subst e;exact I1.fpOk (gv _) (I1.hok.fresh (gv _))
 ·subst e
  cases r1;obtain⟨its,rv,p,hz⟩:=I1.tuple hq;refine wpAny_pyIter_tuple (show s1.heap.IsTuple a its.toArray from p) ?_;refine⟨s1.heap.objs.size,[s1.heap.objs.size],_,_,H1,rfl,I1.kept (t':=s1.toks) fun b o e=>gh _ e,qe5 a _,⟨_,m3 _ rfl,rfl,rfl⟩,fun b hb=>?_,q⟩;have e:b=s1.heap.objs.size:=by simpa using hb
  subst e;exact I1.fpOk (gv _) (I1.hok.fresh (gv _))
theorem ky{f:FE}(h:PE X e (tD X.K f)): PI X tg e (tDI X.K (yu f)):=qav (qor h) fun σ H R ⟨F0,H0,F, ρ,ds,r,hf,q⟩=>by
 obtain⟨d,h1,h2⟩:=g9.mp hf;refine⟨F0,H0,F, ρ,d,r,h1,fun v F' H' g' r'=>?_⟩;cases d <;> simp only [q24] at h2 <;> first|(cases h2;done)|skip
 ·cases h2
  obtain⟨a,xs,rfl,h3,h4⟩:=rep_tup.mp r';exact .inr ⟨a,rfl,⟨xs,qx g'.fh h3⟩,q _ F' H' g' (qkb h3 h4)⟩
 ·cases h2
  obtain⟨a,xs,rfl,h3,h4⟩:=rep_lst.mp r';exact .inl ⟨a,rfl,⟨xs,g'.fh.seq h3⟩,q _ F' H' g' (qhz h3 h4)⟩
def iR1(fa:FA): FA:=fun ρ =>(fa ρ).bind fun ds=>match ds with
 | [.int j]=>if decide (-(2 ^ 62)<=j)&&decide (j<2 ^ 62) then some (ju 0 j.toNat) else none
 | _=>none
theorem q8z{a:Expr}{fa:FA}{p:Pos}(hg:Gl X "range")(hm:X.mg "range" = none)(ha:PA X [a] (tDA X.K fa))(hs:starEach [a] X.env=[(false,eval a X.env)]:=by rfl): PI X tg (.Call (.Name "range" p) [a] [] pos) (tDI X.K (iR1 fa)):=
 qav (qfe hg hm ha hs) fun σ H R ⟨F0,H0,F, ρ,ds,r,hf,q⟩=>by
  obtain⟨es,h1,h2⟩:=g9.mp hf;refine⟨F0,H0,F, ρ,es,r,h1,fun vs F' H' g' r'=>?_⟩
  split at h2
  ·rename_i j
   split at h2
   ·rename_i z
    cases h2;obtain⟨x,t,rfl,h3,h4⟩:=r'.cons_inv;cases h4.nil_inv;obtain⟨z1,z2⟩:=q3a z;exact⟨j,by rw [rep_int.mp h3],z1,z2,q _ F' H' g' (qg3 0 _)⟩
   ·cases h2
  ·cases h2
def runFor(b:FB)(body:FS): List D->Rho->Option (Fl×Rho)
 | [], ρ =>some (.nx, ρ)
 | d :: ds, ρ =>(b d ρ).bind fun ρ1=>(body ρ1).bind fun r=>match r with
  | (.nx, ρ2)=>runFor b body ds ρ2
  | (.ct, ρ2)=>runFor b body ds ρ2
  | (.bk, ρ2)=>some (.nx, ρ2)
  | (.rt v, ρ2)=>some (.rt v, ρ2)
def q4n(it:FA)(b:FB)(body:FS): FS:=fun ρ =>(it ρ).bind fun ds=>runFor b body ds ρ
theorem q75{iter:Expr}{body:List Stmt}{it:FA}{b:FB}{u:FS}(hp:PassesOwn (model X.prog X.w) X.A X.env X.xe)(hc:X.calm=true)(hi:PI X tg iter (tDI X.K it))(hg:PG X tg (tDG X.K b))(hb:PSs X body (tDS X.K u))
  (hs:∀x,foldedSetIterable iter X.env x=pure x:=by intro _;rfl):PS X (.For tg iter body [] pos) (tDS X.K (q4n it b u)):=jj (qm0 hp hc hi hg hb hs) fun D σ H ⟨F0,H0,F, ρ,fl, ρ',r,hf,q⟩=>by
 obtain⟨ds,h1,h2⟩:=g9.mp hf;refine⟨F0,H0,F, ρ,ds,r,h1,fun J F1 H1 g1 itd=>?_⟩;refine⟨fun i m σ H=>m=ds.length-i/\i<=ds.length/\∃F' ρi,Same F1 F'/\RS X.K F0 H0 F' H σ ρi/\runFor b u (ds.drop i) ρi=some (fl, ρ'),⟨ds.length,by simp,g1f _,F1, ρ,.refl _,r.grow g1,by simpa using h2⟩,?_⟩
 rintro i m σ H ⟨rfl,hi,F', ρi,s1,r1,h3⟩
 by_cases hlt:i<ds.length
 ·have hd:ds.drop i=ds[i] :: ds.drop (i+1):=g0a hlt
  rw [hd] at h3;obtain⟨ρ1,h4,h5⟩:=g9.mp h3;obtain⟨⟨fl1, ρ2⟩,h6,h7⟩:=g9.mp h5;refine .inr ⟨itd.go i F' H s1 r1.fh hlt,fun σ' H'=>∃F',Same F1 F'/\RS X.K F0 H0 F' H' σ' ρ2/\runFor b u (ds.drop (i+1)) ρ2=some (fl, ρ'),fun σ' H' ⟨F',z1,z2,z3⟩=>⟨ds.length-(i+1),by omega,rfl,hlt,F', ρ2,z1,z2,z3⟩,fun x H' y=>?_⟩;obtain⟨F2,g2,r2⟩:=itd.yld i ds[i] F' H x H' s1 r1.fh (by simp [hlt]) y;refine⟨F0,H0,F2, ρi,ds[i], ρ1,r1.grow g2,r2,h4,fun σ' r3=>⟨F0,H0,F2, ρ1,fl1, ρ2,r3,h6,?_⟩⟩;cases fl1 with
  | nx=>exact fun σ2 F3 H3 s3 r4=>⟨F3,(s1.trans g2.ff).trans s3,r4,h7⟩
  | ct=>exact fun σ2 F3 H3 s3 r4=>⟨F3,(s1.trans g2.ff).trans s3,r4,h7⟩
  | bk=>cases h7;exact fun σ2 F3 H3 s3 r4=>q σ2 F3 H3 ((g1.ff.trans (s1.trans g2.ff)).trans s3) r4
  | rt d=>cases h7;exact q
 ·have e:i=ds.length:=by omega
  subst e;rw [g1y] at h3;cases h3;exact .inl ⟨itd.stop _ F' H s1 r1.fh (gv _),q σ F' H (g1.ff.trans s1) r1⟩
end
def qmp:Option B->Option B
 | some (.fz d)=>some (.fz d)
 | _=>none
def yw(cap:List (Option Nat))(ρ : Rho): Rho:=cap.map fun o=>o.bind fun j=>qmp (ρ[j]?).join
structure Sub(ρ ρ':Rho): Prop where
 len : ρ.length = ρ'.length
 sub:∀(i:Nat) (b:B), ρ[i]? = some (some b) -> ρ'[i]? = some (some b)
theorem RS.weak{K:Frag}{F0 H0 F H:Hp}{σ : St}{ρ ρ':Rho}(r:RS K F0 H0 F H σ ρ')(s:Sub ρ ρ'): RS K F0 H0 F H σ ρ where
 t0:=r.t0
 g:=r.g
 len:=by rw [s.len];exact r.len
 fz:=fun i d e=>r.fz i d (s.sub i _ e)
 ow:=fun i ds e=>r.ow i ds (s.sub i _ e)
 dj:=fun i j ds es a h e1 e2=>r.dj i j ds es a h (s.sub i _ e1) (s.sub j _ e2)
 od:=fun i kvs e=>let⟨a,bs,e1,e2,e3⟩:=r.od i kvs (s.sub i _ e); ⟨a,bs,e1,e2,fun j es b h=>e3 j es b (s.sub j _ h)⟩
 o1:=fun i j k1 k2 e1 e2=>r.o1 i j k1 k2 (s.sub i _ e1) (s.sub j _ e2)
def q1e(ρ : Rho): Prop:=∀(i:Nat) (b:B), ρ[i]? = some (some b)->∃d,b=.fz d
theorem q3p{ρ : Rho}(no:q1e ρ){i:Nat}{ds:List D}(h : ρ[i]? = some (some (.ow ds))): False:=let⟨_,e⟩:=no i _ h;nomatch e
theorem q3q{ρ : Rho}(no:q1e ρ){i:Nat}{ds}(h : ρ[i]? = some (some (.od ds))): False:=let⟨_,e⟩:=no i _ h;nomatch e
theorem vi(cap:List (Option Nat))(ρ : Rho): q1e (yw cap ρ):=fun i ds h=>by
 unfold yw at h;rw [m9] at h;cases q:cap[i]? with
 | none=>rw [q] at h;cases h
 | some o=>
  rw [q] at h;cases o with
  | none=>cases h
  | some j=>
   simp only [gz,gc,g0i] at h;generalize (ρ[j]?).join=z at h;cases z with
   | none=>cases h
   | some b=>cases b with
    | fz d=>cases h;exact⟨d,rfl⟩
    | ow _=>cases h
    | od _=>cases h
theorem qmq{K:Frag}{F0 H0 F H:Hp}{σ : St}{ρ : Rho}(cap:List (Option Nat))(r:RS K F0 H0 F H σ ρ): RS K F H F H (q4i cap σ) (yw cap ρ) where
 t0:=⟨r.tab,r.tabF⟩
 g:=.refl r.fh
 len:=by unfold q4i yw;rw [gx,gx]
 fz := fun i d h=>by
  unfold yw at h;rw [m9] at h;cases q:cap[i]? with
  | none=>rw [q] at h;cases h
  | some o=>
   rw [q] at h;cases o with
   | none=>cases h
   | some j=>
    simp only [gz,gc,g0i] at h;have e : ρ[j]? = some (some (.fz d)):=by
     cases z : ρ[j]? with
     | none=>rw [z] at h;cases h
     | some b=>
      rw [z] at h;cases b with
      | none=>cases h
      | some b=>cases b with
       | fz d'=>cases h;rfl
       | ow _=>cases h
       | od _=>cases h
    obtain⟨v,e1,e2⟩:=r.fz j d e;refine⟨v,?_,e2⟩;unfold q4i;rw [m9,q];simp only [gz,gc,e1,tx]
 ow:=fun i ds h=>(q3p (vi cap ρ) h).elim
 dj:=fun i j ds es a _ h=>(q3p (vi cap ρ) h).elim
 od:=fun i ds h=>(q3q (vi cap ρ) h).elim
 o1:=fun i j ds es h=>(q3q (vi cap ρ) h).elim
theorem RS.other{K:Frag}{F0 H0 F H:Hp}{σ : St}{ρ : Rho}(r:RS K F0 H0 F H σ ρ)(no:q1e ρ){p:Addr}{o:HO}(h1:F p=none)(h2:H0 p=none)(h3:H p=none\/∃xs,H p=some (.lst xs)): RS K F0 H0 F (upd H p o) σ ρ where
 t0:=r.t0
 g :=⟨r.g.ff,⟨fun b u e=>by rw [qo (fun z=>by subst z;rw [h2] at e;cases e)];exact r.g.hh.lst b u e,fun b u e=>by rw [qo (fun z=>by subst z;rw [h2] at e;cases e)];exact r.g.hh.ext b u e,fun {b} e=>by
   by_cases z:b=p
   ·subst z;exact h2
   ·rw [qo z] at e;exact r.g.hh.free e,fun t=>(r.g.hh.tb t).upd h3,fun b u e=>by rw [qo (fun z=>by subst z;rw [h2] at e;cases e)];exact r.g.hh.dk b u e⟩,fun b u e=>by rw [qo (fun z=>by subst z;rw [h1] at e;cases e)];exact r.g.fh b u e,r.g.nw⟩
 len:=r.len
 fz:=r.fz
 ow:=fun i ds h=>(q3p no h).elim
 dj:=fun i j ds es a _ h=>(q3p no h).elim
 od:=fun i ds h=>(q3q no h).elim
 o1:=fun i j ds es h=>(q3q no h).elim
theorem q4o{F H F' H':Hp}{p:Addr}(g:Grow F H F' H')(h1:F p=none){o:HO}(h2:H p=some o): F' p=none:=by
 cases q:F' p with
 | none=>rfl
 | some u=>
  rcases g.nw p (by rw [q];simp) with z|z
  ·exact absurd h1 z
  ·rw [h2] at z;cases z
def xh(b:FB)(c:FT)(f:FE)(ρ : Rho): List D->Option (List D)
 | []=>some []
 | d :: ds=>(b d ρ).bind fun ρ1=>(c ρ1).bind fun t=>if t then(f ρ1).bind fun y=>(xh b c f ρ ds).map fun ys=>y :: ys else xh b c f ρ ds
def q07:FT:=fun _=>some true
def xp(it:FA)(cap:List (Option Nat))(b:FB)(c:FT)(f:FE): FA:=fun ρ =>(it ρ).bind fun ds=>if ds.length<=lim then xh b c f (yw cap ρ) ds else none
def q76(b:FB)(cap:List (Option Nat)): Prop:=∀ ρ d ρ',b d (yw cap ρ)=some ρ'->Sub (yw cap ρ) ρ'/\q1e ρ'
section
variable{X:Cx}
theorem qi0{ifs:List Expr}{t t':TT}(h:q04 X ifs t)(i:∀ σ H Q,t' σ H Q->t σ H Q): q04 X ifs t':=fun pins s σ H Q I q=>h pins s σ H Q I (i σ H Q q)
theorem q77:q04 X [] (tDT X.K q07):=qi0 qhq fun σ H Q ⟨F0,H0,F, ρ,b,r,hf,q⟩=>by cases hf;exact q F H (.refl r.fh)
theorem q3d{c:Expr}{t:FT}(h:PT X c (tDT X.K t)): q04 X [c] (tDT X.K t):=qhr h
theorem qg4{K:Frag}{it:FA}{cap:List (Option Nat)}{b:FB}{c:FT}{f:FE}{σ : St}{H:Hp}{Q:VK}(fr:q76 b cap)(h:tL K (xp it cap b c f) σ H Q): qeg (tDI K it) cap (tDG K b) (tDT K c) (tD K f) σ H Q:=by
 obtain⟨F0,H0,F, ρ,zs,r,hf,q⟩:=h;obtain⟨ds,h1,h2⟩:=g9.mp hf;have hlim:ds.length<=lim:=Decidable.byContradiction fun z=>by rw [m4 z] at h2;cases h2
 rw [gw hlim] at h2;refine⟨F0,H0,F, ρ,ds,r,h1,fun J F1 H1 g1 itd p hp=>?_⟩;have rc:=qmq cap (r.grow g1);have hF1:F1 p=none:=g1.fh.free hp;refine⟨fun i m σ H=>m=ds.length-i/\i<=ds.length/\∃F' xs ys us,Same F1 F'/\RS K F1 H1 F' H σ (yw cap ρ)/\H p=some (.lst xs)/\F' p=none/\RepL K F' ys xs/\xh b c f (yw cap ρ) (ds.drop i)=some us/\ys++us=zs/\ys.length<=i,
  ⟨ds.length,by simp,g1f _,F1,[],[],zs,.refl _,rc.other (vi cap ρ) hF1 hp (.inl hp),qv,hF1,.nil,by simpa using h2,rfl,gv _⟩,?_⟩
 rintro i m σ' H' ⟨rfl,hi,F',xs,ys,us,s1,r1,hl,hn,ry,h3,h4,hyi⟩
 by_cases hlt:i<ds.length
 ·have hd:ds.drop i=ds[i] :: ds.drop (i+1):=g0a hlt
  rw [hd] at h3;obtain⟨ρ1,h5,h3⟩:=g9.mp h3;obtain⟨t,h6,h3⟩:=g9.mp h3;obtain⟨sb,no1⟩:=fr ρ _ _ h5;refine .inr ⟨itd.go i F' H' s1 r1.fh hlt,fun x H'' y=>?_⟩;obtain⟨F2,g2,r2⟩:=itd.yld i ds[i] F' H' x H'' s1 r1.fh (by simp [hlt]) y;refine⟨F1,H1,F2,yw cap ρ,ds[i], ρ1,r1.grow g2,r2,h5,fun σ2 r3=>⟨F1,H1,F2, ρ1,t,r3,h6,fun F3 H3 g3=>?_⟩⟩;have r4:=r3.grow g3;have hl2:=g2.hh.lst _ _ hl;have hn2:=q4o g2 hn hl;have hl3:=g3.hh.lst _ _ hl2;have hn3:=q4o g3 hn2 hl2;cases t with
  | false=>
   rw [m4 gq] at h3;exact qmh ⟨ds.length-(i+1),by omega,rfl,hlt,F3,xs,ys,us,(s1.trans g2.ff).trans g3.ff,r4.weak sb,hl3,hn3,ry.mono (g2.ff.trans g3.ff),h3,h4,Nat.le_succ_of_le hyi⟩
  | true=>
   rw [gw rfl] at h3;obtain⟨yd,h7,h3⟩:=g9.mp h3;obtain⟨us',h8,h9⟩:=gj.mp h3;refine qmi ⟨F1,H1,F3, ρ1,yd,r4,h7,fun v F4 H4 g4 r5=>?_⟩;have hl4:=g4.hh.lst _ _ hl3;have hn4:=q4o g4 hn3 hl3;have ss:Same F' F4:=(g2.ff.trans g3.ff).trans g4.ff;refine⟨xs,hl4,q8x (by have:=ry.length;omega),ds.length-(i+1),by omega,rfl,hlt,F4,xs++[v],ys++[yd],us',(s1.trans ss),?_,qv,hn4,(ry.mono ss).append (.cons r5 .nil),h8,?_,?_⟩
   ·exact((r4.grow g4).weak sb).other (vi cap ρ) hn4 hp (.inr ⟨_,hl4⟩)
   ·rw [t6,List.singleton_append,h9];exact h4
   ·rw [mq,g2b];omega
 ·have e:i=ds.length:=by omega
  subst e;rw [g1y] at h3;cases h3;rw [mz] at h4;subst h4;have gg:Grow F1 H1 F' H':=r1.g;exact .inl ⟨itd.stop _ F' H' s1 r1.fh (gv _),q p xs F' H' (g1.trans gg) hn (g1.hh.free hp) hl ry⟩
variable{N':List Str}{scope:Scope}{cap:List (Option Nat)}{tg iter elt:Expr}{ifs:List Expr}{it:FA}{b:FB}{c:FT}{f:FE}{pos:Pos}
theorem kf(hc:X.calm=true)(co:CapOk X N' scope cap)(fr:q76 b cap)(hi:PI X tg iter (tDI X.K it))
  (hg:∀cl C s₀ H₀ fp,PG (va X N' scope cl C s₀ H₀ fp) tg (tDG X.K b)) (hcs:∀cl C s₀ H₀ fp,q04 (va X N' scope cl C s₀ H₀ fp) ifs (tDT X.K c)) (he:∀cl C s₀ H₀ fp,PE (va X N' scope cl C s₀ H₀ fp) elt (tD X.K f))
  (hs:∀x,foldedSetIterable iter X.env x=pure x:=by intro _;rfl):PE X (.ListComp elt [⟨tg,iter,ifs,0⟩] scope pos) (tL X.K (xp it cap b c f)):=
 zc (qk5 hc co hi hg hcs he hs) fun σ H Q h=>qg4 fr h
end
theorem qax{cap:List (Option Nat)}{ρ : Rho}{i:Nat}(h:cap[i]? = some none): (yw cap ρ)[i]? = some none:=by
 unfold yw;rw [m9,h];rfl
theorem qdh{ρ ρ':Rho}{i:Nat}{b:Option B}(s:Sub ρ ρ')(h : ρ[i]? = some none): Sub ρ (ρ'.set i b):=
 ⟨by rw [my];exact s.len,fun j c e=>by
  by_cases q:j=i
  ·subst q;rw [h] at e;cases e
  ·rw [gf (gu q)];exact s.sub j c e⟩
theorem q90{ρ : Rho}{i:Nat}{d:D}(h:q1e ρ): q1e (ρ.set i (some (.fz d))):=fun j ds e=>by
 by_cases q:j=i
 ·subst q
  obtain⟨z,_⟩:=qm e;cases z;exact⟨d,rfl⟩
 ·rw [gf (gu q)] at e;exact h j ds e
theorem Sub.refl(ρ : Rho): Sub ρ ρ :=⟨rfl,fun _ _ h=>h⟩
theorem kg{cap:List (Option Nat)}{i:Nat}(h:cap[i]? = some none): q76 (bN i) cap:=fun ρ d ρ' e=>by
 cases e;exact⟨qdh (.refl _) (qax h),q90 (vi cap ρ)⟩
def q78(bs:FBs)(cap:List (Option Nat)): Prop:=∀ ρ ds ρ1 ρ',Sub (yw cap ρ) ρ1->q1e ρ1->bs ds ρ1=some ρ'->Sub (yw cap ρ) ρ'/\q1e ρ'
theorem q1f{cap:List (Option Nat)}: q78 jx cap:=fun ρ ds ρ1 ρ' s n e=>by
 unfold jx at e
 split at e
 ·cases e;exact⟨s,n⟩
 ·cases e
theorem x9{cap:List (Option Nat)}{i:Nat}{bs:FBs}(h:cap[i]? = some none)(t:q78 bs cap): q78 (z6 (bN i) bs) cap:=fun ρ ds ρ1 ρ' s n e=>by
 cases ds with
 | nil=>cases e
 | cons d ds=>exact t ρ ds _ ρ' (qdh s (qax h)) (q90 n) e
theorem q2r{cap:List (Option Nat)}{n:Nat}{bs:FBs}(t:q78 bs cap): q76 (xl n bs) cap:=fun ρ d ρ' e=>by
 cases d <;> simp only [xl] at e <;> first|(cases e;done)|skip
 split at e
 ·exact t ρ _ _ ρ' (.refl _) (vi cap ρ) e
 ·cases e
def qmr (outer:List (Str×NameKind)) (N N':List Str) (scope:Scope) (cap:List (Option Nat)):Bool:=
 scope.names.all (fun y=> !(y.2 == .cell))&&(scope.names.all (fun y=> !(y.2 == .local) || (scope.names.lookup y.1==some .local))&&(scope.names.all (fun y=> !(y.2 == .free) || (outer.lookup y.1==some .cell) || (outer.lookup y.1==some .free)) &&
  (cap.length==N'.length&&(List.range cap.length).all fun i=>match(cap[i]?).join with
   | none=>true
   | some j=>match N'[i]? with
    | none=>false
    | some x=>N[j]? == some x&&scope.names.lookup x==some .free)))
theorem vk{X:Cx}{N':List Str}{scope:Scope}{cap:List (Option Nat)}(hk:scope.kind=.function)(h:qmr X.env.scope.names X.N N' scope cap=true): CapOk X N' scope cap:=by
 unfold qmr at h;simp only [m7,u0] at h;obtain⟨h1,h2,h3,h4,h5⟩:=h;refine⟨hk,fun y hy e=>?_,fun y hy e=>?_,fun y hy e=>?_,by simpa using h4,fun i j e=>?_⟩
 ·have:=h1 y hy;rw [e] at this;cases this
 ·have:=h2 y hy;rw [e] at this;simpa using this
 ·have:=h3 y hy
  rw [e] at this;simp only [g03,g1o,Bool.false_or,p6,ni] at this;exact this
 ·have hi:i<cap.length:=(mr.mp e).1
  have:=h5 i (g0f.mpr hi);rw [e] at this;simp only [tx] at this
  split at this
  ·cases this
  ·rename_i x hx
   simp only [m7,ni] at this;exact⟨x,hx,this.1,this.2⟩
section
variable{X:Cx}{e:Expr}{es:List Expr}{pos:Pos}{f g:FE}{fa:FA}
inductive Ty where
 | int|bool|tuple|list|str|dict
def Ty.name:Ty->String
 | .int=>"int" | .bool=>"bool" | .tuple=>"tuple" | .list=>"list" | .str=>"str" | .dict=>"dict"
def z9:Ty->D->Bool
 | .int,.int _=>true
 | .int,.bl _=>true
 | .bool,.bl _=>true
 | .tuple,.tup _=>true
 | .list,.lst _=>true
 | .str,.str _=>true
 | .dict,.dct _ _=>true
 | .dict,.dtt _ _=>true
 | _,_=>false
theorem qi1{prog:Program}{w:World}{A:Around}{E:Value->Shared->Prop}{s:Shared}{Q:Value->Shared->Prop}{K:Frag}{T:String}{b:Bool}(hk:K.In s.heap)(h:∀tk,Q (.bool b) {s with toks:=tk})(hT:PySem.W.kitOne K (.type "NoneType") (.type T)=some b):
  wpAny (model prog w) A (call (.builtin "isinstance") [.none,.type T]) Q E s:=g0x PySem.W.kitx_none hk True.intro hT (fun z=>nomatch z) h
theorem qi2(T:Ty): jw X (.builtin "isinstance") (fun xs H Q=>∃x F d,xs=[x,.ty T.name]/\Same F H/\Rep X.K F d x/\Q (.bl (z9 T d)) H):=by
 intro pins s σ H xs us Q I r h;obtain⟨x,F,d,rfl,fh,rd,q⟩:=h;obtain⟨u,w',rfl,rx,rt⟩:=r.two;obtain rfl:w'=Value.type T.name:=rt;have fin:∀ {b:Bool},Q (.bl b) H->EP X pins σ Q (.bool b) s:=fun q=>⟨.bl _,H,I,rfl,q⟩
 have fin1:∀ {b:Bool},Q (.bl b) H->EP X pins σ Q (.bool b) {s with toks:=s.toks+1}:=fun q=>⟨.bl _,H,I.tok _,rfl,q⟩
 cases d with
 | non=>
  cases rep_non.mp rd;cases rx;cases T <;> exact qi1 I.kIn (fun tk=>⟨.bl _,H,I.tok _,rfl,q⟩) (by rfl)
 | bl b=>
  cases rep_bl.mp rd;cases rx;cases T
  ·exact IsiPair.bool_int (fin q)
  ·exact IsiPair.bool_bool (fin q)
  ·exact IsiPair.bool_tuple (fin1 q)
  ·exact IsiPair.bool_list (fin1 q)
  ·exact IsiPair.bool_str (fin1 q)
  ·exact IsiPair.bool_dict (fin1 q)
 | int i=>
  cases rep_int.mp rd;obtain⟨t,rfl⟩:=rx;cases T
  ·exact IsiPair.int_int (fin q)
  ·exact IsiPair.int_bool (fin1 q)
  ·exact IsiPair.int_tuple (fin1 q)
  ·exact IsiPair.int_list (fin1 q)
  ·exact IsiPair.int_str (fin1 q)
  ·exact IsiPair.int_dict (fin1 q)
 | str z=>
  cases rep_str.mp rd;obtain⟨t,rfl⟩:=rx;cases T
  ·exact IsiPair.str_int (fin1 q)
  ·exact IsiPair.str_bool (fin1 q)
  ·exact IsiPair.str_tuple (fin1 q)
  ·exact IsiPair.str_list (fin1 q)
  ·exact IsiPair.str_str (fin q)
  ·exact IsiPair.str_dict (fin1 q)
 | tup ds=>
  obtain⟨a,ys,rfl,h1,h2⟩:=rep_tup.mp rd;cases rx;obtain⟨its,_,⟨o,ho,hc,_⟩,_⟩:=I.tuple (qx fh h1);cases T
  ·exact IsiPair.tuple_int ho hc (fin1 q)
  ·exact IsiPair.tuple_bool ho hc (fin1 q)
  ·exact IsiPair.tuple_tuple ho hc (fin q)
  ·exact IsiPair.tuple_list ho hc (fin1 q)
  ·exact IsiPair.tuple_str ho hc (fin1 q)
  ·exact IsiPair.tuple_dict ho hc (fin1 q)
 | lst ds=>
  obtain⟨a,ys,rfl,h1,h2⟩:=rep_lst.mp rd;cases rx;obtain⟨its,_,⟨o,n,ho,hc,_⟩,_⟩:=I.list (fh.seq h1);cases T
  ·exact IsiPair.list_int ho hc (fin1 q)
  ·exact IsiPair.list_bool ho hc (fin1 q)
  ·exact IsiPair.list_tuple ho hc (fin1 q)
  ·exact IsiPair.list_list ho hc (fin q)
  ·exact IsiPair.list_str ho hc (fin1 q)
  ·exact IsiPair.list_dict ho hc (fin1 q)
 | dct ks vs=>
  obtain⟨a,ys,rfl,h1,h2,h3⟩:=rep_dct.mp rd;cases rx;obtain⟨_,_,vs',_,o,es',ep,ho,hc,_⟩:=(show ObjOk X.prog X.w H s.heap a _ from I.hok a _ (fh _ _ h1))
  cases T
  ·exact IsiPair.dict_int ho hc.1 (fin1 q)
  ·exact IsiPair.dict_bool ho hc.1 (fin1 q)
  ·exact IsiPair.dict_tuple ho hc.1 (fin1 q)
  ·exact IsiPair.dict_list ho hc.1 (fin1 q)
  ·exact IsiPair.dict_str ho hc.1 (fin1 q)
  ·exact IsiPair.dict_dict ho hc.1 (fin q)
 | dtt ks vs=>
  obtain⟨a,xs',ys,ep,rfl,h1,_⟩:=rep_dtt.mp rd;cases rx;obtain⟨⟨o,es',ho,hc,_⟩,_,_⟩:=(show ObjOk X.prog X.w H s.heap a _ from I.hok a _ (fh _ _ h1))
  cases T
  ·exact IsiPair.dict_int ho hc.1 (fin1 q)
  ·exact IsiPair.dict_bool ho hc.1 (fin1 q)
  ·exact IsiPair.dict_tuple ho hc.1 (fin1 q)
  ·exact IsiPair.dict_list ho hc.1 (fin1 q)
  ·exact IsiPair.dict_str ho hc.1 (fin1 q)
  ·exact IsiPair.dict_dict ho hc.1 (fin q)
 | obj x=>
  obtain⟨a,dx,C,rfl,h1,_,c1,c2,c3,c4,c5,c6,c7⟩:=rep_obj.mp rd;cases rx;obtain⟨mA,O,_⟩:=q5g I.hok (fh _ _ h1);obtain⟨od,J,_⟩:=O.look;cases T <;> exact g0x (PySem.W.kitx_own c1 c2 c3 c4 c5 c6) I.kIn J (c7 _ (by decide)) (fun z=>nomatch z) (fun tk=>⟨.bl _,H,I.tok _,rfl,q⟩)
 | exc x f=>
  obtain⟨a,C,rfl,⟨od,h1,_⟩,_,c1,c2⟩:=rep_exc.mp rd;cases rx;obtain⟨J,_,_⟩:=(show ObjOk X.prog X.w H s.heap a _ from I.hok a _ (fh _ _ h1))
  cases T <;> exact g0x (q6c c1) I.kIn J (c2 _ (by decide)) (fun z=>nomatch z) (fun tk=>⟨.bl _,H,I.tok _,rfl,q⟩)
def q0j(T:Ty)(f:FE): FE:=fun ρ =>(f ρ).map fun d=>.bl (z9 T d)
theorem q3r:bootBuiltins "isinstance" = some (.builtin "isinstance"):=by decide +kernel
theorem q11{x:Str}{p px:Pos}(T:Ty)(hg:Gl X "isinstance")(hm:X.mg "isinstance" = none)(hgT:Gl X x)(hmT:X.mg x=none)(hvT:bootBuiltins x=some (.type T.name))(ha:PE X e (tD X.K f))
  (hnT:x≠"__name__" :=by decide) (hdT:(x==("__debug__" : Str))=false:=by decide) (he2:starEach [e,.Name x px] X.env=(false,eval e X.env) :: starEach [.Name x px] X.env:=by rfl) :
  PE X (.Call (.Name "isinstance" p) [e,.Name x px] [] pos) (tD X.K (q0j T f)):=
 zc (q1t (qi2 T) hg hm q3r (zw ha (zw (qd5 (v:=.ty T.name) hgT hmT hvT rfl hnT hdT) kx) he2) (by decide) (by decide) he2 rfl) fun σ H Q ⟨F0,H0,F, ρ,d,r,hf,q⟩=>by
  obtain⟨d',h1,h2⟩:=gj.mp hf;subst h2;exact⟨F0,H0,F, ρ,d',r,h1,fun v F' H' g' r'=>⟨v,F',d',rfl,g'.fh,r',q _ F' H' g' (rep_bl.mpr rfl)⟩⟩
def q5k:List D->Option (List Int)
 | []=>some []
 | .int i :: r=>(q5k r).map fun is=>i :: is
 | _ :: _=>none
def q3e:List D->Option (List Bool)
 | []=>some []
 | .bl i :: r=>(q3e r).map fun is=>i :: is
 | _ :: _=>none
theorem q79:∀ {ds:List D} {ns:List Int},q5k ds=some ns->ds=ns.map D.int
 | [],ns,h=>by cases h;rfl
 | d :: r,ns,h=>by
  cases d <;> simp only [q5k] at h <;> first|(cases h;done)|skip
  obtain⟨is,h1,h2⟩:=gj.mp h;subst h2;rw [q79 h1];rfl
omit [Lam] [Pin] in
theorem q91:∀(ns:List Int),q5k (ns.map D.int)=some ns
 | []=>rfl
 | n :: r=>by simp only [mi,q5k,q91 r,gz]
theorem q65:∀ {ds:List D} {bs:List Bool},q3e ds=some bs->ds=bs.map D.bl
 | [],ns,h=>by cases h;rfl
 | d :: r,ns,h=>by
  cases d <;> simp only [q3e] at h <;> first|(cases h;done)|skip
  obtain⟨is,h1,h2⟩:=gj.mp h;subst h2;rw [q65 h1];rfl
omit [Lam] [Pin] in
theorem q7a:∀(ns:List Bool),q3e (ns.map D.bl)=some ns
 | []=>rfl
 | n :: r=>by simp only [mi,q3e,q7a r,gz]
theorem RepL.bools{K:Frag}{H:Hp}: ∀ {bs:List Bool} {xs:List V},RepL K H (bs.map D.bl) xs->xs=bs.map V.bl
 | [],xs,h=>h.nil_inv
 | b :: bs,xs,h=>by
  obtain⟨x,r,rfl,h1,h2⟩:=h.cons_inv;rw [rep_bl.mp h1,RepL.bools h2];rfl
def o1L(z:List D->Option D): List D->Option D
 | [.lst ds]=>z ds
 | _=>none
theorem qay{z:List D->Option D}{es:List D}{d:D}(h:o1L z es=some d): ∃ds,es=[.lst ds]/\z ds=some d:=by
 unfold o1L at h
 split at h
 ·exact⟨_,rfl,h⟩
 ·cases h
theorem rep1{K:Frag}{F:Hp}{d:D}{xs:List V}(h:RepL K F [d] xs): ∃x,xs=[x]/\Rep K F d x:=by
 obtain⟨x,r,rfl,h1,h2⟩:=h.cons_inv;cases h2.nil_inv;exact⟨x,rfl,h1⟩
abbrev q4p:List D->Option D:=o1L fun ds=>(q5k ds).map fun ns=>.int ns.sum
abbrev q6f:List D->Option D:=o1L fun ds=>(q3e ds).map fun bs=>.bl (bs.all id)
theorem q7b(hc:X.calm=true): jw X (.builtin "sum") (rC X.K q4p):=by
 intro pins s σ H xs us Q I r h;obtain⟨F,ds,d,fh,rl,ho,q⟩:=h;obtain⟨es,rfl,h1⟩:=qay ho;obtain⟨ns,h2,h3⟩:=gj.mp h1;subst h3;cases q79 h2;obtain⟨x,rfl,rx⟩:=rep1 rl;obtain⟨u,rfl,ru⟩:=r.one;obtain⟨a,ys,rfl,k1,k2⟩:=rep_lst.mp rx;cases ru;cases RepL.ints.mp k2;obtain⟨its,rv,pl,_⟩:=I.list (fh.seq k1);have hi:=intsAre_of rv;obtain⟨zs,hz⟩:=hi.allInts.items;have hl:s.heap.IsList a (intItems zs):=hz ▸ pl.isList;refine sum_intListG (I.ok.hd hc) hl fun h' tk t' hk=>?_;have e1:ns=zs.toList.map (·.1):=by
  rw [<- nums_intItems, <- hz];exact(show numsOf its.toArray.toList=ns from hi.numsOf).symm
 have e2:preSum (numAt zs) zs.size=ns.sum:=by
  rw [preSum_eq,g0n (by simp),e1]
 rw [e2];exact⟨.int ns.sum,H,I.kept hk,⟨_,rfl⟩,q _ F H (.refl fh) (rep_int.mpr rfl)⟩
theorem q7c:∀ {bs:List Bool} {us:List Value},Vals (bs.map V.bl) us->us=bs.map Value.bool
 | [],us,h=>by cases h;rfl
 | b :: bs,us,h=>by
  rw [mi] at h;cases h with
  | cons r t=>
   cases(show _=Value.bool b from r);rw [q7c t];rfl
theorem qaz(hc:X.calm=true): jw X (.builtin "all") (rC X.K q6f):=by
 intro pins s σ H xs us Q I r h;obtain⟨F,ds,d,fh,rl,ho,q⟩:=h;obtain⟨es,rfl,h1⟩:=qay ho;obtain⟨bs,h2,h3⟩:=gj.mp h1;subst h3;cases q65 h2;obtain⟨x,rfl,rx⟩:=rep1 rl;obtain⟨u,rfl,ru⟩:=r.one;obtain⟨a,ys,rfl,k1,k2⟩:=rep_lst.mp rx;cases ru;cases k2.bools;obtain⟨its,rv,pl,_⟩:=I.list (fh.seq k1);cases q7c rv;have hlt:a<s.heap.objs.size:=by obtain⟨_,e,_⟩:=pl.isList;exact gs e
 refine call_all_walk (g0k pl.isList ?_);refine⟨s.heap.objs.size,[s.heap.objs.size,a],[s.heap.objs.size],(bs.map Value.bool).toArray.size,_,_,fun i=>(bs[i]?).getD true,rfl,Walks.list (A:=X.A.in1) (I.ok.hd hc) _ a (ma hlt) (bs.map Value.bool).toArray,
  ⟨⟨_,m3 _ rfl,rfl,rfl⟩,pl.isList.push _⟩,fun i v s' Q' E' hP hQ=>?_,fun h' tk hk=>?_⟩
 ·have hP':(bs.map Value.bool)[i]? = some v:=by simpa using hP
  rw [m9] at hP';cases z:bs[i]? with
  | none=>rw [z] at hP';cases hP'
  | some b=>
   rw [z] at hP';cases hP';simp only [z,Option.getD_some] at hQ;exact t5 hQ
 ·have e:((List.range (bs.map Value.bool).toArray.size).all fun i=>(bs[i]?).getD true)=bs.all id:=by
   rw [gp,gx];exact LSm.range_all bs
  rw [e];exact⟨.bl _,H,I.kept (LSm.kept_iter hk),rfl,q _ F H (.refl fh) (rep_bl.mpr rfl)⟩
theorem boot_sum:bootBuiltins "sum" = some (.builtin "sum"):=by decide +kernel
theorem boot_all:bootBuiltins "all" = some (.builtin "all"):=by decide +kernel
theorem boot_min:bootBuiltins "min" = some (.builtin "min"):=by decide +kernel
theorem boot_max:bootBuiltins "max" = some (.builtin "max"):=by decide +kernel
theorem xa:bootBuiltins "len" = some (.builtin "len"):=by decide +kernel
theorem boot_tuple:bootBuiltins "tuple" = some (.type "tuple"):=by decide +kernel
theorem boot_int:bootBuiltins "int" = some (.type "int"):=by decide +kernel
theorem boot_bool:bootBuiltins "bool" = some (.type "bool"):=by decide +kernel
def o2I(z:Int->Int->Int): List D->Option D
 | [.int i,.int j]=>some (.int (z i j))
 | _=>none
theorem qb0{z:Int->Int->Int}{es:List D}{d:D}(h:o2I z es=some d): ∃i j,es=[.int i,.int j]/\d=.int (z i j):=by
 unfold o2I at h
 split at h
 ·cases h;exact⟨_,_,rfl,rfl⟩
 ·cases h
theorem qjg{K:Frag}{F:Hp}{i j:Int}{xs:List V}(h:RepL K F [.int i,.int j] xs): xs=[.int i,.int j]:=RepL.ints (ns:=[i,j]).mp h
abbrev oMin:=o2I fun i j=>if j<i then j else i
abbrev oMax:=o2I fun i j=>if j>i then j else i
theorem q4q(hc:X.calm=true): jw X (.builtin "min") (rC X.K oMin):=q2o (qfj hc) fun xs H Q ⟨F,ds,d,fh,rl,ho,q⟩=>by
 obtain⟨i,j,rfl,rfl⟩:=qb0 ho;exact⟨i,j,qjg rl,q _ F H (.refl fh) (rep_int.mpr rfl)⟩
theorem qb1(hc:X.calm=true): jw X (.builtin "max") (rC X.K oMax):=q2o (qfi hc) fun xs H Q ⟨F,ds,d,fh,rl,ho,q⟩=>by
 obtain⟨i,j,rfl,rfl⟩:=qb0 ho;exact⟨i,j,qjg rl,q _ F H (.refl fh) (rep_int.mpr rfl)⟩
def v3:List D->Option D
 | [.tup ds]=>some (.int ds.length)
 | [.lst ds]=>some (.int ds.length)
 | [.str x]=>if x.length<=lim then some (.int x.length) else none
 | _=>none
theorem kz:jw X (.builtin "len") (rC X.K v3):=q2o qhh fun xs H Q ⟨F,ds,d,fh,rl,ho,q⟩=>by
 unfold v3 at ho
 split at ho
 ·cases ho
  obtain⟨x,rfl,rx⟩:=rep1 rl;obtain⟨a,ys,rfl,k1,k2⟩:=rep_tup.mp rx;exact⟨_,ys.length,rfl,.inr ⟨ys,qx fh k1,rfl⟩,by rw [<- k2.length];exact q _ F H (.refl fh) (rep_int.mpr rfl)⟩
 ·cases ho
  obtain⟨x,rfl,rx⟩:=rep1 rl;obtain⟨a,ys,rfl,k1,k2⟩:=rep_lst.mp rx;exact⟨_,ys.length,rfl,.inl ⟨ys,fh.seq k1,rfl⟩,by rw [<- k2.length];exact q _ F H (.refl fh) (rep_int.mpr rfl)⟩
 ·split at ho
  ·rename_i z
   cases ho;obtain⟨x,rfl,rx⟩:=rep1 rl;cases rep_str.mp rx;exact⟨_,_,rfl,⟨yp z,rfl⟩,q _ F H (.refl fh) (rep_int.mpr rfl)⟩
  ·cases ho
 ·cases ho
def q08:List D->Option D
 | [.tup ds]=>some (.tup ds)
 | [.lst ds]=>some (.tup ds)
 | _=>none
theorem q3s:jw X (.type "tuple") (rC X.K q08):=q2o q9k fun xs H Q ⟨F,ds,d,fh,rl,ho,q⟩=>by
 unfold q08 at ho
 split at ho
 ·cases ho
  obtain⟨x,rfl,rx⟩:=rep1 rl;obtain⟨a,ys,rfl,k1,k2⟩:=rep_tup.mp rx;exact⟨a,ys,rfl,.inr ⟨qx fh k1,q _ F H (.refl fh) rx⟩⟩
 ·cases ho
  obtain⟨x,rfl,rx⟩:=rep1 rl;obtain⟨a,ys,rfl,k1,k2⟩:=rep_lst.mp rx;refine⟨a,ys,rfl,.inl ⟨fh.seq k1,fun l hl=>?_⟩⟩;have gn:Grow F H (upd F l (.tup ys)) (upd H l (.tup ys)):=Grow.new fh hl;exact q _ _ _ gn (rep_tup.mpr ⟨l,ys,rfl,SqT.of qv,k2.mono gn.ff⟩)
 ·cases ho
def qeh(op:List D->Option (List D))(fa:FA): FA:=fun ρ =>(fa ρ).bind op
def qjh:List D->Option (List D)
 | [.tup ds]=>some ds
 | [.lst ds]=>some ds
 | _=>none
theorem qdi{K:Frag}{H:Hp}{ds:List D}{xs:List V}{i:Int}{d:D}(h:RepL K H ds xs)(e:atI ds i=some d): ∃x,atI xs i=some x/\Rep K H d x:=by
 unfold atI at e ⊢;rw [<- h.length];cases q:ixN ds.length i with
 | none=>rw [q] at e;cases e
 | some j=>
  rw [q] at e;exact h.get e
def oIx:D->D->Option D
 | .tup ds,.int i=>atI ds i
 | .lst ds,.int i=>atI ds i
 | _,_=>none
theorem kh{a b:Expr}(ha:PE X a (tD X.K f))(hb:PE X b (tD X.K g))(hs:qdc b:=by intro _ _;rfl): PE X (.Subscript a b pos) (tD X.K (eOp oIx f g)):=zc (qoj qmf ha hb hs) fun σ H Q h=>by
 have h':=two h;obtain⟨F0,H0,F, ρ,d,r,hf,q⟩:=h';refine⟨F0,H0,F, ρ,d,r,hf,fun v F1 H1 g1 r1=>?_⟩;obtain⟨F0',H0',F', ρ',d',r',hf',q'⟩:=q v F1 H1 g1 r1;refine⟨F0',H0',F', ρ',d',r',hf',fun v2 F2 H2 g2 r2=>?_⟩;obtain⟨F3,d1,d2,d3,fh,k1,k2,k3,k4⟩:=q' v2 F2 H2 g2 r2;unfold oIx at k3
 split at k3
 ·obtain⟨p,ys,rfl,z1,z2⟩:=rep_tup.mp k1
  obtain⟨y,z3,z4⟩:=qdi z2 k3;exact .inr (.inl ⟨p,ys,_,y,rfl,rep_int.mp k2,qx fh z1,z3,k4 y F3 H2 (.refl fh) z4⟩)
 ·obtain⟨p,ys,rfl,z1,z2⟩:=rep_lst.mp k1
  obtain⟨y,z3,z4⟩:=qdi z2 k3;exact .inl ⟨p,ys,_,y,rfl,rep_int.mp k2,fh.seq z1,z3,k4 y F3 H2 (.refl fh) z4⟩
 ·cases k3
def eUn(o:D->Option D)(f:FE): FE:=fun ρ =>(f ρ).bind o
end
section
variable{prog:Program}{w:World}{A:Around}{E:Value->Shared->Prop}{s:Shared}
theorem q9l{t sl:Addr}{items:Array Value}{vl vu:Value}{lo hi:Option Int}{Q:Value->Shared->Prop}(ht:IsTup s.heap t items)(hs:s.heap.IsSliceOf sl vl vu .none)
  (pl:IsPart vl lo) (pu:IsPart vu hi) (w1:HT.sIx items.size 0 lo=0) (w2:HT.sIx items.size items.size hi=items.size) (h:Q (.ref t) s) :
  wpAny (model prog w) A (getItem (.ref t) (.ref sl)) Q E s:=by
 obtain⟨os,hos,hcs,hds⟩:=id hs;have hTs:s.TypeIs (.ref sl) "slice" :=⟨os,hos,hcs⟩
 unfold getItem
 try with_reducible refine nj ?_
 first|refine g6 (gi ?_)|skip
 refine g6 (wpAny_sequenceKey ht.typeIs (by decide) (g6 (p5 (name:=Str.ofString "__getitem__") ht.typeIs ng
  (tw ng ht.typeIs entry_tuple_getitem ?_ (args_tuple_getitem _ _)))))
 show wpAny _ _ (Builtin.Tuple.tupleItemsOf (.ref t) >>= _) _ _ s;refine g6 (tupleItemsOf_ ht (g6 (g1x hTs ?_)));rw [gw (by decide)];refine g6 (HT.sliceApplied_gen hs pl pu ?_);rw [w1,w2];show wpAny _ _ (if(((0:Nat):Int)==0&&(1:Int)==1&&(items.size-0)==items.size)=true then _ else _) _ _ s;rw [gw (by simp)];refine g6 ?_;unfold Builtin.Tuple.tupleIsExact;refine g6 (g1x ht.typeIs (gi ?_))
 first
  | rw [gw (by decide)]
  | skip
 first
  | exact g6 (g0y (g6 (gi (gi ⟨_,rfl,gi h⟩))))
  | exact g6 (g0y (gi ⟨_,rfl,gi h⟩))
  | exact g6 (g6 (g0y (gi (gi ⟨_,rfl,gi h⟩))))
end
section
variable{X:Cx}{e:Expr}{es:List Expr}{pos:Pos}{f g:FE}{fa:FA}
def qpo(K:Frag): V->Option Int->Option Int->Hp->VK->Prop:=fun x lo hi H Q=>∃a xs,x=.ref a/\SqT K H a xs/\HT.sIx xs.length 0 lo=0/\HT.sIx xs.length xs.length hi=xs.length/\Q (.ref a) H
theorem qi3:SlR X (qpo X.K):=by
 intro pins s σ H x v vl vu lo hi sl Q I rx hs pl pu h;obtain⟨a,xs,rfl,hx,w1,w2,q⟩:=h;cases rx;obtain⟨its,r,ht,hz⟩:=I.tuple hx;have hlen:its.toArray.size=xs.length:=by rw [gp];exact r.length.symm
 exact⟨"tuple",_,ng.lookup,ht.typeIs,q9l ht hs pl pu (by rw [hlen];exact w1) (by rw [hlen];exact w2) ⟨.ref a,H,I,rfl,q⟩⟩
def cutD(ds:List D)(lo hi:Option Int): List D:=(ds.drop (HT.sIx ds.length 0 lo)).take (HT.sIx ds.length ds.length hi-HT.sIx ds.length 0 lo)
def oSl:D->Option Int->Option Int->Option D
 | .tup ds,lo,hi=>some (.tup (cutD ds lo hi))
 | .lst ds,lo,hi=>some (.lst (cutD ds lo hi))
 | _,_,_=>none
abbrev FO:=Rho->Option (Option Int)
def oNo:FO:=fun _=>some none
def oAt(f:FE): FO:=fun ρ =>(f ρ).bind fun d=>match d with
 | .int i=>some (some i)
 | _=>none
def tDO(K:Frag)(f:FO): TO:=fun σ H Q=>∃F0 H0 F ρ i,RS K F0 H0 F H σ ρ /\ f ρ = some i/\∀F' H',Grow F H F' H'->Q i H'
theorem qg5{o:Option Expr}{t t':TO}(h:PO X o t)(i:∀ σ H Q,t' σ H Q->t σ H Q): PO X o t':=fun pins s σ H Q I q=>h pins s σ H Q I (i σ H Q q)
theorem qi4:PO X none (tDO X.K oNo):=qg5 qk0 fun σ H Q ⟨F0,H0,F, ρ,i,r,hf,q⟩=>by cases hf;exact q F H (.refl r.fh)
theorem qi5(h:PE X e (tD X.K f)): PO X (some e) (tDO X.K (oAt f)):=qg5 (qk1 h) fun σ H Q ⟨F0,H0,F, ρ,i,r,hf,q⟩=>by
 obtain⟨d,h1,h2⟩:=g9.mp hf;cases d <;> simp only at h2 <;> first|(cases h2;done)|skip
 cases h2;exact⟨F0,H0,F, ρ,_,r,h1,fun v F' H' g' r'=>⟨_,rep_int.mp r',q F' H' g'⟩⟩
def eSl(f:FE)(lo hi:FO): FE:=fun ρ =>(f ρ).bind fun d=>(lo ρ).bind fun l=>(hi ρ).bind fun h=>oSl d l h
theorem qi6{a:Expr}{lo hi:Option Expr}{fl fh:FO}{p2:Pos}(ha:PE X a (tD X.K f))(hl:PO X lo (tDO X.K fl))(hh:PO X hi (tDO X.K fh)): PE X (.Subscript a (.Slice lo hi none p2) pos) (tD X.K (eSl f fl fh)):=
 zc (qhn (sl_list.or (sl_tup.or qi3)) ha hl hh) fun σ H Q ⟨F0,H0,F, ρ,d,r,hf,q⟩=>by
  obtain⟨x,h1,hf⟩:=g9.mp hf;obtain⟨l,h2,hf⟩:=g9.mp hf;obtain⟨u,h3,h4⟩:=g9.mp hf;refine⟨F0,H0,F, ρ,x,r,h1,fun v F1 H1 g1 r1=>⟨F0,H0,F1, ρ,l,r.grow g1,h2,fun F2 H2 g2=>⟨F0,H0,F2, ρ,u,(r.grow g1).grow g2,h3,fun F3 H3 g3=>?_⟩⟩⟩;have gg:=g1.trans (g2.trans g3);have r3:Rep X.K F3 x v:=r1.mono (g2.ff.trans g3.ff);cases x with
  | tup ds=>
   cases h4;obtain⟨p,xs,rfl,k1,k2⟩:=rep_tup.mp r3;have hlen:=k2.length
   by_cases wh:HT.sIx xs.length 0 l=0/\HT.sIx xs.length xs.length u=xs.length
   ·refine .inr (.inr ⟨p,xs,rfl,qx g3.fh k1,wh.1,wh.2,q _ F3 H3 gg ?_⟩)
    have e:cutD ds l u=ds:=by
     unfold cutD;rw [hlen,wh.1,wh.2,g2c,Nat.sub_zero, <- hlen,List.take_length]
    rw [e];exact r3
   ·refine .inr (.inl ⟨p,xs,rfl,qx g3.fh k1,wh,fun p' hp=>?_⟩)
    have gn:Grow F3 H3 (upd F3 p' (.tup (q17 xs l u))) (upd H3 p' (.tup (q17 xs l u))):=Grow.new g3.fh hp;refine q _ _ _ (gg.trans gn) (rep_tup.mpr ⟨p',_,rfl,SqT.of qv,?_⟩);unfold cutD q17;rw [hlen];exact((k2.mono gn.ff).drop _).take _
  | lst ds=>
   cases h4;obtain⟨p,xs,rfl,k1,k2⟩:=rep_lst.mp r3;have hlen:=k2.length;refine .inl ⟨p,xs,rfl,g3.fh.seq k1,fun p' hp=>?_⟩;have gn:Grow F3 H3 (upd F3 p' (.lst (q17 xs l u))) (upd H3 p' (.lst (q17 xs l u))):=Grow.new g3.fh hp;refine q _ _ _ (gg.trans gn) (rep_lst.mpr ⟨p',_,rfl,SqL.of qv,?_⟩);unfold cutD q17;rw [hlen];exact((k2.mono gn.ff).drop _).take _
  | _=>cases h4
def qb2:D->D->Option D
 | .tup xs,.tup ys=>if xs.length+ys.length<=lim then some (.tup (xs++ys)) else none
 | .lst xs,.lst ys=>if xs.length+ys.length<=lim then some (.lst (xs++ys)) else none
 | _,_=>none
theorem qms:OpR X (binaryOp .Add) (rD X.K qb2):=by
 intro pins s σ H x y v u Q I rx ry h;obtain⟨F,d1,d2,d,fh,r1,r2,ho,q⟩:=h;unfold qb2 at ho
 split at ho
 ·rename_i ds es
  split at ho
  ·rename_i hl
   cases ho;obtain⟨a,xs,rfl,k1,k2⟩:=rep_tup.mp r1;obtain⟨b,ys,rfl,k3,k4⟩:=rep_tup.mp r2
   by_cases hd:ds=[]
   ·subst hd
    cases k2.nil_inv;cases rx;cases ry;obtain⟨i1,v1,⟨⟨c1,dd1,dt1,sl1⟩,o1,e1,n1,t1⟩,_⟩:=I.tuple (qx fh k1);obtain⟨i2,v2,⟨⟨c2,dd2,dt2,sl2⟩,o2,e2,n2,t2⟩,_⟩:=I.tuple (qx fh k3);simp only at e1 t1 e2 t2;subst e1 t1 e2 t2;cases v1;exact g1u ⟨_,o1,rfl⟩ ⟨_,o2,rfl⟩ g1v seq_tuple_add g0m g0h (g0d _ _)
     (tuple_addW0 a b #[] i2.toArray n1 n2 dd1 dd2 sl1 sl2 rfl) ⟨o1,o2,⟨.ref b,H,I,rfl,q _ F H (.refl fh) (by simpa using r2)⟩⟩
   ·refine qk2 pins s σ H _ _ v u Q I rx ry ⟨a,b,xs,ys,rfl,rfl,qx fh k1,qx fh k3,fun z=>hd ?_,yp (by rw [<- k2.length, <- k4.length];exact hl),fun z=>?_,fun z p hp=>?_⟩
    ·have:=k2.length;rw [z] at this;exact g15 this
    ·have e:es=[]:=by have:=k4.length;rw [z] at this;exact g15 this
     subst e;rw [mz] at q;exact q _ F H (.refl fh) r1
    ·have gn:Grow F H (upd F p (.tup (xs++ys))) (upd H p (.tup (xs++ys))):=Grow.new fh hp
     exact q _ _ _ gn (rep_tup.mpr ⟨p,_,rfl,SqT.of qv,(k2.mono gn.ff).append (k4.mono gn.ff)⟩)
  ·cases ho
 ·rename_i ds es
  split at ho
  ·rename_i hl
   cases ho;obtain⟨a,xs,rfl,k1,k2⟩:=rep_lst.mp r1;obtain⟨b,ys,rfl,k3,k4⟩:=rep_lst.mp r2;cases rx;cases ry;obtain⟨i1,v1,⟨⟨c1,dd1,dt1,sl1⟩,n1,o1,e1,g1,t1⟩,_⟩:=I.list (fh.seq k1);obtain⟨i2,v2,⟨⟨c2,dd2,dt2,sl2⟩,n2,o2,e2,g2,t2⟩,_⟩:=I.list (fh.seq k3);simp only at e1 t1 e2 t2;subst e1 t1 e2 t2;have hz:xs.length+ys.length<=sizeLine:=yp (by rw [<- k2.length, <- k4.length];exact hl);refine g1u ⟨_,o1,rfl⟩ ⟨_,o2,rfl⟩ noFill_list_add seq_list_add PySem.F.slot_list_add PySem.F.entry_list_add (PySem.F.args_list_add_2 _ _)
    (list_addW a b i1.toArray i2.toArray n1 n2 dd1 dd2 sl1 sl2 (by rw [gp,gp, <- v1.length, <- v2.length];exact hz)) ⟨o1,o2,?_⟩
   have ea:i1.toArray++i2.toArray=(i1++i2).toArray:=by simp
   rw [ea];have gn:Grow F H (upd F s.heap.objs.size (.lst (xs++ys))) (upd H s.heap.objs.size (.lst (xs++ys))):=Grow.new fh I.fresh;exact⟨.ref _,_,I.lnew (t':=s.toks) (v1.append v2) (by rw [mq];exact hz),rfl,q _ _ _ gn (rep_lst.mpr ⟨_,_,rfl,SqL.of qv,(k2.mono gn.ff).append (k4.mono gn.ff)⟩)⟩
  ·cases ho
 ·cases ho
abbrev jy:D->D->Option D:=fun x y=>(oAdd x y).or (qb2 x y)
theorem xi:OpR X (binaryOp .Add) (rD X.K jy):=qap qml qms
def flat(d:D): Bool:=(flD d).isSome
def eqF:D->D->Bool
 | .non,.non=>true
 | .bl a,.bl b=>a==b
 | .bl a,.int b=>(if a then 1 else 0)==b
 | .int a,.bl b=>a==(if b then 1 else 0)
 | .int a,.int b=>a==b
 | .str a,.str b=>a==b
 | _,_=>false
def inF(d:D)(ds:List D): Bool:=ds.any fun e=>eqF e d
theorem qa6{K:Frag}{H:Hp}{d e:D}{x y:V}(h1:flat d=true)(h2:flat e=true)(r1:Rep K H d x)(r2:Rep K H e y): eqV x y=eqF d e/\wd x=true/\wd y=true:=by
 cases d <;> first|(cases h1;done)|skip
 all_goals (cases e <;> first|(cases h2;done)|skip)
 all_goals (first|(cases rep_non.mp r1)|(cases rep_bl.mp r1)|(cases rep_int.mp r1)|(cases rep_str.mp r1))
 all_goals (first|(cases rep_non.mp r2)|(cases rep_bl.mp r2)|(cases rep_int.mp r2)|(cases rep_str.mp r2))
 all_goals exact⟨rfl,rfl,rfl⟩
theorem qei{K:Frag}{H:Hp}{d:D}{x:V}(h1:flat d=true)(r1:Rep K H d x): ∀ {ds:List D} {xs:List V},ds.all flat=true->RepL K H ds xs->inV x xs=inF d ds/\wd x=true/\xs.all wd=true
 | [],xs,_,r=>by cases r.nil_inv;exact⟨rfl,(qa6 h1 h1 r1 r1).2.1,rfl⟩
 | e :: ds,xs,h2,r=>by
  obtain⟨y,ys,rfl,k1,k2⟩:=r.cons_inv;rw [g0o,m7] at h2;obtain⟨z1,z2,z3⟩:=qei h1 r1 h2.2 k2;obtain⟨w1,w2,w3⟩:=qa6 h2.1 h1 k1 r1;refine⟨?_,z2,?_⟩
  ·show(eqV y x || inV x ys)=(eqF e d || inF d ds)
   rw [w1,z1]
  ·rw [g0o,w2,z3];rfl
def oIn(neg:Bool): D->D->Option D
 | d,.tup ds=>if flat d&&ds.all flat then some (.bl (if neg then !inF d ds else inF d ds)) else none
 | d,.lst ds=>if flat d&&ds.all flat then some (.bl (if neg then !inF d ds else inF d ds)) else none
 | _,_=>none
theorem qji{K:Frag}{neg:Bool}{x y:V}{H:Hp}{Q:VK}(h:rD K (oIn neg) x y H Q): rIn K neg x y H Q:=by
 obtain⟨F,d1,d2,d,fh,r1,r2,ho,q⟩:=h;cases d2 <;> simp only [oIn] at ho <;> first|(cases ho;done)|skip
 ·split at ho
  ·rename_i hc
   cases ho;rw [m7] at hc;obtain⟨p,xs,rfl,k1,k2⟩:=rep_tup.mp r2;obtain⟨z1,z2,z3⟩:=qei hc.1 r1 hc.2 k2;exact⟨p,xs,rfl,.inr (qx fh k1),z2,z3,by rw [z1];exact q _ F H (.refl fh) (rep_bl.mpr rfl)⟩
  ·cases ho
 ·split at ho
  ·rename_i hc
   cases ho;rw [m7] at hc;obtain⟨p,xs,rfl,k1,k2⟩:=rep_lst.mp r2;obtain⟨z1,z2,z3⟩:=qei hc.1 r1 hc.2 k2;exact⟨p,xs,rfl,.inl (fh.seq k1),z2,z3,by rw [z1];exact q _ F H (.refl fh) (rep_bl.mpr rfl)⟩
  ·cases ho
theorem qos:OpR X (compareOp .In) (rD X.K (oIn false)):=q0i qfq fun x y H Q h=>qji h
theorem qi7:OpR X (compareOp .NotIn) (rD X.K (oIn true)):=q0i qan fun x y H Q h=>qji h
end
mutual
def eqD:D->D->Bool
 | .tup ds,.tup es=>eqL ds es
 | .lst ds,.lst es=>eqL ds es
 | d,e=>eqF d e
def eqL:List D->List D->Bool
 | [],[]=>true
 | d :: ds,e :: es=>eqD d e&&eqL ds es
 | _,_=>false
end
mutual
def okE:D->D->Bool
 | .tup ds,.tup es=>yx ds es
 | .lst ds,.lst es=>yx ds es
 | d,e=>flat d&&flat e
def yx:List D->List D->Bool
 | d :: ds,e :: es=>okE d e&&yx ds es
 | _,_=>true
end
mutual
def q6g:D->Nat
 | .tup ds=>ku ds+1
 | .lst ds=>ku ds+1
 | _=>0
def ku:List D->Nat
 | []=>0
 | d :: ds=>max (q6g d) (ku ds)
end
def eqJ(ds es:List D)(j:Nat): Bool:=match ds[j]?,es[j]? with
 | some d,some e=>eqD d e
 | _,_=>true
theorem yy:∀(ds es:List D),((List.range (min ds.length es.length)).all (eqJ ds es)&&ds.length==es.length)=eqL ds es
 | [],[]=>by simp [eqL]
 | [],e :: es=>by simp [eqL]
 | d :: ds,[]=>by simp [eqL]
 | d :: ds,e :: es=>by
  have ih:=yy ds es;have e1:min (d :: ds).length (e :: es).length=min ds.length es.length+1:=by simp only [ml];lia
  rw [e1,g29,g0o,g0z];have e2:(eqJ (d :: ds) (e :: es) ∘ Nat.succ)=eqJ ds es:=by funext j;simp [eqJ]
  have e3:eqJ (d :: ds) (e :: es) 0=eqD d e:=by simp [eqJ]
  have e4:((d :: ds).length==(e :: es).length)=(ds.length==es.length):=by simp
  rw [e2,e3,e4,Bool.and_assoc,ih];simp only [eqL]
theorem qb3{d e:D}(h1:flat d=true)(h2:flat e=true): eqD d e=eqF d e:=by
 cases d <;> first|(cases h1;done)|skip
 all_goals (cases e <;> first|(cases h2;done)|skip)
 all_goals simp only [eqD]
section
variable{X:Cx}{pins:List (Addr×Obj)}{σ : St}{F H:Hp}{s:Shared}
theorem qg6{A:Around}{d e:D}{x y:V}{u v:Value}(h1:flat d=true)(h2:flat e=true)(r1:Rep X.K F d x)(r2:Rep X.K F e y)(q1:RelV x u)(q2:RelV y v): SeqAt.EqAt A s u v (eqD d e):=by
 obtain⟨z1,z2,z3⟩:=qa6 h1 h2 r1 r2;rw [qb3 h1 h2, <- z1];exact qfo q1 q2 z2 z3
theorem qb4{d e:D}(h:okE d e=true): (∃ds es,d=.tup ds/\e=.tup es/\yx ds es=true)\/(∃ds es,d=.lst ds/\e=.lst es/\yx ds es=true)\/(flat d=true/\flat e=true):=by
 cases d <;> cases e <;> simp only [okE,m7] at h <;> first
  | exact .inl ⟨_,_,rfl,rfl,h⟩
  | exact .inr (.inl ⟨_,_,rfl,rfl,h⟩)
  | exact .inr (.inr h)
theorem qdj(I:Inv X pins σ H s)(fh:Same F H): ∀ {d e:D} {x:V},okE d e=true->Rep X.K F d x->Rep X.K F e x->eqD d e=true:=by
 suffices hh:∀n,(∀d e x,sizeOf d<n->okE d e=true->Rep X.K F d x->Rep X.K F e x->eqD d e=true) from fun {d e x}=>hh (sizeOf d+1) d e x (g0q _)
 intro n
 induction n with
 | zero=>intro d e x h;exact absurd h (uh _)
 | succ n ih=>
  intro d e x hn ok r1 r2;have seq:∀(ds es:List D) (xs:List V),sizeOf ds<n->yx ds es=true->RepL X.K F ds xs->RepL X.K F es xs->eqL ds es=true:=by
   intro ds
   induction ds with
   | nil=>
    intro es xs _ _ k1 k2;cases k1.nil_inv;cases es with
    | nil=>simp only [eqL]
    | cons e es=>obtain⟨_,_,z,_⟩:=k2.cons_inv;cases z
   | cons d ds ihd=>
    intro es xs hs ho k1 k2;obtain⟨x,r,rfl,a1,a2⟩:=k1.cons_inv;cases es with
    | nil=>cases k2.nil_inv
    | cons e es=>
     obtain⟨x',r',z,b1,b2⟩:=k2.cons_inv;cases z;simp only [yx,m7] at ho;have hs1:sizeOf d<n:=by simp only [uy] at hs;lia
     have hs2:sizeOf ds<n:=by simp only [uy] at hs;lia
     simp only [eqL,m7];exact⟨ih d e x hs1 ho.1 a1 b1,ihd es r hs2 ho.2 a2 b2⟩
  rcases qb4 ok with⟨ds,es,rfl,rfl,ho⟩|⟨ds,es,rfl,rfl,ho⟩|⟨h1,h2⟩
  ·obtain⟨a,xs,rfl,k1,k2⟩:=rep_tup.mp r1
   obtain⟨b,ys,z,k3,k4⟩:=rep_tup.mp r2;cases z;cases I.tuple_inj (qx fh k1) (qx fh k3);simp only [eqD];exact seq ds es xs (by simp only [D.tup.sizeOf_spec] at hn;lia) ho k2 k4
  ·obtain⟨a,xs,rfl,k1,k2⟩:=rep_lst.mp r1
   obtain⟨b,ys,z,k3,k4⟩:=rep_lst.mp r2;cases z;cases I.list_inj (fh.seq k1) (fh.seq k3);simp only [eqD];exact seq ds es xs (by simp only [D.lst.sizeOf_spec] at hn;lia) ho k2 k4
  ·obtain⟨z1,_⟩:=qa6 h1 h2 r1 r2
   rw [qb3 h1 h2, <- z1];cases d <;> first|(cases h1;done)|skip
   ·cases rep_non.mp r1;rfl
   ·cases rep_bl.mp r1;simp [eqV]
   ·cases rep_int.mp r1;simp [eqV]
   ·cases rep_str.mp r1;simp [eqV]
theorem qmt (I:Inv X pins σ H s) (fh:Same F H):∀ {d e:D} {x y:V} {u v:Value} (A:Around),okE d e=true->A.units+q6g d<cLine->Rep X.K F d x->Rep X.K F e y->RelV x u->RelV y v->SeqAt.EqAt A s u v (eqD d e):=by
 suffices hh:∀n,(∀d e x y u v (A:Around),sizeOf d<n->okE d e=true->A.units+q6g d<cLine->Rep X.K F d x->Rep X.K F e y->RelV x u->RelV y v->SeqAt.EqAt A s u v (eqD d e)) from
  fun {d e x y u v} A=>hh (sizeOf d+1) d e x y u v A (g0q _)
 intro n
 induction n with
 | zero=>intro d e x y u v A h;exact absurd h (uh _)
 | succ n ih=>
  intro d e x y u v A hn ok hu r1 r2 q1 q2;have seq:∀(ds es:List D) (xs ys:List V) (us vs:List Value) (A:Around),sizeOf ds<n->yx ds es=true->A.units+ku ds<cLine->RepL X.K F ds xs->RepL X.K F es ys->Vals xs us->Vals ys vs ->
    ∀j (h1:j<us.length) (h2:j<vs.length),SeqAt.EqAt A s us[j] vs[j] (eqJ ds es j):=by
   intro ds
   induction ds with
   | nil=>
    intro es xs ys us vs A _ _ _ k1 _ w1 _ j h1;cases k1.nil_inv;cases w1;exact absurd h1 (uh _)
   | cons d ds ihd=>
    intro es xs ys us vs A hs ho hu k1 k2 w1 w2 j h1 h2;obtain⟨x,r,rfl,a1,a2⟩:=k1.cons_inv;cases w1 with
    | cons p1 p2=>
     cases es with
     | nil=>cases k2.nil_inv;cases w2;exact absurd h2 (uh _)
     | cons e es=>
      obtain⟨y,r',rfl,b1,b2⟩:=k2.cons_inv;cases w2 with
      | cons p3 p4=>
       simp only [yx,m7] at ho;have hs1:sizeOf d<n:=by simp only [uy] at hs;lia
       have hs2:sizeOf ds<n:=by simp only [uy] at hs;lia
       simp only [ku] at hu;cases j with
       | zero=>
        have e0:eqJ (d :: ds) (e :: es) 0=eqD d e:=by simp [eqJ]
        rw [e0];exact ih d e x y _ _ A hs1 ho.1 (by lia) a1 b1 p1 p3
       | succ j=>
        have e0:eqJ (d :: ds) (e :: es) (j+1)=eqJ ds es j:=by simp [eqJ]
        rw [e0];exact ihd es r r' _ _ A hs2 ho.2 (by lia) a2 b2 p2 p4 j (by simpa using h1) (by simpa using h2)
  rcases qb4 ok with⟨ds,es,rfl,rfl,ho⟩|⟨ds,es,rfl,rfl,ho⟩|⟨h1,h2⟩
  ·have rr:=qdj I fh ok r1
   obtain⟨a,xs,rfl,k1,k2⟩:=rep_tup.mp r1;obtain⟨b,ys,rfl,k3,k4⟩:=rep_tup.mp r2;cases q1;cases q2
   by_cases hab:a=b
   ·subst hab
    rw [rr r2];exact g23 _
   ·obtain⟨i1,v1,t1,_⟩:=I.tuple (qx fh k1)
    obtain⟨i2,v2,t2,_⟩:=I.tuple (qx fh k3);simp only [q6g] at hu;refine SeqAt.EqAt.of_refs hab ?_;have hq:=seq ds es xs ys i1 i2 A.in1 (by simp only [D.tup.sizeOf_spec] at hn;lia) ho (by show A.units+1+ku ds<cLine;lia) k2 k4 v1 v2;have:=SeqAt.RcAt.tuples (A:=A) (e:=eqJ ds es) (show s.heap.IsTuple a i1.toArray from t1) (show s.heap.IsTuple b i2.toArray from t2) (by lia) (fun j h1 h2=>by simpa using hq j (by simpa using h1) (by simpa using h2));simp only [gp, <- v1.length, <- v2.length, <- k2.length, <- k4.length,yy] at this
    simpa only [eqD] using this
  ·have rr:=qdj I fh ok r1
   obtain⟨a,xs,rfl,k1,k2⟩:=rep_lst.mp r1;obtain⟨b,ys,rfl,k3,k4⟩:=rep_lst.mp r2;cases q1;cases q2
   by_cases hab:a=b
   ·subst hab
    rw [rr r2];exact g23 _
   ·obtain⟨i1,v1,t1,_⟩:=I.list (fh.seq k1)
    obtain⟨i2,v2,t2,_⟩:=I.list (fh.seq k3);simp only [q6g] at hu;refine SeqAt.EqAt.of_refs hab ?_;have hq:=seq ds es xs ys i1 i2 A.in1 (by simp only [D.lst.sizeOf_spec] at hn;lia) ho (by show A.units+1+ku ds<cLine;lia) k2 k4 v1 v2;have hl1:i1.length=ds.length:=by rw [<- v1.length, <- k2.length]
    have hl2:i2.length=es.length:=by rw [<- v2.length, <- k4.length]
    simp only [eqD]
    by_cases hl:ds.length=es.length
    ·have:=SeqAt.RcAt.lists (A:=A) (e:=eqJ ds es) t1.isList t2.isList (by rw [gp,gp,hl1,hl2];exact hl) (by lia) (fun j h1 h2=>by simpa using hq j (by simpa using h1) (by simpa using h2))
     have e1:(List.range i1.toArray.size).all (eqJ ds es)=eqL ds es:=by
      rw [<- yy,gp,hl1, <- hl,Nat.min_self];simp
     rw [e1] at this;exact this
    ·have e1:eqL ds es=false:=by rw [<- yy];simp [hl]
     rw [e1];exact SeqAt.RcAt.lists_lengths t1.isList t2.isList (by rw [gp,gp,hl1,hl2];simpa using hl) (by lia)
  ·exact qg6 h1 h2 r1 r2 q1 q2
def qi8:D->D->Option D
 | .tup ds,.tup es=>if yx ds es&&decide (ku ds<=60) then some (.bl (eqL ds es)) else none
 | .lst ds,.lst es=>if yx ds es&&decide (ku ds<=60) then some (.bl (eqL ds es)) else none
 | _,_=>none
theorem qmu(hu:X.A.units+64<cLine): OpR X (compareOp .Eq) (rD X.K qi8):=by
 intro pins s σ H x y v u Q I rx ry h;obtain⟨F,d1,d2,d,fh,r1,r2,ho,q⟩:=h;have part:∀ {ds es:List D} {xs ys:List V} {us vs:List Value},yx ds es=true->ku ds<=60->RepL X.K F ds xs->RepL X.K F es ys->Vals xs us->Vals ys vs ->
   ∀j (h1:j<us.length) (h2:j<vs.length),SeqAt.EqAt X.A.in1 s us[j] vs[j] (eqJ ds es j):=by
  intro ds
  induction ds with
  | nil=>
   intro es xs ys us vs _ _ k1 _ w1 _ j h1;cases k1.nil_inv;cases w1;exact absurd h1 (uh _)
  | cons d ds ihd=>
   intro es xs ys us vs ho hd k1 k2 w1 w2 j h1 h2;obtain⟨x,r,rfl,a1,a2⟩:=k1.cons_inv;cases w1 with
   | cons p1 p2=>
    cases es with
    | nil=>cases k2.nil_inv;cases w2;exact absurd h2 (uh _)
    | cons e es=>
     obtain⟨y,r',rfl,b1,b2⟩:=k2.cons_inv;cases w2 with
     | cons p3 p4=>
      simp only [yx,m7] at ho;simp only [ku] at hd;cases j with
      | zero=>
       have e0:eqJ (d :: ds) (e :: es) 0=eqD d e:=by simp [eqJ]
       rw [e0];exact qmt I fh _ ho.1 (by show X.A.units+1+q6g d<cLine;lia) a1 b1 p1 p3
      | succ j=>
       have e0:eqJ (d :: ds) (e :: es) (j+1)=eqJ ds es j:=by simp [eqJ]
       rw [e0];exact ihd ho.2 (by lia) a2 b2 p2 p4 j (by simpa using h1) (by simpa using h2)
 unfold qi8 at ho
 split at ho
 ·rename_i ds es
  split at ho
  ·rename_i hc
   cases ho;rw [m7] at hc;obtain⟨a,xs,rfl,k1,k2⟩:=rep_tup.mp r1;obtain⟨b,ys,rfl,k3,k4⟩:=rep_tup.mp r2;cases rx;cases ry;obtain⟨i1,v1,t1,_⟩:=I.tuple (qx fh k1);obtain⟨i2,v2,t2,_⟩:=I.tuple (qx fh k3);have hq:=part hc.1 (g0j hc.2) k2 k4 v1 v2;refine SeqAt.eq_tupleAt (e:=eqJ ds es) (show s.heap.IsTuple a i1.toArray from t1) (show s.heap.IsTuple b i2.toArray from t2) (by lia) (fun j h1 h2=>by simpa using hq j (by simpa using h1) (by simpa using h2)) ?_;simp only [gp, <- v1.length, <- v2.length, <- k2.length, <- k4.length,yy];exact⟨.bl _,H,I,rfl,q _ F H (.refl fh) (rep_bl.mpr rfl)⟩
  ·cases ho
 ·rename_i ds es
  split at ho
  ·rename_i hc
   cases ho;rw [m7] at hc;obtain⟨a,xs,rfl,k1,k2⟩:=rep_lst.mp r1;obtain⟨b,ys,rfl,k3,k4⟩:=rep_lst.mp r2;cases rx;cases ry;obtain⟨i1,v1,t1,_⟩:=I.list (fh.seq k1);obtain⟨i2,v2,t2,_⟩:=I.list (fh.seq k3);have hq:=part hc.1 (g0j hc.2) k2 k4 v1 v2;have hl1:i1.length=ds.length:=by rw [<- v1.length, <- k2.length]
   have hl2:i2.length=es.length:=by rw [<- v2.length, <- k4.length]
   by_cases hl:ds.length=es.length
   ·refine SeqAt.eq_listAt (e:=eqJ ds es) t1.isList t2.isList (by rw [gp,gp,hl1,hl2];exact hl) (by lia) (fun j h1 h2=>by simpa using hq j (by simpa using h1) (by simpa using h2)) ?_
    have e1:(List.range i1.toArray.size).all (eqJ ds es)=eqL ds es:=by
     rw [<- yy,gp,hl1, <- hl,Nat.min_self];simp
    rw [e1];exact⟨.bl _,H,I,rfl,q _ F H (.refl fh) (rep_bl.mpr rfl)⟩
   ·have e1:eqL ds es=false:=by rw [<- yy];simp [hl]
    rw [e1] at q;exact SeqAt.eq_list_lengthsAt t1.isList t2.isList (by rw [gp,gp,hl1,hl2];simpa using hl) (by lia) ⟨.bl _,H,I,rfl,q _ F H (.refl fh) (rep_bl.mpr rfl)⟩
  ·cases ho
 ·cases ho
abbrev oEq:D->D->Option D:=fun x y=>(qhy x y).or (qi8 x y)
theorem q0p(hu:X.A.units+64<cLine): OpR X (compareOp .Eq) (rD X.K oEq):=qap qmn (qmu hu)
end
def itN:Bool->String
 | true=>"list_iterator"
 | false=>"tuple_iterator"
def sqN:Bool->String
 | true=>"list"
 | false=>"tuple"
def SI(b:Bool)(h:Heap)(it l:Addr)(k:Nat): Prop:=∃o,h.get? it=some o/\o.cls=.type (itN b)/\o.data=.fields #[.ref l,.int k 0]
def SO(b:Bool)(h:Heap)(l:Addr)(xs:Array Value): Prop:=∃o,h.get? l=some o/\o.cls=.type (sqN b)/\∃n,o.data=.seq xs n
theorem SI.ext{b:Bool}{h h':Heap}{it l c:Addr}{k:Nat}(x:SI b h it l k)(e:Heap.ExtBut c h h')(n:it≠c): SI b h' it l k:=let⟨o,ho,r⟩:=x; ⟨o,e it o n ho,r⟩
theorem SO.ext{b:Bool}{h h':Heap}{l c:Addr}{xs:Array Value}(x:SO b h l xs)(e:Heap.ExtBut c h h')(n:l≠c): SO b h' l xs:=let⟨o,ho,r⟩:=x; ⟨o,e l o n ho,r⟩
theorem SI.keep{b:Bool}{h h':Heap}{it l:Addr}{k:Nat}(x:SI b h it l k)(e:∀o,h.get? it=some o->h'.get? it=some o): SI b h' it l k:=let⟨o,ho,r⟩:=x; ⟨o,e o ho,r⟩
section
variable{prog:Program}{w:World}{A:Around}{E:Value->Shared->Prop}{s:Shared}
theorem q7z{b:Bool}{it l:Addr}{k:Nat}{xs:Array Value}{x:Value}{Q:Value->Shared->Prop}(hi:SI b s.heap it l k)(ho:SO b s.heap l xs)(hx:xs[k]? = some x)
  (h:∀h',SI b h' it l (k+1)->Heap.SameBut it s.heap h'->Q x {s with heap:=h'}):wpAny (model prog w) A (Builtin.SmallTypes.nextOf (.ref it)) Q E s:=by
 cases b with
 | true=>exact wpAny_nextOf_list_item hi ho hx h
 | false=>
  obtain⟨o,e1,e2,e3⟩:=id hi;obtain⟨o2,f1,f2,n,f3⟩:=id ho;have ty:s.TypeIs (.ref it) "tuple_iterator" :=⟨o,e1,e2⟩
  unfold Builtin.SmallTypes.nextOf;refine g6 (p5 (name:=Str.ofString "__next__") ty t4 (tw t4 ty g1i ?_ (g1d _)));show wpAny _ _ (field (.ref it) 0 >>= _) _ _ s;refine g6 (n8 e1 e3 (x:=.ref l) rfl ?_);show wpAny _ _ (if(Value.ref l==Value.none)=true then _ else _) _ _ s;rw [m4 (fun z:(Value.ref l==Value.none)=true=>gq z)];show wpAny _ _ (field (.ref it) 1 >>= _) _ _ s;refine g6 (n8 e1 e3 (x:=.int k 0) rfl ?_);show wpAny _ _ (seqItems? (.ref l) >>= _) _ _ s;refine g6 (pb f1 f3 ?_);simp only [um,hx];refine g6 (uz e1 e3 (by simp) (gi ⟨x,rfl,gi (h _ ⟨_,pw _ e1 (g00 (ph e3 _)),(Obj.cls_mapFields ..).trans e2,?_⟩ (Heap.SameBut.update ..))⟩));rw [ph e3];simp [rawInt]
theorem qdk{b:Bool}{it l:Addr}{k:Nat}{xs:Array Value}{Q:Value->Shared->Prop}(hh:A.handled=none)(hi:SI b s.heap it l k)(ho:SO b s.heap l xs)(hx:xs[k]? = none)
  (h:∀h' e,Heap.ExtBut it s.heap h'->(∃o,h'.get? e=some o/\o.cls=.type "StopIteration")->E (.ref e) {s with heap:=h'}):wpAny (model prog w) A (Builtin.SmallTypes.nextOf (.ref it)) Q E s:=by
 cases b with
 | true=>exact wpAny_nextOf_list_end hh hi ho hx h
 | false=>
  obtain⟨o,e1,e2,e3⟩:=id hi;obtain⟨o2,f1,f2,n,f3⟩:=id ho;have ty:s.TypeIs (.ref it) "tuple_iterator" :=⟨o,e1,e2⟩
  unfold Builtin.SmallTypes.nextOf;refine g6 (p5 (name:=Str.ofString "__next__") ty t4 (tw t4 ty g1i ?_ (g1d _)));show wpAny _ _ (field (.ref it) 0 >>= _) _ _ s;refine g6 (n8 e1 e3 (x:=.ref l) rfl ?_);show wpAny _ _ (if(Value.ref l==Value.none)=true then _ else _) _ _ s;rw [m4 (fun z:(Value.ref l==Value.none)=true=>gq z)];show wpAny _ _ (field (.ref it) 1 >>= _) _ _ s;refine g6 (n8 e1 e3 (x:=.int k 0) rfl ?_);show wpAny _ _ (seqItems? (.ref l) >>= _) _ _ s;refine g6 (pb f1 f3 ?_);simp only [um,hx];refine g6 (g0y (g6 (uz e1 e3 (by simp) ?_)));show wpAny _ _ (newExc (.type "StopIteration") [] >>= _) _ _ _;refine g6 ?_;simp only [newExc,newTuple];refine g6 (nu (g6 (m:=firstArgMember _ _) (wpAny_of_eq (a:=Value.none) (by first|rfl|(simp only [firstArgMember];rfl)) (nu ?_ (by size_fits)))) (by size_fits));simp only [raiseNew];refine g6 (wpAny_handled ?_)
  first|rw [show A.in1.handled=none from hh]|rw [hh]
  exact g6 (gi (wpAny_throw (h _ _ (((Heap.SameBut.update ..).extBut.push _).push _) ⟨_,m3 _ rfl,rfl⟩)))
structure Z5(z ti to i1 i2:Addr): Prop where
 a1:ti≠z
 a2:to≠z
 a3:i1≠z
 a4:i2≠z
 a5:ti≠to
 a6:ti≠i1
 a7:ti≠i2
 a8:to≠i1
 a9:to≠i2
 a10:i1≠i2
structure Off(l z to i1 i2:Addr): Prop where
 z:l≠z
 o:l≠to
 i:l≠i1
 j:l≠i2
theorem qg7{b1 b2:Bool}{z ti to i1 i2 l1 l2:Addr}{k1 k2:Nat}{xs ys:Array Value}{x y p q:Value}{Q:Value->Shared->Prop}(D:Z5 z ti to i1 i2)(m1:Off l1 z to i1 i2)(m2:Off l2 z to i1 i2)
  (hz:IsZip s.heap z ti to .none) (ht:IsPair s.heap ti (.ref i1) (.ref i2)) (hp:IsPair s.heap to p q)
  (h1:SI b1 s.heap i1 l1 k1) (h2:SI b2 s.heap i2 l2 k2) (o1:SO b1 s.heap l1 xs) (o2:SO b2 s.heap l2 ys) (hx:xs[k1]? = some x) (hy:ys[k2]? = some y)
  (hQ:∀h',IsZip h' z ti to (rawInt s.heap.objs.size)->IsPair h' to x y->SI b1 h' i1 l1 (k1+1)->SI b2 h' i2 l2 (k2+1)->IsPair h' s.heap.objs.size x y->h'.objs.size=s.heap.objs.size+1 ->
   (∀c o,c≠z->c≠to->c≠i1->c≠i2->s.heap.get? c=some o->h'.get? c=some o)->Q (.ref s.heap.objs.size) {s with heap:=h'}) :
  wpAny (model prog w) A (Builtin.«zip.__next__» ⟨[.ref z],[]⟩) (fun fin s'=>∃v,fin=.done (.ret v)/\Q v s') E s:=by
 show wpAny _ _ (field (.ref z) 2 >>= _) _ _ _;refine g6 (n8 hz rfl (x:=.bool false) rfl ?_);show wpAny _ _ (field (.ref z) 3 >>= _) _ _ _;refine g6 (n8 hz rfl (x:=.ref ti) rfl (g6 (pb ht rfl ?_)));show wpAny _ _ (Builtin.SmallTypes.ownedTupleIsFree (.ref z) >>= _) _ _ _;refine g6 ?_;unfold Builtin.SmallTypes.ownedTupleIsFree;refine g6 (n8 hz rfl (x:=.none) rfl (gi ?_));simp only [nv];refine g6 (g0y (g6 (n8 hz rfl (x:=.ref to) rfl (g6 (pj hz (by simp) fun g1 hz1 u1=>?_)))));have hz1':IsZip g1 z ti to .ellipsis:=hz1;refine g6 ?_;simp only [List.zipIdx_cons,List.zipIdx_nil,g09,g1e];refine g6 (g6 (g1p ?_));show wpAny _ _ (Builtin.SmallTypes.nextOf (.ref i1) >>= _) _ _ _;refine g6 (q7z (h1.ext u1.extBut D.a3) (o1.ext u1.extBut m1.z) hx fun g2 n1 u2=>gi ?_);have hp2:IsPair g2 to p q:=u2.extBut _ _ D.a8 (u1.extBut _ _ D.a2 hp);refine g6 (pb hp2 rfl (g6 (g10 hp2 fun g3 hp3 u3=>?_)));have hp3':IsPair g3 to x q:=hp3;refine g6 (wpAny_letGo (gi (g6 (g6 (g1p ?_)))));show wpAny _ _ (Builtin.SmallTypes.nextOf (.ref i2) >>= _) _ _ _;refine g6 (q7z (((h2.ext u1.extBut D.a4).ext u2.extBut D.a10.symm).ext u3.extBut D.a9.symm) (((o2.ext u1.extBut m2.z).ext u2.extBut m2.i).ext u3.extBut m2.o) hy fun g4 n2 u4=>gi ?_);have hp4:IsPair g4 to x q:=u4.extBut _ _ D.a9 hp3';refine g6 (pb hp4 rfl (g6 (g10 hp4 fun g5 hp5 u5=>?_)));have hp5':IsPair g5 to x y:=hp5;refine g6 (wpAny_letGo (gi (gi (g6 (pb hp5' rfl (g6 (wpAny_newTuple ?_)))))));have hsz:g5.objs.size=s.heap.objs.size:=by rw [u5.1,u4.1,u3.1,u2.1,u1.1]
 have hz5:IsZip g5 z ti to .ellipsis:=u5.extBut _ _ D.a2.symm (u4.extBut _ _ D.a4.symm (u3.extBut _ _ D.a2.symm (u2.extBut _ _ D.a3.symm hz1')));have kp:∀c o,c≠z->c≠to->c≠i1->c≠i2->s.heap.get? c=some o->g5.get? c=some o:=fun c o c1 c2 c3 c4 e=>u5.extBut _ _ c2 (u4.extBut _ _ c4 (u3.extBut _ _ c2 (u2.extBut _ _ c3 (u1.extBut _ _ c1 e))));have j1:SI b1 g5 i1 l1 (k1+1):=((n1.ext u3.extBut D.a8.symm).ext u4.extBut D.a10).ext u5.extBut D.a8.symm;have j2:SI b2 g5 i2 l2 (k2+1):=n2.ext u5.extBut D.a9.symm;have hzl:z<g5.objs.size:=gs hz5;show wpAny _ _ (Builtin.SmallTypes.ownedTupleHandOut (.ref z) (.ref g5.objs.size) >>= _) _ _ _;refine g6 ?_;unfold Builtin.SmallTypes.ownedTupleHandOut;have hz6:IsZip (g5.push {cls:=.type "tuple",data:=.seq #[x,y]}) z ti to .ellipsis:=gh _ hz5;refine g6 (pj hz6 (by simp) fun g7 hz7 u7=>?_);have hz7':IsZip g7 z ti to (rawInt g5.objs.size):=hz7;refine pj hz7' (by simp) fun g8 hz8 u8=>?_;have hz8':IsZip g8 z ti to (rawInt g5.objs.size):=hz8;have up:∀c o,c≠z->g5.get? c=some o->g8.get? c=some o:=fun c o c1 e=>u8.extBut _ _ c1 (u7.extBut _ _ c1 (gh _ e));have hT:IsPair g8 g5.objs.size x y:=u8.extBut _ _ (td hzl) (u7.extBut _ _ (td hzl) (m3 _ rfl));have hl8:g8.objs.size=g5.objs.size+1:=by rw [u8.1,u7.1,nk]
 rw [hsz] at hz8' hT hl8;refine gi ⟨_,rfl,?_⟩;show Q (.ref g5.objs.size) _;rw [hsz];exact hQ g8 hz8' (up _ _ D.a2 hp5') (j1.keep fun o e=>up _ o D.a3 e) (j2.keep fun o e=>up _ o D.a4 e) hT hl8 fun c o c1 c2 c3 c4 e=>up c o c1 (kp c o c1 c2 c3 c4 e)
theorem qi9{b1 b2:Bool}{z ti to i1 i2 l1 l2:Addr}{k1 k2:Nat}{xs ys:Array Value}{p q:Value}{Q:Fin->Shared->Prop}(hh:A.handled=none)(D:Z5 z ti to i1 i2)(m1:Off l1 z to i1 i2)(m2:Off l2 z to i1 i2)
  (hz:IsZip s.heap z ti to .none) (ht:IsPair s.heap ti (.ref i1) (.ref i2)) (hp:IsPair s.heap to p q)
  (h1:SI b1 s.heap i1 l1 k1) (h2:SI b2 s.heap i2 l2 k2) (o1:SO b1 s.heap l1 xs) (o2:SO b2 s.heap l2 ys) (hend:xs[k1]? = none\/ys[k2]? = none)
  (hE:∀h' e,(∀c o,c≠z->c≠to->c≠i1->c≠i2->s.heap.get? c=some o->h'.get? c=some o)->(∃o,h'.get? e=some o/\o.cls=.type "StopIteration")->E (.ref e) {s with heap:=h'}) :
  wpAny (model prog w) A (Builtin.«zip.__next__» ⟨[.ref z],[]⟩) Q E s:=by
 show wpAny _ _ (field (.ref z) 2 >>= _) _ _ _;refine g6 (n8 hz rfl (x:=.bool false) rfl ?_);show wpAny _ _ (field (.ref z) 3 >>= _) _ _ _;refine g6 (n8 hz rfl (x:=.ref ti) rfl (g6 (pb ht rfl ?_)));show wpAny _ _ (Builtin.SmallTypes.ownedTupleIsFree (.ref z) >>= _) _ _ _;refine g6 ?_;unfold Builtin.SmallTypes.ownedTupleIsFree;refine g6 (n8 hz rfl (x:=.none) rfl (gi ?_));simp only [nv];refine g6 (g0y (g6 (n8 hz rfl (x:=.ref to) rfl (g6 (pj hz (by simp) fun g1 hz1 u1=>?_)))));have hz1':IsZip g1 z ti to .ellipsis:=hz1;refine g6 ?_;simp only [List.zipIdx_cons,List.zipIdx_nil,g09,g1e];refine g6 (g6 (g1p ?_));show wpAny _ _ (Builtin.SmallTypes.nextOf (.ref i1) >>= _) _ _ _;cases hx:xs[k1]? with
 | none=>
  refine g6 (qdk hh (h1.ext u1.extBut D.a3) (o1.ext u1.extBut m1.z) hx fun g2 e u2 he=>?_);obtain⟨oe,y1,y2⟩:=he;have hz2:IsZip g2 z ti to .ellipsis:=u2 _ _ D.a3.symm hz1';have ne:e≠z:=fun x=>by subst x;rw [hz2] at y1;cases y1;simp at y2
  exact pj hz2 (by simp) fun g3 _ u3=>hE g3 e (fun c o c1 _ c3 _ x=>u3.extBut _ _ c1 (u2 _ _ c3 (u1.extBut _ _ c1 x))) ⟨oe,u3.extBut _ _ ne y1,y2⟩
 | some x=>
  have hy:ys[k2]? = none:=by rcases hend with h|h;rw [hx] at h;cases h;exact h
  refine g6 (q7z (h1.ext u1.extBut D.a3) (o1.ext u1.extBut m1.z) hx fun g2 n1 u2=>gi ?_);have hp2:IsPair g2 to p q:=u2.extBut _ _ D.a8 (u1.extBut _ _ D.a2 hp);refine g6 (pb hp2 rfl (g6 (g10 hp2 fun g3 hp3 u3=>?_)));refine g6 (wpAny_letGo (gi (g6 (g6 (g1p ?_)))));show wpAny _ _ (Builtin.SmallTypes.nextOf (.ref i2) >>= _) _ _ _;refine g6 (qdk hh (((h2.ext u1.extBut D.a4).ext u2.extBut D.a10.symm).ext u3.extBut D.a9.symm) (((o2.ext u1.extBut m2.z).ext u2.extBut m2.i).ext u3.extBut m2.o) hy fun g4 e u4 he=>?_);obtain⟨oe,y1,y2⟩:=he;have hz4:IsZip g4 z ti to .ellipsis:=u4 _ _ D.a4.symm (u3.extBut _ _ D.a2.symm (u2.extBut _ _ D.a3.symm hz1'));have ne:e≠z:=fun x=>by subst x;rw [hz4] at y1;cases y1;simp at y2
  exact pj hz4 (by simp) fun g5 _ u5=>hE g5 e (fun c o c1 c2 c3 c4 x=>u5.extBut _ _ c1 (u4 _ _ c4 (u3.extBut _ _ c2 (u2.extBut _ _ c3 (u1.extBut _ _ c1 x))))) ⟨oe,u5.extBut _ _ ne y1,y2⟩
theorem qej{b1 b2:Bool}{z ti to i1 i2 l1 l2:Addr}{k1 k2:Nat}{xs ys:Array Value}{x y p q:Value}{Q:Option Value->Shared->Prop}(D:Z5 z ti to i1 i2)(m1:Off l1 z to i1 i2)(m2:Off l2 z to i1 i2)
  (hz:IsZip s.heap z ti to .none) (ht:IsPair s.heap ti (.ref i1) (.ref i2)) (hp:IsPair s.heap to p q)
  (h1:SI b1 s.heap i1 l1 k1) (h2:SI b2 s.heap i2 l2 k2) (o1:SO b1 s.heap l1 xs) (o2:SO b2 s.heap l2 ys) (hx:xs[k1]? = some x) (hy:ys[k2]? = some y)
  (hQ:∀h',IsZip h' z ti to (rawInt s.heap.objs.size)->IsPair h' to x y->SI b1 h' i1 l1 (k1+1)->SI b2 h' i2 l2 (k2+1)->IsPair h' s.heap.objs.size x y->h'.objs.size=s.heap.objs.size+1 ->
   (∀c o,c≠z->c≠to->c≠i1->c≠i2->s.heap.get? c=some o->h'.get? c=some o)->Q (some (.ref s.heap.objs.size)) {s with heap:=h'}) :
  wpAny (model prog w) A (pyNext (.ref z)) Q E s:=by
 have ty:s.TypeIs (.ref z) "zip" :=⟨_,hz,rfl⟩
 unfold pyNext;exact g6 (g0p (p5 (name:=Str.ofString "__next__") ty g11 (tw g11 ty F.entry_zip_next
  (qg7 D m1 m2 hz ht hp h1 h2 o1 o2 hx hy fun h' c1 c2 c3 c4 c5 c6 c7=>gi (hQ h' c1 c2 c3 c4 c5 c6 c7)) (F.args_zip_next_1 _))))
theorem q9m{b1 b2:Bool}{z ti to i1 i2 l1 l2:Addr}{k1 k2:Nat}{xs ys:Array Value}{p q:Value}{Q:Option Value->Shared->Prop}(hh:A.handled=none)(D:Z5 z ti to i1 i2)(m1:Off l1 z to i1 i2)(m2:Off l2 z to i1 i2)
  (hz:IsZip s.heap z ti to .none) (ht:IsPair s.heap ti (.ref i1) (.ref i2)) (hp:IsPair s.heap to p q)
  (h1:SI b1 s.heap i1 l1 k1) (h2:SI b2 s.heap i2 l2 k2) (o1:SO b1 s.heap l1 xs) (o2:SO b2 s.heap l2 ys) (hend:xs[k1]? = none\/ys[k2]? = none)
  (hQ:∀h',(∀c o,c≠z->c≠to->c≠i1->c≠i2->s.heap.get? c=some o->h'.get? c=some o)->Q none {s with heap:=h'}):wpAny (model prog w) A (pyNext (.ref z)) Q E s:=by
 have ty:s.TypeIs (.ref z) "zip" :=⟨_,hz,rfl⟩
 unfold pyNext;refine g6 (g0p (p5 (name:=Str.ofString "__next__") ty g11 (tw g11 ty F.entry_zip_next
  (qi9 hh D m1 m2 hz ht hp h1 h2 o1 o2 hend fun h' e hk he=>?_) (F.args_zip_next_1 _))))
 obtain⟨o,y1,y2⟩:=he;exact g6 (wpAny_isInstance (T:="StopIteration") (b:=true) ⟨o,y1,y2⟩ isSubtype_stop (gi (hQ _ hk)))
theorem q92{b:Bool}{l:Addr}{xs:Array Value}{Q:Value->Shared->Prop}(h:SO b s.heap l xs)(q:Q (.ref s.heap.objs.size) {s with heap:=s.heap.push {cls:=.type (itN b),data:=.fields #[.ref l,.int 0 0]} }):
  wpAny (model prog w) A (pyIter (.ref l)) Q E s:=by
 cases b with
 | true=>exact g0k h q
 | false=>exact wpAny_pyIter_tuple h q
end
def zh1(b1:Bool)(h:Heap)(l1:Addr): Heap:=h.push {cls:=.type (itN b1),data:=.fields #[.ref l1,.int 0 0]}
def zh2(b1 b2:Bool)(h:Heap)(l1 l2:Addr): Heap:=(zh1 b1 h l1).push {cls:=.type (itN b2),data:=.fields #[.ref l2,.int 0 0]}
def zh3(b1 b2:Bool)(h:Heap)(l1 l2:Addr): Heap:=(zh2 b1 b2 h l1 l2).push {cls:=.type "tuple",data:=.seq #[.ref h.objs.size,.ref (zh1 b1 h l1).objs.size]}
def zh4(b1 b2:Bool)(h:Heap)(l1 l2:Addr): Heap:=(zh3 b1 b2 h l1 l2).push {cls:=.type "tuple",data:=.seq #[.none,.none]}
def zh5(b1 b2:Bool)(h:Heap)(l1 l2:Addr): Heap:=(zh4 b1 b2 h l1 l2).push {cls:=.type "zip",data:=.fields #[.none,.bool false,.bool false,.ref (zh2 b1 b2 h l1 l2).objs.size,.ref (zh3 b1 b2 h l1 l2).objs.size]}
theorem SO.push{b:Bool}{h:Heap}{l:Addr}{xs:Array Value}(x:SO b h l xs)(o:Obj): SO b (h.push o) l xs:=let⟨u,e,r⟩:=x; ⟨u,gh _ e,r⟩
theorem qek(b1 b2:Bool)(l1 l2:Addr)(xs ys:Array Value):
  Meets (Builtin.«zip.__new__» ⟨[.type "zip",.ref l1,.ref l2],[]⟩) (fun _ R s=>SO b1 s.heap l1 xs/\SO b2 s.heap l2 ys/\R (.ok (.ret (.ref (zh4 b1 b2 s.heap l1 l2).objs.size))) {s with heap:=zh5 b1 b2 s.heap l1 l2}):=
 .of_wp fun prog w A R s h=>by
  obtain⟨hp,gg,dd,tk,os⟩:=s;obtain⟨ha,hb,h⟩:=h;have hsub:=sub_zip;have f1:SO b1 (Shared.heap ⟨hp,gg,dd,tk,os⟩) l1 xs:=ha;have f2:SO b2 (Shared.heap ⟨hp.push {cls:=.type (itN b1),data:=.fields #[.ref l1,.int 0 0]},gg,dd,tk,os⟩) l2 ys:=SO.push hb _
  wp_walk using q92 f1,q92 f2
  exact⟨_,rfl,h⟩
section
variable{X:Cx}{pins:List (Addr×Obj)}{σ : St}{H:Hp}{s:Shared}{h':Heap}
theorem qdl{fp:List Addr}{t':Nat}(I:Inv X pins σ H s)(hf:∀b∈fp,v9 X pins H b)(k:∀b o,b∉fp->s.heap.get? b=some o->h'.get? b=some o): Inv X pins σ H {s with heap:=h',toks:=t'}:=by
 have nin:∀b u,H b=some u->b∉fp:=fun b u e hb=>by rw [(hf b hb).1] at e;cases e
 refine I.step (g':=s.gens) (d':=s.drawn) (ch:=fp) (fun b hb=>?_) (fun b o _ _ hc e _=>k b o hc e) (fun b o _ _ hc e _=>⟨o.slots,k b o hc e⟩) (fun _ _ _ _ n=>n)
  (fun b o hc e=>⟨o,k b o hc e⟩) (fun _ _ e=>e) (fun _ _ _ e=>e) (fun b ps e=>⟨#[],by rw [e];simp⟩) (fun m hm=>?_) (fun b u e=>?_) I.bare
 ·obtain⟨_,f1,_,f3,f4,f5⟩:=hf b hb
  exact⟨f3,f1,f4,f5⟩
 ·obtain⟨o,es,ep,ho,r⟩:=hm
  exact⟨o,es,ep,k _ o (fun z=>(hf _ z).2.1 rfl) ho,r⟩
 ·refine(I.hok b u e).stay (fun c v hc q=>k c v ?_ q) (fun _ q=>q) fun _ _ q=>q
  rcases hc with z|z
  ·rw [z];exact nin b u e
  ·exact nin c _ z
theorem adopt{p:Addr}{o:HO}(I:Inv X pins σ H s)(f:v9 X pins H p)(new:ObjOk X.prog X.w (upd H p o) s.heap p o): Inv X pins σ (upd H p o) s:=by
 have hp:=f.1;obtain⟨_,f1,_,f3,f4,f5⟩:=f;have ne:∀ {b:Addr} {u:HO},H b=some u->upd H p o b=some u:=fun {b u} e=>by rw [qo (je e hp)];exact e
 refine I.step (h':=s.heap) (g':=s.gens) (t':=s.toks) (d':=s.drawn) (ch:=[p]) (fun b hb=>?_) (fun b o _ _ hc e _=>e) (fun b o _ _ hc e _=>⟨o.slots,e⟩) (fun b o hc e n=>?_)
  (fun b o hc e=>⟨o,e⟩) (fun _ _ e=>ne e) (fun _ _ _ e=>ne e) (fun b ps e=>⟨#[],by rw [ne e];simp⟩) (fun m hm=>hm) (fun b u e=>?_) I.bare
 ·obtain rfl:b=p:=by simpa using hb
  exact⟨f3,f1,f4,f5⟩
 ·rw [qo (fun z=>hc (by simp [z]))];exact n
 ·by_cases hb:b=p
  ·subst hb;rw [qv] at e;cases e;exact new
  ·rw [qo hb] at e
   exact(I.hok b u e).stay (fun c v _ q=>q) (fun c q=>ne q) fun c xs q=>ne q
def Sq:Bool->Frag->Hp->Addr->List V->Prop
 | true=>SqL
 | false=>SqT
theorem q5l{b:Bool}{a:Addr}{xs:List V}(I:Inv X pins σ H s)(h:Sq b X.K H a xs): ∃its:List Value,Vals xs its/\SO b s.heap a its.toArray:=by
 cases b with
 | true=>obtain⟨its,r,⟨o,n,e,c,_,d⟩,_⟩:=I.list h;exact⟨its,r,o,e,c,n,d⟩
 | false=>obtain⟨its,r,⟨o,e,c,n,d⟩,_⟩:=I.tuple h;exact⟨its,r,o,e,c,n,d⟩
theorem qg8{b:Bool}{a:Addr}{xs ys:List V}(I:Inv X pins σ H s)(h:Sq b X.K H a xs)(h':Sq b X.K H a ys): xs=ys:=by
 cases b with
 | true=>exact I.list_inj h h'
 | false=>exact I.tuple_inj h h'
theorem q01{b:Bool}{K:Frag}{F H:Hp}{a:Addr}{xs:List V}(e:Same F H)(h:Sq b K F a xs): Sq b K H a xs:=by
 cases b with
 | true=>exact e.seq h
 | false=>exact qx e h
theorem q12{b:Bool}{a c:Addr}{xs:List V}(I:Inv X pins σ H s)(h:Sq b X.K H a xs)(f:v9 X pins H c): a≠c:=by
 obtain⟨f0,f1,f2,f3,_⟩:=f;have inK:∀ {o:Obj},X.K.lookup a=some o->a≠c:=fun {o} hk z=>by
  subst z;have hb:X.base.get? a=some o:=I.mod.kin a o hk;rcases f3 with q|q
  ·exact I.ok.noex a o hb q
  ·exact absurd (gy (gs hb) (md I.ok.bsz q)) (ny _)
 have trk:∀ {u:HO},H a=some u->a≠c:=fun {u} e z=>by subst z;rw [f0] at e;cases e
 cases b with
 | true=>
  rcases h with(h|⟨o,h⟩)|⟨o,its,n,hk,_⟩
  ·exact trk h
  ·exact trk h
  ·exact inK hk
 | false=>
  rcases h with(h|⟨o,h⟩)|⟨o,its,n,hk,_⟩
  ·exact trk h
  ·exact trk h
  ·exact inK hk
end
def Itz(K:Frag)(b1:Bool)(a1:Addr)(b2:Bool)(a2:Addr): It:=
 ⟨fun i H=>∃xs ys x y,Sq b1 K H a1 xs/\Sq b2 K H a2 ys/\xs[i]? = some x/\ys[i]? = some y,
  fun i H v H'=>∃p x y,H p=none/\(∀xs,Sq b1 K H a1 xs->xs[i]? = some x)/\(∀ys,Sq b2 K H a2 ys->ys[i]? = some y)/\v=.ref p/\H'=upd H p (.tup [x,y]),
  fun i H=>∃xs ys,Sq b1 K H a1 xs/\Sq b2 K H a2 ys/\(xs.length<=i\/ys.length<=i)⟩
theorem qia{P:Program}{w:World}{K:Frag}{elts:List Expr}{x1}{tp:Pos}{b1 b2:Bool}{a1 a2 z ti to i1 i2:Addr}(D:Z5 z ti to i1 i2):
  Turn P w K (.Tuple elts x1 tp) (Itz K b1 a1 b2 a2) [z,ti,to,i1,i2] z
   (fun i h=>IsZip h z ti to .none/\IsPair h ti (.ref i1) (.ref i2)/\(∃p q,IsPair h to p q)/\SI b1 h i1 a1 i/\SI b2 h i2 a2 i) where
 mem:=by simp
 obj:=fun i h ⟨c1,c2,⟨p,q,c3⟩,⟨o4,c4,_,d4⟩,⟨o5,c5,_,d5⟩⟩ b hb=>by
  simp only [mf,pd,uk] at hb;rcases hb with rfl|rfl|rfl|rfl|rfl
  ·exact⟨_,c1,fun v z=>by cases z⟩
  ·exact⟨_,c2,fun v z=>by cases z⟩
  ·exact⟨_,c3,fun v z=>by cases z⟩
  ·exact⟨_,c4,fun v z=>by rw [d4] at z;cases z⟩
  ·exact⟨_,c5,fun v z=>by rw [d5] at z;cases z⟩
 keep:=fun i h h' ⟨c1,c2,⟨p,q,c3⟩,c4,c5⟩ k=>⟨k _ (by simp) _ c1,k _ (by simp) _ c2,⟨p,q,k _ (by simp) _ c3⟩,c4.keep fun o e=>k _ (by simp) o e,c5.keep fun o e=>k _ (by simp) o e⟩
 item:=by
  intro X hP hw hK hc i pins s σ H E I hf st hg;subst hP hw hK;obtain⟨xs,ys,x,y,q1,q2,hx,hy⟩:=hg;obtain⟨its1,v1,o1⟩:=q5l I q1;obtain⟨its2,v2,o2⟩:=q5l I q2;obtain⟨u1,hu1,ru1⟩:=v1.get hx;obtain⟨u2,hu2,ru2⟩:=v2.get hy;obtain⟨c1,c2,⟨p,q,c3⟩,c4,c5⟩:=st;have off:∀ {b:Bool} {a:Addr} {ws:List V},Sq b X.K H a ws->Off a z to i1 i2:=fun h=>⟨q12 I h (hf _ (by simp)),q12 I h (hf _ (by simp)),q12 I h (hf _ (by simp)),q12 I h (hf _ (by simp))⟩
  refine qej D (off q1) (off q2) c1 c2 c3 c4 c5 o1 o2 (x:=u1) (y:=u2) (by simpa using hu1) (by simpa using hu2) fun g n1 n2 n3 n4 n5 n6 n7=>?_;refine⟨_,rfl,wpAny_letOwnedTupleGo_zip n1 fun g2 m1 sb=>?_⟩;have hsz:z<s.heap.objs.size:=gs c1;have kp:∀c o,c∉[z,ti,to,i1,i2]->s.heap.get? c=some o->g2.get? c=some o:=fun c o hc e=>by
   simp only [mf,pd,uk,not_or] at hc;exact sb.extBut _ _ hc.1 (n7 c o hc.1 hc.2.2.1 hc.2.2.2.1 hc.2.2.2.2 e)
  have I1:Inv X pins σ H {s with heap:=g2}:=qdl (t':=s.toks) I hf kp;have fp:v9 X pins H s.heap.objs.size:=I.fpOk (gv _) I.fresh;have hT:IsPair g2 s.heap.objs.size u1 u2:=sb.extBut _ _ (td hsz) n5;have I2:Inv X pins σ (upd H s.heap.objs.size (.tup [x,y])) {s with heap:=g2}:=
   adopt I1 fp ⟨by show 2<=sizeLine;decide,[u1,u2],.cons ru1 (.cons ru2 .nil),⟨_,hT,rfl,rfl,_,rfl⟩⟩
  refine⟨.ref s.heap.objs.size,_,I2,rfl,⟨_,x,y,I.fresh,fun ws h=>?_,fun ws h=>?_,rfl,rfl⟩,⟨m1,?_,⟨u1,u2,sb.extBut _ _ D.a2 n2⟩,n3.ext sb.extBut D.a3,n4.ext sb.extBut D.a4⟩,fun b hb=>?_⟩
  ·rw [qg8 I h q1];exact hx
  ·rw [qg8 I h q2];exact hy
  ·exact sb.extBut _ _ D.a1 (n7 _ _ D.a1 D.a5 D.a6 D.a7 c2)
  ·have hb0:=(hf b hb).1
   have:b≠s.heap.objs.size:=by
    simp only [mf,pd,uk] at hb;rcases hb with rfl|rfl|rfl|rfl|rfl
    ·exact ma hsz
    ·exact ma (gs c2)
    ·exact ma (gs c3)
    ·obtain⟨_,e,_⟩:=c4;exact ma (gs e)
    ·obtain⟨_,e,_⟩:=c5;exact ma (gs e)
   rw [qo this];exact hb0
 done:=by
  intro X hP hw hK hc i pins s σ H E I hf st hg;subst hP hw hK;obtain⟨xs,ys,q1,q2,hend⟩:=hg;obtain⟨its1,v1,o1⟩:=q5l I q1;obtain⟨its2,v2,o2⟩:=q5l I q2;obtain⟨c1,c2,⟨p,q,c3⟩,c4,c5⟩:=st;have off:∀ {b:Bool} {a:Addr} {ws:List V},Sq b X.K H a ws->Off a z to i1 i2:=fun h=>⟨q12 I h (hf _ (by simp)),q12 I h (hf _ (by simp)),q12 I h (hf _ (by simp)),q12 I h (hf _ (by simp))⟩
  refine q9m (I.ok.hd hc) D (off q1) (off q2) c1 c2 c3 c4 c5 o1 o2 ?_ fun g n7=>⟨rfl,qdl (t':=s.toks) I hf fun c o hc e=>?_⟩
  ·have l1:=v1.length
   have l2:=v2.length;rcases hend with h|h
   ·exact .inl (by simp;lia)
   ·exact .inr (by simp;lia)
  ·simp only [mf,pd,uk,not_or] at hc
   exact n7 c o hc.1 hc.2.2.1 hc.2.2.2.1 hc.2.2.2.2 e
 self:=fun A i s Q E st h=>wpAny_pyIter_zip st.1 h
def yz(xs ys:List D): List D:=List.zipWith (fun a b=>.tup [a,b]) xs ys
theorem qkc{K:Frag}{F:Hp}{b1 b2:Bool}{a1 a2:Addr}{xs ys:List V}{ds es:List D}(h1:Sq b1 K F a1 xs)(h2:Sq b2 K F a2 ys)(r1:RepL K F ds xs)(r2:RepL K F es ys): ItD K F (yz ds es) (Itz K b1 a1 b2 a2) where
 go:=fun i F' H s1 s2 hi=>by
  have hi':i<ds.length/\i<es.length:=by unfold yz at hi;rw [g19] at hi;lia
  exact⟨xs,ys,xs[i]'(by rw [<- r1.length];exact hi'.1),ys[i]'(by rw [<- r2.length];exact hi'.2),q01 (s1.trans s2) h1,q01 (s1.trans s2) h2,by simp,by simp⟩
 yld:=fun i d F' H x H' s1 s2 hi ⟨p,x1,y1,hp,q1,q2,e1,e2⟩=>by
  subst e1 e2;unfold yz at hi;rw [g2d] at hi;cases z1:ds[i]? with
  | none=>rw [z1] at hi;cases hi
  | some d1=>
   cases z2:es[i]? with
   | none=>rw [z1,z2] at hi;cases hi
   | some d2=>
    rw [z1,z2] at hi;cases hi;obtain⟨v1,k1,k2⟩:=r1.get z1;obtain⟨v2,k3,k4⟩:=r2.get z2;have w1:=q1 xs (q01 (s1.trans s2) h1);have w2:=q2 ys (q01 (s1.trans s2) h2);rw [k1] at w1;cases w1;rw [k3] at w2;cases w2;have gn:Grow F' H (upd F' p (.tup [x1,y1])) (upd H p (.tup [x1,y1])):=Grow.new s2 hp;exact⟨_,gn,rep_tup.mpr ⟨p,_,rfl,SqT.of qv,.cons ((k2.mono s1).mono gn.ff) (.cons ((k4.mono s1).mono gn.ff) .nil)⟩⟩
 stop:=fun i F' H s1 s2 hi=>by
  unfold yz at hi;rw [g19] at hi;refine⟨xs,ys,q01 (s1.trans s2) h1,q01 (s1.trans s2) h2,?_⟩;rw [<- r1.length, <- r2.length];lia
section
variable{X:Cx}{pos:Pos}{elts:List Expr}{x1:Nat}{tp:Pos}
def qpp(K:Frag)(ta:TA): TI:=fun σ H R=>ta σ H fun vs H1=>∃b1 a1 xs b2 a2 ys,vs=[.ref a1,.ref a2]/\Sq b1 K H1 a1 xs/\Sq b2 K H1 a2 ys/\R (Itz K b1 a1 b2 a2) H1
theorem qg9:bootBuiltins "zip" = some (.type "zip"):=by decide +kernel
theorem qmv{a b:Expr}{ta:TA}{p:Pos}(hg:Gl X "zip")(hm:X.mg "zip" = none)(ha:PA X [a,b] ta)(hs:starEach [a,b] X.env=[(false,eval a X.env),(false,eval b X.env)]:=by rfl)(hs2:starEach [b] X.env=[(false,eval b X.env)]:=by rfl):
  PI X (.Tuple elts x1 tp) (.Call (.Name "zip" p) [a,b] [] pos) (qpp X.K ta):=by
 intro pins s σ H R I h;refine Call_ (q4e I hg hm qg9 (g02 (thn (ha pos pins s σ H _ I h) fun us s1 ⟨vs,H1,I1,r1,q1⟩=>?_) (by rw [hs,hs2]) (by rw [hs2];rfl)));obtain⟨b1,a1,xs,b2,a2,ys,rfl,k1,k2,q⟩:=q1;obtain⟨u1,u2,rfl,e1,e2⟩:=r1.two;cases e1;cases e2;obtain⟨its1,v1,o1⟩:=q5l I1 k1;obtain⟨its2,v2,o2⟩:=q5l I1 k2;refine callType_new F.called_zip (by decide) (F.typeCall_zip_2 _ _) (F.newCall_zip_2 _ _) (fun obj=>F.args_object_init_3 obj _ _) F.entry_zip_new (qek b1 b2 a1 a2 its1.toArray its2.toArray) ⟨o1,o2,?_⟩;have z1:(zh1 b1 s1.heap a1).objs.size=s1.heap.objs.size+1:=nk ..;have z2:(zh2 b1 b2 s1.heap a1 a2).objs.size=s1.heap.objs.size+2:=by unfold zh2;rw [nk,z1]
 have z3:(zh3 b1 b2 s1.heap a1 a2).objs.size=s1.heap.objs.size+3:=by unfold zh3;rw [nk,z2]
 have z4:(zh4 b1 b2 s1.heap a1 a2).objs.size=s1.heap.objs.size+4:=by unfold zh4;rw [nk,z3]
 have g5:(zh5 b1 b2 s1.heap a1 a2).get? (zh4 b1 b2 s1.heap a1 a2).objs.size=some {cls:=.type "zip",data:=.fields #[.none,.bool false,.bool false,.ref (zh2 b1 b2 s1.heap a1 a2).objs.size,.ref (zh3 b1 b2 s1.heap a1 a2).objs.size]}:=m3 _ rfl;have g4:(zh5 b1 b2 s1.heap a1 a2).get? (zh3 b1 b2 s1.heap a1 a2).objs.size=some {cls:=.type "tuple",data:=.seq #[.none,.none]}:=gh _ (m3 _ rfl);have g3:(zh5 b1 b2 s1.heap a1 a2).get? (zh2 b1 b2 s1.heap a1 a2).objs.size=some {cls:=.type "tuple",data:=.seq #[.ref s1.heap.objs.size,.ref (zh1 b1 s1.heap a1).objs.size]}:=gh _ (gh _ (m3 _ rfl));have g2:(zh5 b1 b2 s1.heap a1 a2).get? (zh1 b1 s1.heap a1).objs.size=some {cls:=.type (itN b2),data:=.fields #[.ref a2,.int 0 0]}:=gh _ (gh _ (gh _ (m3 _ rfl)));have g1:(zh5 b1 b2 s1.heap a1 a2).get? s1.heap.objs.size=some {cls:=.type (itN b1),data:=.fields #[.ref a1,.int 0 0]}:=gh _ (gh _ (gh _ (gh _ (m3 _ rfl))));have kp:∀c o,s1.heap.get? c=some o->(zh5 b1 b2 s1.heap a1 a2).get? c=some o:=fun c o e=>gh _ (gh _ (gh _ (gh _ (gh _ e))));have I2:Inv X pins σ H1 {s1 with heap:=zh5 b1 b2 s1.heap a1 a2}:=I1.kept (t':=s1.toks) kp;refine⟨⟨_,g5,rfl⟩,wpAny_pyIter_zip g5 ?_⟩;refine⟨_,_,_,_,H1,rfl,I2,qia (b1:=b1) (b2:=b2) (a1:=a1) (a2:=a2) (i1:=s1.heap.objs.size) (i2:=(zh1 b1 s1.heap a1).objs.size) ?_,⟨g5,g3,⟨_,_,g4⟩,⟨_,g1,rfl,rfl⟩,⟨_,g2,rfl,rfl⟩⟩,fun c hc=>?_,q⟩
 ·constructor <;> (first|exact ma (by lia)|exact td (by lia))
 ·have hge:s1.heap.objs.size<=c:=by
   simp only [mf,pd,uk] at hc;rcases hc with rfl|rfl|rfl|rfl|rfl <;> lia
  exact I1.fpOk hge (I1.hok.fresh hge)
def q80(fa:FA): FA:=fun ρ =>(fa ρ).bind fun ds=>match ds with
 | [x,y]=>(q24 x).bind fun xs=>(q24 y).map fun ys=>yz xs ys
 | _=>none
theorem qdm{K:Frag}{F:Hp}{d:D}{ds:List D}{v:V}(h:q24 d=some ds)(r:Rep K F d v): ∃b a xs,v=.ref a/\Sq b K F a xs/\RepL K F ds xs:=by
 cases d <;> simp only [q24] at h <;> first|(cases h;done)|skip
 ·cases h
  obtain⟨a,xs,rfl,h3,h4⟩:=rep_tup.mp r;exact⟨false,a,xs,rfl,h3,h4⟩
 ·cases h
  obtain⟨a,xs,rfl,h3,h4⟩:=rep_lst.mp r;exact⟨true,a,xs,rfl,h3,h4⟩
theorem qga{a b:Expr}{fa:FA}{p:Pos}(hg:Gl X "zip")(hm:X.mg "zip" = none)(ha:PA X [a,b] (tDA X.K fa))(hs:starEach [a,b] X.env=[(false,eval a X.env),(false,eval b X.env)]:=by rfl)(hs2:starEach [b] X.env=[(false,eval b X.env)]:=by rfl):
  PI X (.Tuple elts x1 tp) (.Call (.Name "zip" p) [a,b] [] pos) (tDI X.K (q80 fa)):=qav (qmv hg hm ha hs hs2) fun σ H R ⟨F0,H0,F, ρ,ds,r,hf,q⟩=>by
 obtain⟨es,h1,h2⟩:=g9.mp hf;refine⟨F0,H0,F, ρ,es,r,h1,fun vs F' H' g' r'=>?_⟩
 split at h2
 ·rename_i x y
  obtain⟨xs,k1,h2⟩:=g9.mp h2;obtain⟨ys,k2,h2⟩:=gj.mp h2;subst h2;obtain⟨v1,t,rfl,e1,e2⟩:=r'.cons_inv;obtain⟨v2,t2,rfl,e3,e4⟩:=e2.cons_inv;cases e4.nil_inv;obtain⟨b1,a1,us,rfl,s1,l1⟩:=qdm k1 e1;obtain⟨b2,a2,ws,rfl,s2,l2⟩:=qdm k2 e3;exact⟨b1,a1,us,b2,a2,ws,rfl,q01 g'.fh s1,q01 g'.fh s2,q _ F' H' g' (qkc s1 s2 l1 l2)⟩
 ·cases h2
end
section
variable{X:Cx}{e:Expr}{es:List Expr}{kws:List Keyword}{pos:Pos}{f g:FE}{fa fk:FA}
def qib(n m:Nat)(fa fk:FA): FA:=fun ρ =>(fa ρ).bind fun ds=>(fk ρ).bind fun es=>if ds.length=n/\es.length=m then some (ds++es) else none
theorem qjj{K:Frag}{fd:FuncData}{ps:List Str}{dv:List Value}(n:Nat)(hn:n+dv.length=ps.length)(h:∀(s:Shared) (us:List Value),K.In s.heap->us.length=n->BindsTo s fd ⟨us,[]⟩ (ps.zip (us++dv))): Binds K fd ps dv:=
 fun s us hk hl=>h s us hk (by rw [mq] at hl;omega)
def qel(ar:Nat)(op:List D->Option D): List D->Option D:=fun ds=>if ds.length=ar then op ds else none
end
structure Cal(P:Program)(w:World)(K:Frag)(mg:Str->Option Value)(base:Heap)(x:Str)(k:Nat)(ps:List Str)(ar:Nat)(op:List D->Option D)(fn:Addr)(fd:FuncData): Prop where
 ok:FnOk P w K mg base CX0 k fn fd ps (spD K ar op)
 mg:mg x=some (.ref fn)
 kp:PySem.W.keepIn K (.ref fn)=true
section
variable{X:Cx}{e:Expr}{es:List Expr}{kws:List Keyword}{pos p:Pos}{fa fk:FA}{k ar k':Nat}{fn:Addr}{fd:FuncData}{ps ks:List Str}{op:List D->Option D}{x:Str}
theorem za(C:Cal X.prog X.w X.K X.mg X.base x k ps ar op fn fd)(b:Binds X.K fd ps [])(hr:Room k' X.A)(hk:k<=k')(hg:Gl X x)(ha:PA X (e :: es) (tDA X.K fa))(hdb:(x==("__debug__" : Str))=false:=by decide)
  (he:starEach (e :: es) X.env=(false,eval e X.env) :: starEach es X.env:=by rfl) (hpl:(backTo pos (starEach es X.env)).any (·.1)=false:=by rfl):PE X (.Call (.Name x p) (e :: es) [] pos) (tD X.K (qj (qt ar [] op) fa)):=
 qk9 C.ok (hr.mono hk) hg C.mg C.kp b .nil (fun H=>.nil) ha hdb he hpl
theorem q3f{i:Int}(hg:Gl X x)(hm:∃t,X.mg x=some (.int i t))(hdb:(x==("__debug__" : Str))=false:=by decide): PE X (.Name x p) (tD X.K (eC (.int i))):=by
 obtain⟨t,hm⟩:=hm;exact q3o (q00 hg hm (v:=.int i) ⟨t,rfl⟩ hdb) fun _=>rep_int.mpr rfl
def qpq:D->Option D
 | .int i=>some (.int (-i))
 | _=>none
end
structure Fun2(K:Frag)(x qual:Str)(st:Stmt)(dV:Value)(f:Addr)(fd:FuncData): Prop where
 ex:∃(oc:Value) (od:Option Addr) (kV doc pm:Value) (an:Option Addr) (cdv ct:Value) (osl:Array (Option Value)),
  fd=PySem.W.fnOf x qual (jk st) (qr st) (qc st) dV kV doc pm an cdv ct/\K.lookup f=some ⟨oc,od,.func fd,osl⟩/\PySem.W.codeIn K cdv qual=true
 kp:PySem.W.keepIn K (.ref f)=true
section
variable{P:Program}{w:World}{K:Frag}{mg:Str->Option Value}{base:Heap}{x qual:Str}{st:Stmt}{dV:Value}{f:Addr}{fd:FuncData}{N ps:List Str}
theorem Fun2.ok{k:Nat}{u:FS}(F:Fun2 K x qual st dV f fd)(S:FnScope N ps (qc st))
  (hb:∀(cdv:Value) (A:Around) (outer:List Env) (s:Shared) (H:Hp) (E:XK),Room k (A.deeper (envOfC qual (qc st) s.heap.objs.size f cdv))->PSs (z7 CX0 P w K mg base N qual (qc st) f cdv A outer s H E).nox (qr st) (tDS K u)) :
  FnOk P w K mg base CX0 (k+1) f fd ps (spD K ps.length (zx N.length u)):=by
 obtain⟨oc,od,kV,doc,pm,an,cdv,ct,osl,rfl,lk,hcd⟩:=F.ex;exact qoq lk hcd S fun A outer s H E hr=>hb cdv A outer s H E hr
theorem Fun2.okn{k n ar k1:Nat}{u:FS}(F:Fun2 K x qual st dV f fd)(S:FnScope N ps (qc st))(hn:N.length=n)(ha:ps.length=ar)(hk:k+1=k1)
  (hb:∀(cdv:Value) (A:Around) (outer:List Env) (s:Shared) (H:Hp) (E:XK),Room k (A.deeper (envOfC qual (qc st) s.heap.objs.size f cdv))->PSs (z7 CX0 P w K mg base N qual (qc st) f cdv A outer s H E).nox (qr st) (tDS K u)) :
  FnOk P w K mg base CX0 k1 f fd ps (spD K ar (zx n u)):=by
 subst hn ha hk;exact F.ok S hb
theorem vd{oc:Value}{od an:Option Addr}{osl:Array (Option Value)}{kV doc pm cdv ct:Value}(l:K.lookup f=some ⟨oc,od,.func (PySem.W.fnOf x qual (jk st) (qr st) (qc st) dV kV doc pm an cdv ct),osl⟩)
  (c:PySem.W.codeIn K cdv qual=true) (k:PySem.W.keepIn K (.ref f)=true):Fun2 K x qual st dV f (PySem.W.fnOf x qual (jk st) (qr st) (qc st) dV kV doc pm an cdv ct):=⟨⟨oc,od,kV,doc,pm,an,cdv,ct,osl,rfl,l,c⟩,k⟩
theorem Fun2.bindsTo(F:Fun2 K x qual st dV f fd){P:FuncData->Prop}(h:∀(kV doc pm:Value) (an:Option Addr) (cdv ct:Value),P (PySem.W.fnOf x qual (jk st) (qr st) (qc st) dV kV doc pm an cdv ct)): P fd:=by
 obtain⟨oc,od,kV,doc,pm,an,cdv,ct,osl,rfl,lk,hcd⟩:=F.ex;exact h kV doc pm an cdv ct
end
def qa7(K:Frag): Sp:=fun vs H Q _=>∃(a:Addr) (ns:List Int) (F:Hp),vs=[.ref a]/\SameT F H/\SqL K F a (ns.map V.int)/\ns.length<=63/\∀H',Q (.bl true) H'
theorem qmw{P:Program}{w:World}{K:Frag}{mg:Str->Option Value}{base:Heap}{k:Nat}{f:Addr}{fd:FuncData}{x:Str}{op:List D->Option D}(F:FnOk P w K mg base CX0 k f fd [x] (spD K 1 op))(h:∀ns:List Int,ns.length<=63->op [.lst (ns.map .int)]=some (.bl true)):
  FnOk P w K mg base CX0 k f fd [x] (qa7 K):=F.imp fun vs H Q E ⟨a,ns,Fz,e,fz,hS,hl,q⟩=>by
 subst e;exact⟨Fz,[.lst (ns.map .int)],.bl true,fz,.cons (rep_lst.mpr ⟨a,_,rfl,hS,RepL.ints.mpr rfl⟩) .nil,rfl,h ns hl,fun v F' H' g' r'=>by rw [rep_bl.mp r'];exact q H'⟩
theorem qmx(ht:Lam.tab=[]){l:PySem.W.OpenLaw}{k:Nat}{x:Str}{q:Program}{loose:List Str}{XP:(Str->Option Value)->Heap->Prop}{YP:World->Heap->Prop}{d:DefRec}{K:Params->Frag}(hn:l.most=some 63)(hdf:d.params.defaults=[])(hk:Room k callerA)
  (hY:∀(w:World) (h:Heap),YP w h->(K w.params).In h)
  (F:∀(w:World) (mg:Str->Option Value) (fa:Addr) (h:Heap),(K w.params).In h->h.Ns mainGlobals mg->mg d.name=some (.ref fa) ->
   ∃fd:FuncData,(∀(s:Shared) (u:Value),BindsTo s fd ⟨[u],[]⟩ [(x,u)])/\∀base:Heap,(K w.params).In base->base.Ns mainGlobals mg->FnOk l.prog w (K w.params) mg base CX0 k fa fd [x] (qa7 (K w.params))) :
  PySem.W.WalkO q loose XP YP l.row.toRowW d [] (fun f vs=>PySem.call f vs):=
 L2.qk4 (n:=63) (k:=k) (x:=x) (CX:=fun _=>CX0) (sp:=fun w=>qa7 (K w.params)) hn (by decide) hdf hk hY F (fun _ H a ns hl _ hS=>⟨a,ns,H,rfl,⟨.refl _,fun p hp=>(by rw [ht] at hp;cases hp),fun p hp=>(by rw [ht] at hp;cases hp)⟩,hS,hl,fun _=>rfl⟩) fun _ _ _ _ _ z=>z
section
variable{X:Cx}{pos:Pos}{f g:FE}{a b:Expr}
abbrev oLt':=oLt
theorem q13:OpR X (compareOp .Lt) (rD X.K oLt'):=qol
end
section
variable{X:Cx}{pos:Pos}{f g k:FE}{a b c:Expr}
def q7d(o1 o2:D->D->Option D)(a b c:FE): FE:=fun ρ =>(a ρ).bind fun x=>(b ρ).bind fun y=>(o1 x y).bind fun r=>(isB r).bind fun q=>if q then(c ρ).bind fun z=>o2 y z else some (.bl false)
theorem qkd{o1 o2:D->D->Option D}{σ : St}{H:Hp}{Q:VK}(h:tD X.K (q7d o1 o2 f g k) σ H Q): qfh (rD X.K o1) (rD X.K o2) (tD X.K f) (tD X.K g) (tD X.K k) σ H Q:=by
 obtain⟨F0,H0,F, ρ,d,r,hf,q⟩:=h;obtain⟨x,e1,hf1⟩:=g9.mp hf;obtain⟨y,e2,hf2⟩:=g9.mp hf1;obtain⟨z,e3,hf3⟩:=g9.mp hf2;obtain⟨kq,e4,hf4⟩:=g9.mp hf3;refine⟨F0,H0,F, ρ,x,r,e1,fun v F1 H1 g1 r1=>⟨F0,H0,F1, ρ,y,r.grow g1,e2,fun u F2 H2 g2 r2=>⟨F2,x,y,z,g2.fh,r1.mono g2.ff,r2,e3,fun w F3 H3 g3 r3=>?_⟩⟩⟩;have ez:=q6e e4;subst ez;refine⟨kq,rep_bl.mp r3,?_⟩;cases kq with
 | false=>
  rw [m4 gq] at hf4 ⊢;cases hf4;exact q _ F3 H3 (g1.trans (g2.trans g3)) (rep_bl.mpr rfl)
 | true=>
  rw [gw rfl] at hf4 ⊢;obtain⟨zz,e5,e6⟩:=g9.mp hf4;exact⟨F0,H0,F3, ρ,zz,r.grow (g1.trans (g2.trans g3)),e5,fun w' F4 H4 g4 r4=>⟨F4,y,zz,d,g4.fh,(r2.mono g3.ff).mono g4.ff,r4,e6,fun w5 F5 H5 g5 r5=>q w5 F5 H5 ((g1.trans (g2.trans g3)).trans (g4.trans g5)) r5⟩⟩
theorem qic{op op':CmpOp}{o1 o2:D->D->Option D}(h1:OpR X (compareOp op) (rD X.K o1))(h2:OpR X (compareOp op') (rD X.K o2))(ha:PE X a (tD X.K f))(hb:PE X b (tD X.K g))(hc:PE X c (tD X.K k))
  (hm:lastMarks [op,op'] [b,c]=false:=by with_unfolding_all rfl):PE X (.Compare a [op,op'] [b,c] pos) (tD X.K (q7d o1 o2 f g k)):=
 zc (qhf h1 h2 ha hb hc hm) fun σ H Q h=>qkd h
def q5m:D->D->Bool
 | .non,.non=>true
 | .bl a,.bl b=>a==b
 | _,_=>false
def oIs(neg:Bool): D->D->Option D
 | x,.non=>some (.bl (if neg then !q5m x .non else q5m x .non))
 | x,.bl b=>some (.bl (if neg then !q5m x (.bl b) else q5m x (.bl b)))
 | _,_=>none
theorem qot{M:Model}{A:Around}{E:Value->Shared->Prop}{s:Shared}{Q:Value->Shared->Prop}{v:Value}{c:Bool}(hv:∀id,v ≠ .builtin id)(h:Q (.bool (v == .bool c)) s): wpAny M A (compareOp .Is v (.bool c)) Q E s:=by
 cases v <;> first|exact gi h|exact absurd rfl (hv _)
theorem qid{M:Model}{A:Around}{E:Value->Shared->Prop}{s:Shared}{Q:Value->Shared->Prop}{v:Value}{c:Bool}(hv:∀id,v ≠ .builtin id)(h:Q (.bool (!(v == .bool c))) s): wpAny M A (compareOp .IsNot v (.bool c)) Q E s:=by
 cases v <;> first|exact gi h|exact absurd rfl (hv _)
theorem qgb{K:Frag}{F:Hp}{d:D}{x:V}{v:Value}(r:Rep K F d x)(rv:RelV x v): ∀id,v ≠ .builtin id:=by
 intro id;cases d with
 | non=>cases rep_non.mp r;cases rv;intro z;cases z
 | bl b=>cases rep_bl.mp r;cases rv;intro z;cases z
 | int i=>cases rep_int.mp r;obtain⟨t,rfl⟩:=rv;intro z;cases z
 | str i=>cases rep_str.mp r;obtain⟨t,rfl⟩:=rv;intro z;cases z
 | tup ds=>obtain⟨p,xs,rfl,_⟩:=rep_tup.mp r;cases rv;intro z;cases z
 | lst ds=>obtain⟨p,xs,rfl,_⟩:=rep_lst.mp r;cases rv;intro z;cases z
 | dct ks vs=>obtain⟨p,xs,rfl,_⟩:=rep_dct.mp r;cases rv;intro z;cases z
 | dtt ks vs=>obtain⟨p,xs,ys,ep,rfl,_⟩:=rep_dtt.mp r;cases rv;intro z;cases z
 | obj C=>obtain⟨p,dx,_,rfl,_⟩:=rep_obj.mp r;cases rv;intro z;cases z
 | exc C _=>obtain⟨p,_,rfl,_⟩:=rep_exc.mp r;cases rv;intro z;cases z
theorem qb5{K:Frag}{F:Hp}{d:D}{x:V}{v:Value}(r:Rep K F d x)(rv:RelV x v): (v==Value.none)=q5m d .non:=by
 cases d with
 | non=>cases rep_non.mp r;cases rv;rfl
 | bl b=>cases rep_bl.mp r;cases rv;rfl
 | int i=>cases rep_int.mp r;obtain⟨t,rfl⟩:=rv;rfl
 | str i=>cases rep_str.mp r;obtain⟨t,rfl⟩:=rv;rfl
 | tup ds=>obtain⟨p,xs,rfl,_⟩:=rep_tup.mp r;cases rv;rfl
 | lst ds=>obtain⟨p,xs,rfl,_⟩:=rep_lst.mp r;cases rv;rfl
 | dct ks vs=>obtain⟨p,xs,rfl,_⟩:=rep_dct.mp r;cases rv;rfl
 | dtt ks vs=>obtain⟨p,xs,ys,ep,rfl,_⟩:=rep_dtt.mp r;cases rv;rfl
 | obj C=>obtain⟨p,dx,_,rfl,_⟩:=rep_obj.mp r;cases rv;rfl
 | exc C _=>obtain⟨p,_,rfl,_⟩:=rep_exc.mp r;cases rv;rfl
theorem qdn{K:Frag}{F:Hp}{d:D}{x:V}{v:Value}{c:Bool}(r:Rep K F d x)(rv:RelV x v): (v==Value.bool c)=q5m d (.bl c):=by
 cases d with
 | non=>cases rep_non.mp r;cases rv;rfl
 | bl b=>cases rep_bl.mp r;cases rv;cases b <;> cases c <;> rfl
 | int i=>cases rep_int.mp r;obtain⟨t,rfl⟩:=rv;rfl
 | str i=>cases rep_str.mp r;obtain⟨t,rfl⟩:=rv;rfl
 | tup ds=>obtain⟨p,xs,rfl,_⟩:=rep_tup.mp r;cases rv;rfl
 | lst ds=>obtain⟨p,xs,rfl,_⟩:=rep_lst.mp r;cases rv;rfl
 | dct ks vs=>obtain⟨p,xs,rfl,_⟩:=rep_dct.mp r;cases rv;rfl
 | dtt ks vs=>obtain⟨p,xs,ys,ep,rfl,_⟩:=rep_dtt.mp r;cases rv;rfl
 | obj C=>obtain⟨p,dx,_,rfl,_⟩:=rep_obj.mp r;cases rv;rfl
 | exc C _=>obtain⟨p,_,rfl,_⟩:=rep_exc.mp r;cases rv;rfl
theorem qem(_hc:X.calm=true): OpR X (compareOp .Is) (rD X.K (oIs false)):=fun pins s σ H x y v u Q I rx ry ⟨F,d1,d2,d,q1,q2,q3,q4,q5⟩=>by
 cases d2 <;> simp only [oIs] at q4 <;> first|(cases q4;done)|skip
 ·cases rep_non.mp q3
  cases ry;refine is_none_gen ⟨.bl _,H,I,rfl,?_⟩;rw [qb5 q2 rx];cases q4;exact q5 _ F H (.refl q1) (rep_bl.mpr rfl)
 ·cases rep_bl.mp q3
  cases ry;refine qot (qgb q2 rx) ⟨.bl _,H,I,rfl,?_⟩;rw [qdn q2 rx];cases q4;exact q5 _ F H (.refl q1) (rep_bl.mpr rfl)
theorem qb6(_hc:X.calm=true): OpR X (compareOp .IsNot) (rD X.K (oIs true)):=fun pins s σ H x y v u Q I rx ry ⟨F,d1,d2,d,q1,q2,q3,q4,q5⟩=>by
 cases d2 <;> simp only [oIs] at q4 <;> first|(cases q4;done)|skip
 ·cases rep_non.mp q3
  cases ry;refine isnot_none_gen ⟨.bl _,H,I,rfl,?_⟩;rw [qb5 q2 rx];cases q4;exact q5 _ F H (.refl q1) (rep_bl.mpr rfl)
 ·cases rep_bl.mp q3
  cases ry;refine qid (qgb q2 rx) ⟨.bl _,H,I,rfl,?_⟩;rw [qdn q2 rx];cases q4;exact q5 _ F H (.refl q1) (rep_bl.mpr rfl)
end
theorem q81:fillsNumberSlot (.type "tuple") "mul" = pure false:=
 PySem.fillsNumberSlot_seq (id:="tuple.__mul__") (r:=some (.builtin "tuple.__rmul__")) g04.lookup (by decide +kernel) F.slot_tuple_rmul.lookup (by decide +kernel)
theorem qen:seqRepeat? (.type "tuple")=pure (some (.builtin "tuple.__mul__")):=by
 unfold seqRepeat?;rw [PySem.seqSlot_of (T:="tuple") (name:="__mul__") g04.lookup (by decide +kernel),PySem.seqSlot_of (T:="tuple") (name:="__rmul__") F.slot_tuple_rmul.lookup (by decide +kernel)]
 rfl
theorem qie(i:Int)(t:Tok)(l:Addr)(xs:Array Value)(n:Nat)(dd:Option Addr)(sl:Array (Option Value)):
  Meets (Builtin.«int.__rmul__» ⟨[.int i t,.ref l],[]⟩) (fun _ R s=>s.heap.get? l=some {cls:=.type "tuple",dict:=dd,data:=.seq xs n,slots:=sl}/\R (.ok (.ret Value.notImplemented)) s):=
 .of_wp fun prog w A R s h=>by
  obtain⟨hp,g,d,tk,os⟩:=s;obtain⟨hl,h⟩:=h
  wp_walk
  exact⟨_,rfl,h⟩
theorem qb7(i:Int)(t:Tok)(l:Addr)(xs:Array Value)(n:Nat)(dd:Option Addr)(sl:Array (Option Value))(h0:¬(decide (i < -(2 ^ 63)) || decide (i>=2 ^ 63))=true)(h1:(xs.isEmpty || i==1)=true):
  Meets (Builtin.«tuple.__mul__» ⟨[.ref l,.int i t],[]⟩) (fun _ R s=>s.heap.get? l=some {cls:=.type "tuple",dict:=dd,data:=.seq xs n,slots:=sl}/\R (.ok (.ret (.ref l))) s):=
 .of_wp fun prog w A R s h=>by
  obtain⟨hp,g,d,tk,os⟩:=s;obtain⟨hl,h⟩:=h;have f1:=g1z;have f2:=g0e
  wp_walk using nq hl
  refine g12 (m8 h0) ?_
  wp_walk using nq hl
  exact⟨_,rfl,h⟩
theorem qb8(i:Int)(t:Tok)(l:Addr)(xs:Array Value)(n:Nat)(dd:Option Addr)(sl:Array (Option Value))(h0:¬(decide (i < -(2 ^ 63)) || decide (i>=2 ^ 63))=true)(h1:¬(xs.isEmpty || i==1)=true)(h2:(decide (i<=0) || xs.isEmpty)=true):
  Meets (Builtin.«tuple.__mul__» ⟨[.ref l,.int i t],[]⟩) (fun _ R s=>s.heap.get? l=some {cls:=.type "tuple",dict:=dd,data:=.seq xs n,slots:=sl}/\R (.ok (.ret (.ref s.heap.objs.size))) {s with heap:=s.heap.push {cls:=.type "tuple",data:=.seq #[]} }):=
 .of_wp fun prog w A R s h=>by
  obtain⟨hp,g,d,tk,os⟩:=s;obtain⟨hl,h⟩:=h;have f1:=g1z;have f2:=g0e
  wp_walk using nq hl
  refine g12 (m8 h0) ?_
  wp_walk using nq hl
  exact⟨_,rfl,h⟩
theorem qb9(i:Int)(t:Tok)(l:Addr)(xs:Array Value)(n:Nat)(dd:Option Addr)(sl:Array (Option Value))(h0:¬(decide (i < -(2 ^ 63)) || decide (i>=2 ^ 63))=true)(h1:¬(xs.isEmpty || i==1)=true)(h2:¬(decide (i<=0) || xs.isEmpty)=true)
  (h3:¬((xs.size:Int)*i>(2 ^ 63-1) / 8)) (h4:¬Builtin.Tuple.tupleTooMany ((xs.size:Int)*i)=true) (h5:((List.replicate i.toNat xs).foldl (· ++ ·) #[]).size<=sizeLine) :
  Meets (Builtin.«tuple.__mul__» ⟨[.ref l,.int i t],[]⟩) (fun _ R s=>s.heap.get? l=some {cls:=.type "tuple",dict:=dd,data:=.seq xs n,slots:=sl}/\R (.ok (.ret (.ref s.heap.objs.size))) {s with heap:=s.heap.push {cls:=.type "tuple",data:=.seq ((List.replicate i.toNat xs).foldl (· ++ ·) #[])} }):=
 .of_wp fun prog w A R s h=>by
  obtain⟨hp,g,d,tk,os⟩:=s;obtain⟨hl,h⟩:=h;have f1:=g1z;have f2:=g0e
  wp_walk using nq hl
  refine g12 (m8 h0) ?_
  wp_walk using nq hl
  refine g12 (m8 h3) ?_
  wp_walk using nq hl
  exact⟨_,rfl,h⟩
theorem qba(xs:Array Value): ∀(n:Nat) (acc:Array Value),((List.replicate n xs).foldl (· ++ ·) acc).toList=acc.toList++(List.replicate n xs.toList).flatten
 | 0,acc=>by simp
 | n+1,acc=>by
  rw [p7,List.foldl_cons,qba xs n (acc++xs),p7,uq,Array.toList_append,t6]
theorem q93(xs:List Value)(n:Nat): (List.replicate n xs.toArray).foldl (· ++ ·) #[]=(List.replicate n xs).flatten.toArray:=by
 apply Array.toList_inj.mp;rw [qba];simp
section
variable{prog:Program}{w:World}{A:Around}{E:Value->Shared->Prop}{s:Shared}
theorem qke{t:Addr}{vs:List Value}{i:Int}{u:Tok}{Q:Value->Shared->Prop}(ht:IsTup s.heap t vs.toArray)(h0 : -(2 ^ 62)<i)(h1:i<2 ^ 62)(hz:vs.length*i.toNat<=1000000)
  (q1:(vs=[]\/i=1)->Q (.ref t) s) (q2:¬(vs=[]\/i=1)->Q (.ref s.heap.objs.size) {s with heap:=s.heap.push {cls:=.type "tuple",data:=.seq (List.replicate i.toNat vs).flatten.toArray} }) :
  wpAny (model prog w) A (binaryOp .Mult (.ref t) (.int i u)) Q E s:=by
 obtain⟨⟨cls,dd,data,sl⟩,ho,hc,n,hd⟩:=id ht;simp only at hc hd;subst hc hd;have ty:s.TypeIs (.ref t) "tuple" :=⟨_,ho,rfl⟩
 have b0:¬(decide (i < -(2 ^ 63)) || decide (i>=2 ^ 63))=true:=by
  simp only [p6,g0l,not_or]
  constructor <;> lia
 refine wpAny_binaryOp_repeat_ref (T:="tuple") (U:="int") (by decide) ty (fun s'=>typeIs_int s' i u) q81 F.fills_int_mul F.slot_int_rmul qen F.slot_int_index.lookup
  (g1s F.slot_int_rmul (typeIs_int s i u) F.entry_int_rmul (F.args_int_rmul_2 _ _) (qie i u t vs.toArray n dd sl) ⟨ho,rfl,ty,?_⟩)
 have em:vs.toArray.isEmpty=true↔vs=[]:=by simp
 by_cases c1:(vs.toArray.isEmpty || i==1)=true
 ·have c1':vs=[]\/i=1:=by simpa using c1
  exact g1s g04 ty g1r (g1j _ _) (qb7 i u t vs.toArray n dd sl b0 c1) ⟨ho,q1 c1'⟩
 ·have c1':¬(vs=[]\/i=1):=by simpa using c1
  have q:=q2 c1'
  by_cases c2:(decide (i<=0) || vs.toArray.isEmpty)=true
  ·have i0:i<=0:=by
    rcases p6 _ _ ▸ c2 with z|z
    ·exact g0j z
    ·exact absurd (.inl (em.mp z)) c1'
   have e:(List.replicate i.toNat vs).flatten.toArray = #[]:=by
    rw [show i.toNat=0 by lia];rfl
   rw [e] at q;exact g1s g04 ty g1r (g1j _ _) (qb8 i u t vs.toArray n dd sl b0 c1 c2) ⟨ho,q⟩
  ·have c2':0<i:=by
    have:¬i<=0:=fun z=>c2 (by rw [m6 z];rfl);lia
   have ei:(vs.toArray.size:Int)*i=((vs.length*i.toNat:Nat):Int):=by
    rw [Int.natCast_mul,g1a (by lia),gp]
   have el:(List.replicate i.toNat vs).flatten.length=vs.length*i.toNat:=by
    rw [List.length_flatten,List.map_replicate,g2a,Nat.mul_comm]
   rw [<- q93] at q;refine g1s g04 ty g1r (g1j _ _) (qb9 i u t vs.toArray n dd sl b0 c1 c2 ?_ ?_ ?_) ⟨ho,q⟩
   ·rw [ei];lia
   ·rw [ei]
    unfold Builtin.Tuple.tupleTooMany;have:sizeLine=16777216:=uj;rw [this,g0l];lia
   ·rw [q93,gp,el]
    exact yp hz
end
section
variable{X:Cx}
def qif:D->D->Option D
 | .tup xs,.int n=>if decide (-(2 ^ 62)<n)&&decide (n<2 ^ 62)&&decide (xs.length*n.toNat<=lim) then some (.tup (List.replicate n.toNat xs).flatten) else none
 | _,_=>none
theorem qbb{xs:List V}{us:List Value}(r:Vals xs us): ∀n:Nat,Vals (List.replicate n xs).flatten (List.replicate n us).flatten
 | 0=>.nil
 | n+1=>by rw [p7,p7,uq,uq];exact r.append (qbb r n)
theorem qbc{K:Frag}{H:Hp}{ds:List D}{xs:List V}(r:RepL K H ds xs): ∀n:Nat,RepL K H (List.replicate n ds).flatten (List.replicate n xs).flatten
 | 0=>.nil
 | n+1=>by rw [p7,p7,uq,uq];exact r.append (qbc r n)
theorem qmy:OpR X (binaryOp .Mult) (rD X.K qif):=fun pins s σ H x y v u Q I rx ry ⟨F,d1,d2,d,q1,q2,q3,q4,q5⟩=>by
 unfold qif at q4
 split at q4
 ·rename_i ds n
  split at q4
  ·rename_i hc
   cases q4;simp only [m7,g0l] at hc;obtain⟨⟨c1,c2⟩,c3⟩:=hc;obtain⟨p,xs,rfl,z1,z2⟩:=rep_tup.mp q2;cases rep_int.mp q3;cases rx;obtain⟨t,rfl⟩:=ry;obtain⟨its,r1,p1,hz⟩:=I.tuple (qx q1 z1);have lx:=r1.length;have ld:=z2.length;refine qke p1 c1 c2 (by rw [<- lx, <- ld];exact c3) (fun hq=>?_) fun hq=>?_
   ·have e:(List.replicate n.toNat ds).flatten=ds:=by
     rcases hq with z|z
     ·have:ds=[]:=List.length_eq_zero_iff.mp (by rw [ld,lx,z];rfl)
      subst this;simp
     ·subst z;simp [List.replicate]
    rw [e] at q5;exact⟨.ref p,H,I,rfl,q5 _ F H (.refl q1) q2⟩
   ·have hn:H s.heap.objs.size=none:=I.hok.fresh (gv _)
    have rr:=qbb r1 n.toNat;have el:(List.replicate n.toNat xs).flatten.length=ds.length*n.toNat:=by
     rw [List.length_flatten,List.map_replicate,g2a,Nat.mul_comm,ld]
    refine⟨.ref s.heap.objs.size,_,I.laid (t':=s.toks) (o:=.tup (List.replicate n.toNat xs).flatten) (fun b ob q=>gh _ q) (gv _) ⟨by rw [el];exact yp c3,_,rr,TupX.new _ _⟩,rfl,?_⟩;have gn:=Grow.new (o:=.tup (List.replicate n.toNat xs).flatten) q1 hn;exact q5 _ _ _ gn (rep_tup.mpr ⟨_,_,rfl,SqT.of qv,(qbc z2 n.toNat).mono gn.ff⟩)
  ·cases q4
 ·cases q4
def jf:D->D->Option D:=fun x y=>(oMul x y).or (qif x y)
theorem k6:OpR X (binaryOp .Mult) (rD X.K jf):=qap qmm qmy
end
section
variable{prog:Program}{w:World}{A:Around}{E:Value->Shared->Prop}{s:Shared}
end
section
variable{X:Cx}{pos:Pos}{elts:List Expr}{x1:Nat}{tp:Pos}
end
section
variable{X:Cx}{st:Stmt}
def q14:FS:=fun _=>none
theorem q0k:PS X st (tDS X.K q14):=fun pins s σ H D I ⟨F0,H0,F, ρ,fl, ρ',r,hf,q⟩=>by cases hf
theorem q2m:∀ {us:List Value} {ns:List Int},IntsAre us ns->Vals (ns.map V.int) us
 | _,_,.nil=>.nil
 | _,_,.cons n t h=>.cons ⟨t,rfl⟩ (q2m h)
end
end DL
namespace Srt
end Srt
namespace DL
open PySem PySem.Spec PyProof.Rows L2 Srt PySem.W
variable[Lam][Pin]
section
variable{X:Cx}
end
end DL
namespace DL
open PySem PySem.Spec PyProof.Rows L2
variable[Lam][Pin]
section
variable{X:Cx}
abbrev oDivB:=oI (fun _ j=>decide (0<j)&&decide (j<18446744073709551616)) fun i j=>i / j
theorem qig:OpR X (binaryOp .FloorDiv) (rI (fun _ j=>0<j/\j<18446744073709551616) fun i j=>.int (i / j)):=opI fun i j _ _ _ _ _ hc q=>by
 have h1:(0:Int)<j:=hc.1;have h2:j<18446744073709551616:=hc.2;refine floordiv_int (by lia) (by rw [g1m i (by lia)];exact q) (.inl (PyProof.noPylong_of_log2 ?_));have h3:j.natAbs<2 ^ 64:=by lia
 exact gy ((Nat.log2_lt (by lia)).mpr h3) (by decide)
theorem qdo:OpR X (binaryOp .FloorDiv) (rD X.K oDivB):=q71 qig fun i j h=>q3a h
end
end DL
namespace L2
open PySem PySem.Spec PyProof.Rows
section
variable{M:Model}{A:Around}{E:Value->Shared->Prop}{s:Shared}
theorem q4r:∀(names:List (Str×NameKind)) (n:Nat) (acc:List (Str×Addr)),cellsFrom n names acc=cellsFrom n names []++acc
 | [],_,_=>rfl
 | (x,k) :: r,n,acc=>by
  unfold cellsFrom
  split
  ·rw [q4r r (n+1) ((x,n) :: acc),q4r r (n+1) [(x,n)],t6];rfl
  ·exact q4r r n acc
theorem qbd:∀ {names:List (Str×NameKind)} {n:Nat} {acc:List (Str×Addr)} {x:Str} {c:Addr},(x,c)∈cellsFrom n names acc->(x,c)∈acc\/(x,NameKind.cell)∈names
 | [],_,_,_,_,h=>.inl h
 | (y,k) :: r,n,acc,x,c,h=>by
  unfold cellsFrom at h
  split at h
  ·rename_i hk
   have hk:k=.cell:=by simpa using hk
   subst hk;rcases qbd h with h|h
   ·rcases mf.mp h with e|h
    ·cases e;exact .inr mj
    ·exact .inl h
   ·exact .inr (m5 _ h)
  ·rcases qbd h with h|h
   ·exact .inl h
   ·exact .inr (m5 _ h)
theorem qih{l:List (Str×Addr)}{x:Str}{c:Addr}(h:(x,c)∈l): ∃d,l.lookup x=some d:=by
 induction l with
 | nil=>cases h
 | cons p r ih=>
  obtain⟨y,d⟩:=p;rw [mm];cases q:x==y with
  | true=>exact⟨d,rfl⟩
  | false=>
   rcases mf.mp h with e|h
   ·cases e;simp at q
   ·exact ih h
theorem qbe:∀ {names:List (Str×NameKind)} {n:Nat} {acc:List (Str×Addr)} {x:Str},(x,NameKind.cell)∈names->∃c,(x,c)∈cellsFrom n names acc
 | [],_,_,_,h=>by cases h
 | (y,k) :: r,n,acc,x,h=>by
  unfold cellsFrom;rcases mf.mp h with e|h
  ·cases e
   rw [gw (show(NameKind.cell==NameKind.cell)=true from rfl),q4r];exact⟨n,mh _ mj⟩
  ·split
   ·exact qbe h
   ·exact qbe h
theorem qgc{scope:Scope}{globals:Addr}{cl:List (Str×Addr)}{qual:Str}{outer:Env}{Q:Env->Shared->Prop}
  (hQ:Q {scope,locals:=s.heap.objs.size,globals,cells:=cellsFrom (s.heap.objs.size+1) scope.names []++cl,qual,func:=none,code:=outer.code,frame:=outer.frame,builtins:=outer.builtins} {s with heap:=pushCells (s.heap.push {cls:=.type "dict",data:=.dict #[]}) scope.names}) :
  wpAny M A (newFunctionEnv scope globals cl [] qual none .none (some outer)) Q E s:=by
 simp only [newFunctionEnv,Option.isSome_some,nv];refine g6 (wpAny_alloc ?_);refine g6 (wpAny_layCells _ (fun name kind cells=>by cases hkc:kind==NameKind.cell <;> simp [hkc]) _ _ _ _ ?_);rw [show({s with heap:=s.heap.push {cls:=.type "dict",data:=.dict #[]} }:Shared).heap.objs.size=s.heap.objs.size+1 from nk ..,q4r];rw [g1e];exact g6 (gi (gi hQ))
end
abbrev xj(X:Cx)(N':List Str)(scope:Scope)(cl:List (Str×Addr))(C:Addr)(s₀:Shared)(H₀:Hp)(fp:List Addr): Cx:=
 {X with N:=N',env:=compEnvC scope cl C X.env,s₀:=s₀,H₀:=H₀,outer:=X.stack,ex:=fp,fn:=fun x=>scope.names.lookup x==some .cell,pn:=[],xe:=fun _ _=>False}
structure CapOkC(X:Cx)(N':List Str)(scope:Scope)(cap:List (Option Nat)): Prop where
 kind:scope.kind=.function
 cells:∀y∈scope.names,y.2=.cell->scope.names.lookup y.1=some .cell
 names:∀y∈scope.names,y.2=.local->scope.names.lookup y.1=some .local
 frees:∀y∈scope.names,y.2=.free->X.env.kindOf y.1=some .cell\/X.env.kindOf y.1=some .free
 len:cap.length=N'.length
 cap:∀(i j:Nat),cap[i]? = some (some j)->∃x,N'[i]? = some x/\X.N[j]? = some x/\scope.names.lookup x=some .free
section
variable{X:Cx}{pins:List (Addr×Obj)}{σ : St}{H:Hp}{s:Shared}{N':List Str}{scope:Scope}{cap:List (Option Nat)}{cl:List (Str×Addr)}{fp:List Addr}
theorem qgd(I:Inv X pins σ H s)(co:CapOkC X N' scope cap)(h1:∀x c,cl.lookup x=some c->X.env.cells.lookup x=some c)(h2:∀y∈scope.names,y.2=.free->∃c,cl.lookup y.1=some c)
  (hf:∀b∈fp,v9 X pins H b) (ho:∀b∈fp,∃o,s.heap.get? b=some o) {t':Nat} :
  Inv (xj X N' scope (cellsFrom (s.heap.objs.size+1) scope.names []++cl) s.heap.objs.size s H fp) [] (q4i cap σ) H {s with heap:=pushCells (s.heap.push {cls:=.type "dict",data:=.dict #[]}) scope.names,toks:=t'}:=by
 have flt:∀b∈fp,b<s.heap.objs.size:=fun b hb=>let⟨o,e⟩:=ho b hb;gs e
 have okc:=cellsFrom_ok scope.names (s.heap.push {cls:=.type "dict",data:=.dict #[]}) (s.heap.objs.size+1) [] ⟨fun _ _ hm=>(nomatch hm),List.Pairwise.nil⟩ (by rw [nk];exact gv _);rw [nk] at okc;have hk:∀b o,s.heap.get? b=some o->(pushCells (s.heap.push {cls:=.type "dict",data:=.dict #[]}) scope.names).get? b=some o:=fun b o e=>g24 _ _ b o (gh _ e);have hn:(pushCells (s.heap.push {cls:=.type "dict",data:=.dict #[]}) scope.names).Ns s.heap.objs.size (fun _=>none):=(Heap.Ns.new s.heap (.type "dict")).keeps (g24 _ _);generalize hnw:cellsFrom (s.heap.objs.size+1) scope.names []=nw at okc;have newc:∀ {x c},nw.lookup x=some c->(x,NameKind.cell)∈scope.names/\s.heap.objs.size+1<=c:=fun {x c} e=>by
  have m:=g1q e;have m2:=m;rw [<- hnw] at m2;rcases qbd m2 with z|z
  ·cases z
  ·exact⟨z,(okc.empty x c m).2⟩
 have hasN:∀ {x},(x,NameKind.cell)∈scope.names->∃c,nw.lookup x=some c:=fun {x} e=>by
  obtain⟨c,hc⟩:=qbe (n:=s.heap.objs.size+1) (acc:=[]) e;rw [hnw] at hc;exact qih hc
 have old:∀ {x c},cl.lookup x=some c->c<s.heap.objs.size:=fun {x c} e=>let⟨v,q⟩:=I.cell x c (h1 x c e);q.lt
 have cases2:∀ {x c},(nw++cl).lookup x=some c->nw.lookup x=some c\/(nw.lookup x=none/\cl.lookup x=some c):=fun {x c} e=>by
  rw [g1k] at e;cases q:nw.lookup x with
  | some d=>rw [q] at e;exact .inl e
  | none=>rw [q] at e;exact .inr ⟨rfl,e⟩
 refine⟨⟨I.ok.mod,co.kind,I.ok.glob,I.ok.blt,gv _,fun x y c e1 e2=>?_,fun x hx=>?_,fun x c z e=>?_,I.ok.hd,I.ok.frames,.inl rfl,fun b hb=>?_,I.bs,md I.ok.bsz I.sz,fun b o e hb=>?_,fun b hb z=>?_,I.stack,I.stkFree⟩,
  rfl,I.bare,Un.kept hk,⟨_,hn,fun i x v e1 e2 e3=>?_⟩,fun x c e=>?_,I.hok.fresh (gv _),fun x c e=>?_,fun p hp=>(nomatch hp),I.hok.kept hk,?_⟩
 ·rcases cases2 e1 with a|⟨_,a⟩ <;> rcases cases2 e2 with b|⟨_,b⟩
  ·exact name_of_addr okc.apart (g1q a) (g1q b)
  ·exact absurd (gy (old b) (ur (newc a).2)) (ny _)
  ·exact absurd (gy (old a) (ur (newc b).2)) (ny _)
  ·exact I.ok.inj x y c (h1 x c a) (h1 y c b)
 ·have hx':(relabel scope X.env).names.lookup x=some .cell\/(relabel scope X.env).names.lookup x=some .free:=hx
  have key:(scope.names.lookup x=some .cell)\/(scope.names.lookup x=some .free):=by
   rcases hx' with q|q
   ·rcases yo q with z|⟨_,z⟩
    ·exact .inl z
    ·exact .inr z
   ·rcases yo q with z|⟨z,_⟩
    ·exact .inr z
    ·cases z
  show ∃c,(nw++cl).lookup x=some c;rw [g1k];rcases key with z|z
  ·obtain⟨c,hc⟩:=hasN (lookup_mem z)
   exact⟨c,by rw [hc];rfl⟩
  ·obtain⟨c,hc⟩:=h2 (x,.free) (lookup_mem z) rfl
   cases q:nw.lookup x with
   | some d=>exact⟨d,rfl⟩
   | none=>exact⟨c,hc⟩
 ·have z':scope.names.lookup x=some .cell:=by simpa using z
  obtain⟨d,hd⟩:=hasN (lookup_mem z');rcases cases2 e with a|⟨a,_⟩
  ·exact ur (newc a).2
  ·rw [hd] at a;cases a
 ·obtain⟨f0,f1,f2,f3,f4,f5⟩:=hf b hb
  refine⟨ma (flt b hb),fun x c e=>?_⟩;rcases cases2 e with a|⟨_,a⟩
  ·exact td (gy (flt b hb) (ur (newc a).2))
  ·exact f4 x c (h1 x c a)
 ·obtain⟨f0,f1,f2,f3,f4,f5⟩:=hf b hb
  rcases f3 with z|z
  ·exact I.ok.noex b o e z
  ·exact absurd (gy (gs e) (md I.ok.bsz z)) (ny _)
 ·obtain⟨f0,f1,f2,f3,f4,f5⟩:=hf b hb
  rcases mf.mp (I.stkSub b z) with q|q
  ·exact f1 q
  ·exact f2 q
 ·have e2':(cap.map fun o=>o.bind fun j=>(σ[j]?).join)[i]? = some (some v):=e2
  rw [m9] at e2';cases q:cap[i]? with
  | none=>rw [q] at e2';cases e2'
  | some o=>
   rw [q] at e2';cases o with
   | none=>cases e2'
   | some j=>
    obtain⟨y,a1,a2,a3⟩:=co.cap i j q;have e1':N'[i]? = some x:=e1;rw [a1] at e1';obtain rfl:y=x:=mn e1';have ej:(σ[j]?).join=some v:=by
     have:=e2';simp only [gz,gc,g0i] at this;exact this
    have ej' : σ[j]? = some (some v):=by
     cases z : σ[j]? with
     | none=>rw [z] at ej;cases ej
     | some u=>rw [z] at ej;simp only [tx] at ej;rw [ej]
    have kd:=co.frees (y,.free) (lookup_mem a3) rfl;obtain⟨m0,hn0,hl0⟩:=I.loc;have vis:Vis X.env.scope y:=by
     rcases kd with k|k
     ·exact .inr (.inl k)
     ·exact .inr (.inr k)
    obtain⟨u,ru,lk⟩:=hl0 j y v a2 ej' vis;refine⟨u,ru,.inr ⟨q1w a3,?_⟩⟩;obtain⟨c,hc⟩:=h2 (y,.free) (lookup_mem a3) rfl;have nn:nw.lookup y=none:=by
     cases q:nw.lookup y with
     | none=>rfl
     | some d=>
      have:=co.cells (y,.cell) (newc q).1 rfl;rw [a3] at this;cases this
    rcases lk with⟨k,_⟩|⟨_,c',hc',z⟩
    ·rcases kd with k'|k'
     ·rw [k] at k';cases k'
     ·rw [k] at k';cases k'
    ·have:=h1 _ _ hc
     rw [hc'] at this;obtain rfl:c'=c:=mn this;obtain⟨o,eo,ed⟩:=z;exact⟨c',by show(nw++cl).lookup y=_;rw [g1k,nn];exact hc,o,hk _ _ eo,ed⟩
 ·rcases cases2 e with a|⟨_,a⟩
  ·exact⟨none,(okc.empty x c (g1q a)).1⟩
  ·obtain⟨v,o,eo,ed⟩:=I.cell x c (h1 x c a)
   exact⟨v,o,hk _ _ eo,ed⟩
 ·rcases cases2 e with a|⟨_,a⟩
  ·exact I.hok.fresh (ur (newc a).2)
  ·exact I.freeC x c (h1 x c a)
 ·show(cap.map _).length=N'.length
  rw [gx];exact co.len
theorem qcr{N':List Str}{C:Addr}{H':Hp}{s':Shared}{σ':St}{h':Heap}(I:Inv X pins σ H s)(hf:∀b∈fp,v9 X pins H b)(J:Inv (xj X N' scope cl C s H fp) [] σ' H' s')(hs:Heap.SameBut C s'.heap h'):
  Inv X pins σ H' {s' with heap:=h'}:=by
 have hC:s.heap.objs.size<=C:=J.ok.above;have kp:∀b o,b≠C->s'.heap.get? b=some o->h'.get? b=some o:=fun b o hb e=>(hs.2 b hb).trans e;have hC0:H' C=none:=J.free;have un:Un (frs X.stack) fp H H' s.heap h':=by
  have u:Un (frs X.stack) fp H H' s.heap s'.heap:=J.base;have neC:∀b o,s.heap.get? b=some o->b≠C:=fun b o e=>ma (gy (gs e) hC);exact⟨fun b o e n h1 h2=>kp b o (neC b o e) (u.keep b o e n h1 h2),fun b o e n h1 h2=>let⟨sl,q⟩:=u.slot b o e n h1 h2; ⟨sl,kp b _ (neC b o e) q⟩,u.free,fun b o e h=>let⟨o',q⟩:=u.there b o e h; ⟨o',kp b o' (neC b o e) q⟩,u.tups,u.frzs,u.tbls⟩
 have hok:HOk X.prog X.w H' h':=fun b u e=>by
  refine(J.hok b u e).stay (fun c v hc q=>kp c v ?_ q) (fun _ q=>q) fun _ _ q=>q;rcases hc with z|z
  ·rw [z];intro z2;rw [z2,hC0] at e;cases e
  ·intro z2;rw [z2,hC0] at z;cases z
 exact I.call' (s':={s' with heap:=h'}) (ch:=fp) J.os un hok J.bare fun b hb=>by
  obtain⟨f0,f1,f2,f3,f4,f5⟩:=hf b hb;exact⟨f3,f1,f4,f5⟩
end
section
variable{X:Cx}{N':List Str}{scope:Scope}{cap:List (Option Nat)}{tg iter elt:Expr}{ifs:List Expr}{wi:TI}{g:TG}{tc:TT}{te:TE}{pos:Pos}
theorem qeo{cl:List (Str×Addr)}{pins:List (Addr×Obj)}{s:Shared}{σ : St}{H:Hp}{it:Addr}{fp:List Addr}{tn:Nat->Heap->Prop}{J:It}{E:Value->Shared->Prop}{K:Addr->Hp->Prop}
  {RR:Value->Addr->Result->Shared->Prop} (hc:X.calm=true) (co:CapOkC X N' scope cap)
  (h1:∀x c,cl.lookup x=some c->X.env.cells.lookup x=some c) (h2:∀y∈scope.names,y.2=.free->∃c,cl.lookup y.1=some c)
  (hg:∀cl C s₀ H₀ fp,PG (xj X N' scope cl C s₀ H₀ fp) tg g) (hcs:∀cl C s₀ H₀ fp,q04 (xj X N' scope cl C s₀ H₀ fp) ifs tc) (he:∀cl C s₀ H₀ fp,PE (xj X N' scope cl C s₀ H₀ fp) elt te)
  (I:Inv X pins σ H s) (T:Turn X.prog X.w X.K tg J fp it tn) (st:tn 0 s.heap) (hf:∀b∈fp,v9 X pins H b) (h:∀p,H p=none->qht J cap g tc te σ H p (K p))
  (hRR:∀(D C:Addr) (s':Shared) (H':Hp),s.heap.objs.size<=C->(∃m,s'.heap.Ns C m)->(∀h',Heap.SameBut C s'.heap h'->Inv X pins σ H' {s' with heap:=h'})->H' C=none->K D H'->RR (.ref D) C (.ok .next) s') :
  wpAny (model X.prog X.w) X.A (newList []) (fun acc s₃=>wpAny (model X.prog X.w) X.A (newFunctionEnv scope X.env.globals cl [] X.env.qual none .none (some X.env)) (fun cenv s₄=>
   codeAny (model X.prog X.w) X.A (.compStart (.ListComp elt [⟨tg,iter,ifs,0⟩] scope pos) 0 (.ref it) acc {cenv with scope:=relabel scope X.env}) (RR acc cenv.locals) s₄) E s₃) E s:=by
 refine nu (qgc ?_);have hD:H s.heap.objs.size=none:=I.fresh;have I3:Inv X pins σ (upd H s.heap.objs.size (.lst [])) {s with heap:=s.heap.push {cls:=.type "list",dict:=none,data:=.seq ([]:List Value).toArray} }:=I.lnew (ys:=[]) (its:=[]) (t':=s.toks) .nil (g1f _);obtain⟨W,⟨m0,w0⟩,turn⟩:=h s.heap.objs.size hD;have fobj:∀b∈fp,∃o,s.heap.get? b=some o:=fun b hb=>let⟨o,e,_⟩:=T.obj 0 _ st b hb; ⟨o,e⟩
 generalize e3:({s with heap:=s.heap.push {cls:=.type "list",dict:=none,data:=.seq ([]:List Value).toArray} }:Shared)=s3 at I3;have es3:s3.heap=s.heap.push {cls:=.type "list",dict:=none,data:=.seq ([]:List Value).toArray}:=by rw [<- e3]
 have eC:(s.heap.push {cls:=.type "list",dict:=none,data:=.seq ([]:List Value).toArray}).objs.size=s3.heap.objs.size:=by rw [es3]
 have hf3:∀b∈fp,v9 X pins (upd H s.heap.objs.size (.lst [])) b:=fun b hb=>by
  obtain⟨f0,f1⟩:=hf b hb;obtain⟨o,e⟩:=fobj b hb;exact⟨by rw [qo (ma (gs e))];exact f0,f1⟩
 generalize ehh:pushCells (s3.heap.push {cls:=.type "dict",data:=.dict #[]}) scope.names=hh;have ehh3:hh=pushCells (s3.heap.push {cls:=.type "dict",data:=.dict #[]}) scope.names:=ehh.symm;have kp:∀b o,s3.heap.get? b=some o->hh.get? b=some o:=fun b o e=>by rw [ehh3];exact g24 _ _ b o (gh _ e)
 have hle:s.heap.objs.size<=s3.heap.objs.size:=by rw [es3,nk];exact g27 _
 have s3e:∀t:Nat,({s with heap:=hh,toks:=t}:Shared) = {s3 with heap:=hh,toks:=t}:=fun t=>by rw [<- e3]
 have I4:Inv (xj X N' scope (cellsFrom (s3.heap.objs.size+1) scope.names []++cl) s3.heap.objs.size s3 (upd H s.heap.objs.size (.lst [])) fp) [] (q4i cap σ) (upd H s.heap.objs.size (.lst [])) {s3 with heap:=hh,toks:=s.toks}:=by
  rw [ehh3];exact qgd I3 co h1 h2 hf3 (fun b hb=>let⟨o,e⟩:=fobj b hb; ⟨o,by rw [es3];exact gh _ e⟩)
 have st4:tn 0 hh:=T.keep 0 _ _ st fun b hb o e=>kp b o (by rw [es3];exact gh _ e);have etk:s3.toks=s.toks:=by rw [<- e3]
 show codeAny (model X.prog X.w) X.A (.compStart (.ListComp elt [⟨tg,iter,ifs,0⟩] scope pos) 0 (.ref it) (.ref s.heap.objs.size) (compEnvC scope (cellsFrom (s3.heap.objs.size+1) scope.names []++cl) s3.heap.objs.size X.env)) (RR (.ref s.heap.objs.size) s3.heap.objs.size)
  {s3 with heap:=hh,toks:=s3.toks}
 rw [etk];generalize eX:xj X N' scope (cellsFrom (s3.heap.objs.size+1) scope.names []++cl) s3.heap.objs.size s3 (upd H s.heap.objs.size (.lst [])) fp=X' at I4;have hg':PG X' tg g:=by rw [<- eX];exact hg _ _ _ _ _
 have hcs':q04 X' ifs tc:=by rw [<- eX];exact hcs _ _ _ _ _
 have he':PE X' elt te:=by rw [<- eX];exact he _ _ _ _ _
 have eenv:X'.env=compEnvC scope (cellsFrom (s3.heap.objs.size+1) scope.names []++cl) s3.heap.objs.size X.env:=by rw [<- eX]
 have exe:X'.xe=fun _ _=>False:=by rw [<- eX]
 have eex:X'.ex=fp:=by rw [<- eX]
 have eprog:X'.prog=X.prog:=by rw [<- eX]
 have ew:X'.w=X.w:=by rw [<- eX]
 have eK:X'.K=X.K:=by rw [<- eX]
 have eA:X'.A=X.A:=by rw [<- eX]
 have ecalm:X'.calm=true:=by rw [<- eX];exact hc
 have epn:X'.pn=[]:=by rw [<- eX]
 have eloc:X'.env.locals=s3.heap.objs.size:=by rw [eenv];rfl
 have ok':=I4.ok;have stat:∀ {H':Hp},(∀b∈fp,H' b=none)->∀b∈fp,v9 X' [] H' b:=fun hn b hb=>by
  have hbx:b∈X'.ex:=by rw [eex];exact hb
  exact⟨hn b hb,(ok'.exf b hbx).1,ok'.exfs b hbx,.inl hbx,(ok'.exf b hbx).2,fun p hp=>by rw [epn] at hp;cases hp⟩
 have back:∀ {σ':St} {H':Hp} {s':Shared},Inv X' [] σ' H' s'->K s.heap.objs.size H'->RR (.ref s.heap.objs.size) s3.heap.objs.size (.ok .next) s':=fun {σ' H' s'} J' k=>by
  refine hRR _ _ _ H' hle ?_ (fun h' hs'=>?_) ?_ k
  ·obtain⟨m,hm,_⟩:=J'.loc
   exact⟨m,by rw [<- eloc];exact hm⟩
  ·rw [<- eX] at J'
   exact qcr I3 hf3 J' hs'
  ·rw [<- eloc];exact J'.free
 have loop:codeAny (model X.prog X.w) X.A (.compLoop (.ListComp elt [⟨tg,iter,ifs,0⟩] scope pos) 0 (.ref it) (.ref s.heap.objs.size) (compEnvC scope (cellsFrom (s3.heap.objs.size+1) scope.names []++cl) s3.heap.objs.size X.env)) (RR (.ref s.heap.objs.size) s3.heap.objs.size)
   {s3 with heap:=hh,toks:=s.toks}:=by
  refine q64 (fun n s'=>∃i σ' H',Inv X' [] σ' H' s'/\tn i s'.heap/\(∀b∈fp,H' b=none)/\W i n σ' H') ?_ m0 ⟨0,_,_,I4,st4,fun b hb=>(hf3 b hb).1,w0⟩
  rintro n s5 ⟨i, σ5,H5,I5,st5,fr5,w5⟩
  rw [<- eenv];rcases turn i n σ5 H5 w5 with⟨stop,qn⟩|⟨go,step⟩
  ·have:=T.done X' eprog ew eK ecalm i [] s5 σ5 H5 (fun _ _=>False) I5 (stat fr5) st5 stop
   rw [eA] at this;refine thn this fun r s6 ⟨hr,I6⟩=>?_;subst hr;exact back I6 qn
  ·have:=T.item X' eprog ew eK ecalm i [] s5 σ5 H5 (fun _ _=>False) I5 (stat fr5) st5 go
   rw [eA] at this;refine thn this fun r s6 ⟨u,hr,h6⟩=>?_;subst hr;refine thn h6 fun _ s7 ⟨x,H7,I7,r7,y7,st7,fr7⟩=>?_;have I7':=I7.pinned (stat fr7) (T.obj _ _ st7);have hg2:=hg' _ s7 σ5 H7 x u _ I7' r7 (step x H7 y7);rw [exe,eprog,ew,eA] at hg2;refine thn hg2 fun _ s8 ⟨σ8,H8,I8,q8⟩=>?_;have hc2:=hcs' _ s8 σ8 H8 _ I8 q8;rw [exe,eprog,ew,eA] at hc2;refine thn hc2 fun ok s9 ⟨H9,I9,q9⟩=>?_;have again:∀ {H':Hp} {s':Shared} {m':Nat},Inv X' ([]++q0y fp s7.heap) σ8 H' s'->m'<n->W (i+1) m' σ8 H'->∃m,m<n/\∃i σ' H',Inv X' [] σ' H' s'/\tn i s'.heap/\(∀b∈fp,H' b=none)/\W i m σ' H':=fun {H' s' m'} J' hm w'=>by
    refine⟨m',hm,i+1, σ8,H',J'.unpinned,T.keep _ _ _ st7 fun b hb o e=>(J'.pin (b,o) (mh _ (mh _ (ke hb e)))).1,fun b hb=>?_,w'⟩;obtain⟨o,e,d⟩:=T.obj _ _ st7 b hb;exact(J'.pin (b,o) (mh _ (mh _ (ke hb e)))).2.1
   cases ok with
   | false=>
    rw [m4 gq] at q9 ⊢;obtain⟨m',hm,w'⟩:=q9;exact again I9 hm w'
   | true=>
    rw [gw rfl] at q9 ⊢;have he2:=he' _ s9 σ8 H9 _ I9 q9;rw [exe,eprog,ew,eA] at he2;refine thn he2 fun y s10 ⟨yv,H10,I10,r10,xs,hp,hz,m',hm,w'⟩=>?_;have ha2:=q4h (X:=X') ([]++q0y fp s7.heap) s10 σ8 H10 (.ref s.heap.objs.size) [yv] (.ref s.heap.objs.size) [y] (fun _ H'=>H'=upd H10 s.heap.objs.size (.lst (xs++[yv]))) I10 rfl (.cons r10 .nil) ⟨_,xs,yv,rfl,rfl,hp,hz,rfl⟩;rw [exe,eprog,ew,eA] at ha2;refine thn ha2 fun _ s11 ⟨_,H11,I11,_,e11⟩=>?_;subst e11;exact again I11 hm w'
 exact codeAny_compStart_list loop (T.self _ 0 _ _ _ st4 loop)
theorem qii(hc:X.calm=true)(co:CapOkC X N' scope cap)(hi:PI X tg iter wi)
  (hg:∀cl C s₀ H₀ fp,PG (xj X N' scope cl C s₀ H₀ fp) tg g) (hcs:∀cl C s₀ H₀ fp,q04 (xj X N' scope cl C s₀ H₀ fp) ifs tc) (he:∀cl C s₀ H₀ fp,PE (xj X N' scope cl C s₀ H₀ fp) elt te)
  (hs:∀x,foldedSetIterable iter X.env x=pure x:=by intro _;rfl):PE X (.ListComp elt [⟨tg,iter,ifs,0⟩] scope pos) (qeg wi cap g tc te):=by
 intro pins s σ H Q I h;obtain⟨cl,ecl,c1,c2⟩:=q6z (scope:=scope) (env:=X.env) fun y hy hf=>I.ok.has y.1 (co.frees y hy hf);rw [eval_ListComp];refine wpAny_comprehension_free (use:=none) rfl hs ecl co.kind co.names (mx (hi pins s σ H _ I h) (fun v s1 h1=>mx h1 (fun itv s2 h2=>?_) fun _ _ e=>e) fun _ _ e=>e);obtain⟨it,fp,tn,J,H2,rfl,I2,T,st2,f2,h2⟩:=h2;refine qeo (K:=fun p=>Q (.ref p)) (RR:=fun acc C=>compPost (model X.prog X.w) X.A X.xe none (EP X pins σ Q) acc C) hc co c1 c2 hg hcs he I2 T st2 f2 h2 ?_;intro D C s' H' hle ⟨m,hm⟩ hI hC q;exact⟨m,hm,fun h' hs'=>⟨.ref D,H',hI h' hs',rfl,q⟩⟩
end
end L2
namespace DL
open PySem PySem.Spec PyProof.Rows L2
variable[Lam][Pin]
section
variable{X:Cx}{N':List Str}{scope:Scope}{cap:List (Option Nat)}{tg iter elt:Expr}{ifs:List Expr}{it:FA}{b:FB}{c:FT}{f:FE}{pos:Pos}
theorem qij(hc:X.calm=true)(co:CapOkC X N' scope cap)(fr:q76 b cap)(hi:PI X tg iter (tDI X.K it))
  (hg:∀cl C s₀ H₀ fp,PG (xj X N' scope cl C s₀ H₀ fp) tg (tDG X.K b)) (hcs:∀cl C s₀ H₀ fp,q04 (xj X N' scope cl C s₀ H₀ fp) ifs (tDT X.K c)) (he:∀cl C s₀ H₀ fp,PE (xj X N' scope cl C s₀ H₀ fp) elt (tD X.K f))
  (hs:∀x,foldedSetIterable iter X.env x=pure x:=by intro _;rfl):PE X (.ListComp elt [⟨tg,iter,ifs,0⟩] scope pos) (tL X.K (xp it cap b c f)):=
 zc (qii hc co hi hg hcs he hs) fun σ H Q h=>qg4 fr h
end
def qjk (outer:List (Str×NameKind)) (N N':List Str) (scope:Scope) (cap:List (Option Nat)):Bool:=
 scope.names.all (fun y=> !(y.2 == .cell) || (scope.names.lookup y.1==some .cell))&&(scope.names.all (fun y=> !(y.2 == .local) || (scope.names.lookup y.1==some .local))&&(scope.names.all (fun y=> !(y.2 == .free) || (outer.lookup y.1==some .cell) || (outer.lookup y.1==some .free)) &&
  (cap.length==N'.length&&(List.range cap.length).all fun i=>match(cap[i]?).join with
   | none=>true
   | some j=>match N'[i]? with
    | none=>false
    | some x=>N[j]? == some x&&scope.names.lookup x==some .free)))
omit [Lam] [Pin] in
theorem qge{X:Cx}{N':List Str}{scope:Scope}{cap:List (Option Nat)}(hk:scope.kind=.function)(h:qjk X.env.scope.names X.N N' scope cap=true): CapOkC X N' scope cap:=by
 unfold qjk at h;simp only [m7,u0] at h;obtain⟨h1,h2,h3,h4,h5⟩:=h;refine⟨hk,fun y hy e=>?_,fun y hy e=>?_,fun y hy e=>?_,by simpa using h4,fun i j e=>?_⟩
 ·have:=h1 y hy;rw [e] at this;simpa using this
 ·have:=h2 y hy;rw [e] at this;simpa using this
 ·have:=h3 y hy
  rw [e] at this;simp only [g03,g1o,Bool.false_or,p6,ni] at this;exact this
 ·have hi:i<cap.length:=(mr.mp e).1
  have:=h5 i (g0f.mpr hi);rw [e] at this;simp only [tx] at this
  split at this
  ·cases this
  ·rename_i x hx
   simp only [m7,ni] at this;exact⟨x,hx,this.1,this.2⟩
end DL
namespace DL
open PySem PySem.Spec PyProof.Rows L2
section
variable{prog:Program}{w:World}{A:Around}{E:Value->Shared->Prop}
theorem qbf{it t:Addr}{items:Array Value}(hne:t≠it): ∀(n i:Nat) (s:Shared) (Q:List Value->Shared->Prop),s.heap.IsListIter it t i->s.heap.IsList t items->i+n<=items.size ->
  (∀h',h'.IsListIter it t (i+n)->Heap.SameBut it s.heap h'->Q ((items.toList.drop i).take n) {s with heap:=h'})->wpAny (model prog w) A (draw (.ref it) n) Q E s
 | 0,i,s,Q,hit,_,_,hQ=>gi (by simpa using hQ s.heap hit (Heap.SameBut.refl ..))
 | n+1,i,s,Q,hit,ht,hle,hQ=>by
  have hlt:i<items.size:=by omega
  refine g6 (wpAny_pyNext_list_item hit ht (x:=items[i]) (by simp [hlt]) fun h1 p1 b1=>g6 (nj (qbf hne n (i+1) _ _ p1 (ht.extBut b1.extBut hne) (by omega) fun h2 p2 b2=>gi ?_)));have q:=hQ h2 (by rw [show i+(n+1)=i+1+n by omega];exact p2) (b1.trans b2);rwa [show items.toList.drop i=items[i] :: items.toList.drop (i+1) by simp [g0a,hlt],List.take_succ_cons] at q
theorem qep{s:Shared}{env:Env}{elts:List Expr}{x1}{pos:Pos}{t:Addr}{items:Array Value}{Q:Unit->Shared->Prop}(hh:A.handled=none)(ht:s.heap.IsList t items)
  (hn:(assignEach elts env).length=items.size) (hstar:(assignEach elts env).findIdx? (·.1)=none)
  (h:∀h',Heap.ExtBut s.heap.objs.size s.heap h'->wpAny (model prog w) A (assignInOrder ((assignEach elts env).map (·.2)) items.toList) Q E {s with heap:=h'}) :
  wpAny (model prog w) A (assign (.Tuple elts x1 pos) env (.ref t)) Q E s:=by
 have hlt:t≠s.heap.objs.size:=by obtain⟨o,ho,_⟩:=ht;exact ma (gs ho)
 rw [assign_Tuple];refine g6 (g1n ?_);unfold unpack;rw [hn,hstar];refine g6 (nj ?_);unfold unpackItems notIterableAtAll;refine g6 (g6 (wpAny_specialOf ht.typeIs slot_list_iter.lookup (gi ?_)));simp only [nr,tq];refine g6 (nj (g0k ht (g6 (nj (qbf hlt items.size 0 _ _ ⟨_,m3 _ rfl,rfl,rfl⟩ (ht.push _) (by omega) fun h1 p1 b1=>?_)))));rw [show List.take items.size (List.drop 0 items.toList)=items.toList by rw [g2c];exact g0n (by simp),m4 (by simp)];refine g6 (nj (wpAny_pyNext_list_end hh p1 ((ht.push _).extBut b1.extBut hlt) (by simp) fun h2 e2=>?_));simp only [Option.isSome_none,nr,tq];exact gi (h h2 fun b o hb e=>e2 b o hb (b1.extBut b o hb (gh _ e)))
end
variable[Lam][Pin]
section
variable{X:Cx}{es:List Expr}{pos:Pos}
theorem qmz{k:Nat}{t:TGs}{n:Nat}(hc:X.calm=true)(h:PGs X es t)(hn:(assignEach es X.env).length=n:=by rfl)(hst:(assignEach es X.env).findIdx? (·.1)=none:=by rfl):
  PG X (.Tuple es k pos) (fun v σ H Q=>∃a xs,v=.ref a/\SqL X.K H a xs/\xs.length=n/\t xs σ H Q):=by
 intro pins s σ H v u Q I r hw;obtain⟨a,xs,e1,hq,hl,hw⟩:=hw;subst e1;cases r;obtain⟨its,rv,ht,hz⟩:=I.list hq;refine qep (I.ok.hd hc) ht.isList (by simp [hn, <- hl,rv.length]) hst fun h' hx=>?_;have I1:Inv X pins σ H {s with heap:=h'}:=I.kept (t':=s.toks) fun b o e=>hx b o (ma (gs e)) e;exact h pins _ σ H xs _ Q I1 (by simpa using rv) hw
def qik(n:Nat)(bs:FBs): FB:=fun d ρ =>match d with
 | .lst ds=>if ds.length=n then bs ds ρ else none
 | _=>none
theorem qn0{k n:Nat}{bs:FBs}(hc:X.calm=true)(h:PGs X es (qau X.K bs))(hn:(assignEach es X.env).length=n:=by rfl)(hst:(assignEach es X.env).findIdx? (·.1)=none:=by rfl): PG X (.Tuple es k pos) (tDG X.K (qik n bs)):=
 qaw (qmz hc h hn hst) fun v σ H Q ⟨F0,H0,F, ρ,d, ρ',r,hr,hb,q⟩=>by
  cases d <;> simp only [qik] at hb <;> first|(cases hb;done)|skip
  rename_i ds
  split at hb
  ·rename_i hl
   obtain⟨a,xs,rfl,h1,h2⟩:=rep_lst.mp hr;exact⟨a,xs,rfl,r.fh.seq h1,by rw [<- h2.length];exact hl,F0,H0,F, ρ,ds, ρ',r,h2,hb,q⟩
  ·cases hb
end
end DL
namespace DL
open PySem PySem.Spec PyProof.Rows L2
variable[Lam][Pin]
section
variable{X:Cx}{pins:List (Addr×Obj)}{σ : St}{F H:Hp}{s:Shared}
end
theorem qgf{P:Program}{w:World}{K:Frag}{mg:Str->Option Value}{base:Heap}{k ar:Nat}{f:Addr}{fd:FuncData}{ps:List Str}: FnOk P w K mg base CX0 k f fd ps (spD K ar fun _=>none):=
 FnOk.mk (fun vs H Q E z=>by
   obtain⟨F,ds,d,_,_,_,h,_⟩:=z;cases h)
  (fun A outer s H args us vs Q E _ _ _ _ z=>by
   obtain⟨F,ds,d,_,_,_,h,_⟩:=z;cases h)
end DL
namespace Fl
open PySem
def Stable(P:Obj->Prop): Prop:=∀o x,P o->P (o.mapFields (·.setIfInBounds 1 x))
def Tr(h base:Heap)(e:Addr)(P:Obj->Prop)(fl:Value): Prop:=
 ∃ob ws T ot us,h.get? e=some ob/\P ob/\ob.data=.fields ws/\ws[1]? = some (.ref T)/\base.get? T=none/\T≠e/\h.get? T=some ot/\ot.data=.fields us/\us[3]? = some fl
def Fly(base:Heap)(l:List Env)(e:Addr)(P:Obj->Prop)(fl:Value)(h:Heap): Prop:=base.StaysIn h/\base.get? e=none/\h.FunFrames base l/\Tr h base e P fl
theorem Fly.there{base h:Heap}{l:List Env}{e:Addr}{P:Obj->Prop}{fl:Value}(x:Fly base l e P fl h): ∃ob ws,h.get? e=some ob/\P ob/\ob.data=.fields ws:=by
 obtain⟨_,_,_,ob,ws,_,_,_,h1,h2,h3,_⟩:=x;exact⟨ob,ws,h1,h2,h3⟩
section
variable{M:Model}{A:Around}{E:Value->Shared->Prop}{s:Shared}{base:Heap}{env:Env}{outer l:List Env}{L e:Addr}{P:Obj->Prop}{Q:Unit->Shared->Prop}{fl:Value}
theorem entry{ob:Obj}{ws:Array Value}{head:Value}{nx:Bool}(st:Stable P)(hfr:A.frames=some (env :: outer))(hl:s.heap.FunFrames base (env :: outer))(hf:env.frame=some L)
  (he:s.heap.get? e=some ob) (hkb:base.StaysIn s.heap) (hen:base.get? e=none) (hp:P ob) (hd:ob.data=.fields ws) (hz:1<ws.size)
  (k:∀h',Fly base (env :: outer) e P (rawInt L) h'->s.heap.UpToSlots h'->Q () {s with heap:=h'}) :
  wpAny M A (do let a <- frameOf env;let pl <- entryPlaceOf L nx;let b <- EntryCells.newEntry head a .none (rawInt L) .none pl;setField (.ref e) 1 b) Q E s:=by
 have nfr:e∉(env :: outer).filterMap (·.frame):=fun z=>by
  obtain⟨_,o,e1,e2⟩:=hl.mem z;rw [he] at e1;cases e1;exact e2 ws hd
 refine g6 (wpAny_frameOf_fun hfr hl hf fun h1 w1=>g6 (wpAny_entryPlaceOf fun pl hpl=>?_));unfold EntryCells.newEntry newFields;refine g6 (nu ?_ (hpl.sizeOk5 _ _ _ _ _));obtain⟨rec,hrec⟩:∃r:Obj,r = {cls:=.type "traceback",dict:=none,data:=.fields ([head,.ref L,.none,rawInt L,.none]++(if pl.isEmpty then List.replicate 6 Value.none else pl)).toArray}:=⟨_,rfl⟩
 rw [<- hrec];have e1:h1.get? e=some ob:=(w1.2.1 e nfr).trans he;have b1:base.StaysIn h1:=fun b o z=>(w1.2.1 b fun y=>by rw [(hl.mem y).1] at z;cases z).trans (hkb b o z);have e2:(h1.push rec).get? e=some ob:=gh _ e1;have nT:h1.objs.size≠e:=td (gs e1);have d3:=ph hd (·.setIfInBounds 1 (Value.ref h1.objs.size));refine uz e2 hd hz (k _ ?_ ?_)
 ·have e3:=pw (Obj.mapFields (·.setIfInBounds 1 (Value.ref h1.objs.size))) e2 (g00 d3)
  have oth:∀b o,b≠e->h1.get? b=some o->((h1.push rec).update e (Obj.mapFields (·.setIfInBounds 1 (Value.ref h1.objs.size)))).get? b=some o:=fun b o z q=>by
   rw [mw _ _ (gu z)];exact gh _ q
  refine⟨fun b o z=>oth b o (fun y=>by rw [y,hen] at z;cases z) (b1 b o z),hen,hl.of_keeps fun b o z nf=>?_,_,_,h1.objs.size,rec,([head,.ref L,.none,rawInt L,.none]++(if pl.isEmpty then List.replicate 6 Value.none else pl)).toArray,e3,st ob _ hp,d3,by simp [hz],b1.fresh,nT,?_,by rw [hrec],?_⟩
  ·obtain⟨sl,q⟩:=w1.2.2 b o z
   exact⟨_,oth b _ (fun y=>by subst y;rw [he] at z;cases z;exact nf ws hd) q,rfl⟩
  ·rw [mw _ _ (gu nT)]
   exact m3 h1 (by rw [hrec];rfl)
  ·rcases hpl with rfl|⟨_,_,_,_,_,_,_,rfl⟩ <;> simp
 ·intro b o z nf
  obtain⟨sl,q⟩:=w1.2.2 b o z;refine⟨sl,?_⟩;rw [mw _ _ (fun y=>by subst y;rw [he] at z;cases z;exact nf ws hd)];exact gh _ q
theorem off(x:Fly base l e P fl s.heap)(k:∀h',Fly base l e P .none h'->s.heap.UpToSlots h'->Q () {s with heap:=h'}): wpAny M A (setFlight (.ref e) none) Q E s:=by
 obtain⟨hkb,hen,hl,ob,ws,T,ot,us,e1,hp,hd,e2,e3,e4,e5,e6,e7⟩:=x;have z3:3<us.size:=(nt.mp e7).1;unfold setFlight;refine g6 (n8 e1 hd e2 ?_);rw [gw (show(Value.ref T != Value.none)=true by simp)];have oth:∀b,b≠T->(s.heap.update T (Obj.mapFields (·.setIfInBounds 3 ((none:Option Addr).elim Value.none fun f=>rawInt f)))).get? b=s.heap.get? b:=fun b z=>mw _ _ (gu z);have nT:∀b o,s.heap.get? b=some o->(∀vs,o.data ≠ .fields vs)->b≠T:=fun b o z nf y=>by subst y;rw [e5] at z;cases z;exact nf us e6
 refine uz e5 e6 z3 (k _ ⟨fun b o z=>(oth b fun y=>by rw [y,e3] at z;cases z).trans (hkb b o z),hen,hl.of_keeps fun b o z nf=>⟨o,(oth b (nT b o z nf)).trans z,rfl⟩,ob,ws,T,_,_,(oth e (gu e4)).trans e1,hp,hd,e2,e3,e4,
  pw _ e5 (g00 (ph e6 _)),ph e6 _,by simp [z3]⟩ fun b o z nf=>⟨o.slots,(oth b (nT b o z nf)).trans z⟩)
theorem first{ob:Obj}{ws:Array Value}(st:Stable P)(hfr:A.frames=some (env :: outer))(hl:s.heap.FunFrames base (env :: outer))(hf:env.frame=some L)(he:s.heap.get? e=some ob)(hkb:base.StaysIn s.heap)(hen:base.get? e=none)(hp:P ob)(hd:ob.data=.fields ws)(h1:ws[1]? = some .none)
  (k:∀h',Fly base outer e P .none h'->s.heap.UpToSlots h'->Q () {s with heap:=h'}):wpAny M A (leaving env (.ref e)) Q E s:=by
 unfold leaving noteFrame;simp only [hf];refine g6 (g6 (n8 he hd h1 ?_));rw [m4 (by decide)];refine entry st hfr hl hf he hkb hen hp hd (nt.mp h1).1 fun h' x u=>off x fun h2 y u2=>?_;obtain⟨y1,y2,⟨_,_,y3⟩,y4⟩:=y;exact k h2 ⟨y1,y2,y3,y4⟩ (u.trans u2)
theorem note(st:Stable P)(hfr:A.frames=some (env :: outer))(hf:env.frame=some L)(x:Fly base (env :: outer) e P .none s.heap)
  (k:∀h',Fly base (env :: outer) e P (rawInt L) h'->s.heap.UpToSlots h'->Q () {s with heap:=h'}):wpAny M A (noteFrame (.ref e) env) Q E s:=by
 obtain⟨hkb,hen,hl,ob,ws,T,ot,us,e1,hp,hd,e2,e3,e4,e5,e6,e7⟩:=x;unfold noteFrame;simp only [hf];refine g6 (n8 e1 hd e2 ?_);rw [gw (show(Value.ref T != Value.none)=true by simp)];refine g6 (n8 e5 e6 e7 ?_);rw [m4 (show ¬((Value.none==rawInt L)=true) by simp [rawInt])];refine g6 (uz e5 e6 (nt.mp e7).1 ?_);have oth:∀b,b≠T->(s.heap.update T (Obj.mapFields (·.setIfInBounds 3 Value.none))).get? b=s.heap.get? b:=fun b z=>mw _ _ (gu z);have nT:∀b o,s.heap.get? b=some o->(∀vs,o.data ≠ .fields vs)->b≠T:=fun b o z nf y=>by subst y;rw [e5] at z;cases z;exact nf us e6
 refine entry st hfr (hl.of_keeps fun b o z nf=>⟨o,(oth b (nT b o z nf)).trans z,rfl⟩) hf ((oth e (gu e4)).trans e1) (fun b o z=>(oth b fun y=>by rw [y,e3] at z;cases z).trans (hkb b o z)) hen hp hd (nt.mp e2).1 fun h' y u=>k h' y fun b o z nf=>u b o ((oth b (nT b o z nf)).trans z) nf
end
end Fl
namespace DL
open PySem PySem.Spec PyProof.Rows L2
def PX(C:Addr)(od:Option Addr): Obj->Prop:=fun o=>o.cls=.ref C/\o.dict=od
theorem PX.st{C:Addr}{od:Option Addr}: Fl.Stable (PX C od):=fun o x h=>by
 obtain⟨oc,odd,dt,sl⟩:=o;cases dt <;> exact h
def CXR(P:Program)(w:World): CXT:=fun outer H s E e s'=>s'.os=s.os/\AllBare s'.gens/\∃(B:Heap) (H':Hp) (a C:Addr) (od:Option Addr),e=.ref a /\
 Fl.Fly B outer a (PX C od) .none s'.heap/\(∀h6,B.StaysIn h6->s'.heap.UpToSlots h6->Un (frs outer) [] H H' s.heap h6/\HOk P w H' h6) /\
 s.heap.get? a=none/\H' a=none/\E (.ref C) od H'
theorem has_obj{P:Program}{w:World}{H:Hp}{h:Heap}{a:Addr}{o:HO}(x:ObjOk P w H h a o): ∃ob,h.get? a=some ob:=by
 cases o with
 | lst xs=>obtain⟨_,_,_,_,e⟩:=x;exact⟨_,e⟩
 | tup xs=>obtain⟨_,_,_,ob,e,_⟩:=x;exact⟨_,e⟩
 | dK kvs=>obtain⟨_,_,_,_,o,_,_,e,_⟩:=x;exact⟨_,e⟩
 | dT kvs=>obtain⟨_,_,_,_,o,_,_,e,_⟩:=x;exact⟨_,e⟩
 | set S n=>obtain⟨o,_,_,_,e,_⟩:=x;exact⟨_,e⟩
 | ins C dx fs=>obtain⟨_,_,_,e,_⟩:=x;exact⟨_,e⟩
 | own y=>obtain⟨_,e⟩:=x;exact⟨_,e⟩
 | xd fs=>obtain⟨_,⟨_,_,_,e,_⟩,_⟩:=x;exact⟨_,e⟩
 | rng lo hi=>obtain⟨_,_,_,e⟩:=x;exact⟨_,e⟩
 | frz ob u=>obtain⟨e,_⟩:=x;exact⟨_,e⟩
 | tbl ps=>exact⟨_,(show h.get? a=some _ from x)⟩
 | met f y=>exact⟨_,(show h.get? a=some _ from x)⟩
 | ext φ =>obtain⟨_,⟨_,e⟩,_⟩:=x;exact⟨_,e⟩
section
variable{P:Program}{w:World}{K:Frag}{mg:Str->Option Value}{base:Heap}{N:List Str}{qual:Str}{scope:Scope}{f:Addr}{cd:Value}{A:Around}{outer:List Env}{s0:Shared}{H0:Hp}{E:XK}
variable{pins:List (Addr×Obj)}{σ : St}{H:Hp}{s:Shared}
theorem qkf{l:List Env}: (envOfC qual scope s0.heap.objs.size f cd :: l).filterMap (·.frame)=s0.heap.objs.size :: l.filterMap (·.frame):=rfl
theorem qgg{C e:Addr}{od:Option Addr}{ob:Obj}{ws:Array Value}(I:Inv (z7 (CXR P w) P w K mg base N qual scope f cd A outer s0 H0 E) pins σ H s)(he:s.heap.get? e=some ob)(hp:PX C od ob)(hd:ob.data=.fields ws)(hw1:ws[1]? = some .none)(hH:H e=none)(hs0:s0.heap.get? e=none)(q:E (.ref C) od H):
  (z7 (CXR P w) P w K mg base N qual scope f cd A outer s0 H0 E).xe (.ref e) s:=by
 have hfr:=I.ok.frames;have hst:=I.stack;obtain⟨hid,hhid⟩:∃l,l=e :: (envOfC qual scope s0.heap.objs.size f cd :: outer).filterMap (·.frame):=⟨_,rfl⟩
 have hin:∀env∈(envOfC qual scope s0.heap.objs.size f cd :: outer),∀b,env.frame=some b->b∈hid:=fun env he b hb=>by rw [hhid];exact m5 _ (g1g.mpr ⟨env,he,hb⟩)
 have hen:(PySem.W.hideAll s.heap hid).get? e=none:=PySem.W.hideAll_none _ (by rw [hhid];exact mj);refine Fl.first (base:=PySem.W.hideAll s.heap hid) PX.st hfr (PySem.W.funFrames_hide hst hin) rfl he (fun b o q=>PySem.W.of_hideAll _ q) hen hp hd hw1 fun h2 x1 x4=>?_;have stays:∀h6,(PySem.W.hideAll s.heap hid).StaysIn h6->∀b o,s.heap.get? b=some o->b≠e->b∉(envOfC qual scope s0.heap.objs.size f cd :: outer).filterMap (·.frame)->h6.get? b=some o:=
  fun h6 st b o e1 ne n=>st b o (PySem.W.hideAll_get _ e1 (by rw [hhid];intro z;exact(mf.mp z).elim ne n))
 have there0:∀b o,s0.heap.get? b=some o->∃o',s.heap.get? b=some o':=fun b o e=>I.base.there b o e (by intro z;cases z);have ne0:∀b o,s0.heap.get? b=some o->b≠e:=fun b o e1 z=>by subst z;rw [hs0] at e1;cases e1
 have any:∀h6,(PySem.W.hideAll s.heap hid).StaysIn h6->h2.UpToSlots h6->∀b o,s.heap.get? b=some o->b≠e->∃sl,h6.get? b=some {o with slots:=sl}:=fun h6 st u b o e1 ne=>by
  by_cases hb:b∈(envOfC qual scope s0.heap.objs.size f cd :: outer).filterMap (·.frame)
  ·obtain⟨_,o',e',nf⟩:=hst.mem hb
   rw [e1] at e';cases e';exact(x4.trans u) b o e1 nf
  ·exact⟨o.slots,stays h6 st b o e1 ne hb⟩
 refine⟨I.os,I.bare,_,H,e,C,od,rfl,x1,fun h6 st u=>⟨⟨fun b o e1 n hb _=>?_,fun b o e1 n hb _=>?_,fun b o e n _=>?_,fun b o e1 _=>?_,fun b xs e=>I.base.tups b xs e,fun b o xs e=>I.base.frzs b o xs e,fun b ps e=>I.base.tbls b ps e⟩,fun b o e1=>?_⟩,hs0,hH,q⟩
 ·have e2:=I.base.keep b o e1 n hb (by intro z;cases z)
  refine stays h6 st b o e2 (ne0 b o e1) fun z=>?_;rw [qkf] at z;rcases mf.mp z with z|z
  ·rw [z] at e1;exact absurd (gs e1) (ny _)
  ·exact hb z
 ·obtain⟨sl,e2⟩:=I.base.slot b o e1 n hb (by intro z;cases z)
  obtain⟨sl',e3⟩:=any h6 st u b _ e2 (ne0 b o e1);exact⟨sl',e3⟩
 ·exact I.base.free b o e n (by intro z;cases z)
 ·obtain⟨o',e2⟩:=there0 b o e1
  obtain⟨sl,e3⟩:=any h6 st u b o' e2 (ne0 b o e1);exact⟨_,e3⟩
 ·refine(I.hok b o e1).stay (fun c v hc r=>?_) (fun _ z=>z) fun _ _ z=>z
  have nc:c≠e:=fun z=>by
   subst z;rcases hc with hc|hc
   ·rw [hc,e1] at hH;cases hH
   ·rw [hH] at hc;cases hc
  refine stays h6 st c v r nc fun z=>?_;have n:=I.stkFree c z;rcases hc with hc|hc
  ·rw [hc,e1] at n;cases n
  ·rw [n] at hc;cases hc
end
abbrev vB:List Value:=[.type "ValueError",.type "Exception",.type "BaseException",.type "object"]
theorem qkg:vB.contains (.type "BaseException")=true:=g05.hasBase
section
variable{P:Program}{w:World}{K:Frag}{mg:Str->Option Value}{base:Heap}{N:List Str}{qual:Str}{scope:Scope}{f:Addr}{cd:Value}{A:Around}{outer:List Env}{s0:Shared}{H0:Hp}{E:XK}
end
section
variable{X:Cx}{pins:List (Addr×Obj)}{σ σ1:St}{H H1:Hp}{s s1:Shared}
theorem qbg{p:Addr}{o:HO}(I0:Inv X pins σ H s)(hp0:s.heap.get? p=none)(I:Inv X pins σ1 H1 s1)(hp:H1 p=none)(new:ObjOk X.prog X.w (upd H1 p o) s1.heap p o): Inv X pins σ1 (upd H1 p o) s1:=by
 have ne:∀ {b:Addr} {u:HO},H1 b=some u->upd H1 p o b=some u:=fun {b u} e=>by rw [qo (je e hp)];exact e
 have nz:∀b ob,s.heap.get? b=some ob->b≠p:=fun b ob e z=>by subst z;rw [hp0] at e;cases e
 refine⟨I.ok,I.os,I.bare,⟨I.base.keep,I.base.slot,fun b ob e n hx=>?_,I.base.there,fun b xs e=>ne (I.base.tups b xs e),fun b ob xs e=>ne (I.base.frzs b ob xs e),fun b ps e=>?_⟩,I.loc,I.cell,?_,fun y c e=>?_,fun q hq=>?_,fun b u e=>?_,I.len⟩
 ·obtain⟨o',e1⟩:=I0.base.there b ob e hx
  rw [qo (nz b o' e1)];exact I.base.free b ob e n hx
 ·obtain⟨more,e1⟩:=I.base.tbls b ps e
  exact⟨more,ne e1⟩
 ·obtain⟨m,⟨ob,_,_,ho,_⟩,_⟩:=I0.loc
  rw [qo (nz _ ob ho)];exact I.free
 ·obtain⟨v,ob,ho,_⟩:=I0.cell y c e
  rw [qo (nz _ ob ho)];exact I.freeC y c e
 ·obtain⟨e1,e2,e3⟩:=I.pin q hq
  obtain⟨f1,_⟩:=I0.pin q hq;exact⟨e1,by rw [qo (nz _ _ f1)];exact e2,e3⟩
 ·by_cases hb:b=p
  ·subst hb;rw [qv] at e;cases e;exact new
  ·rw [qo hb] at e
   exact(I.hok b u e).stay (fun c v _ q=>q) (fun c q=>ne q) fun c xs q=>ne q
abbrev inX(X:Cx)(a:Addr): Cx:={X with A:=X.A.mark (some (.ref a)),calm:=false,xe:=fun _ _=>False}
theorem qn1{a:Addr}(ok:X.Ok): (inX X a).Ok:=
 ⟨ok.mod,ok.kind,ok.glob,ok.blt,ok.above,ok.inj,ok.has,ok.cab,(fun z=>by cases z),ok.frames,ok.stk,ok.exf,ok.bs,ok.bsz,ok.noex,ok.exfs,ok.funs,ok.frf⟩
theorem qdp{a:Addr}(I:Inv X pins σ H s): Inv (inX X a) pins σ H s:=⟨qn1 I.ok,I.os,I.bare,I.base,I.loc,I.cell,I.free,I.freeC,I.pin,I.hok,I.len⟩
theorem q3t{a:Addr}(ok:X.Ok)(I:Inv (inX X a) pins σ H s): Inv X pins σ H s:=⟨ok,I.os,I.bare,I.base,I.loc,I.cell,I.free,I.freeC,I.pin,I.hok,I.len⟩
end
def qil(i:Nat)(D:Ends): Ends:={nx:=fun σ H=>D.nx (σ.set i none) H,rt:=D.rt,bk:=fun σ H=>D.bk (σ.set i none) H,ct:=fun σ H=>D.ct (σ.set i none) H}
section
variable{X:Cx}{pins:List (Addr×Obj)}{σ : St}{H:Hp}{s:Shared}
theorem name_goes{M:Model}{A:Around}{E:Value->Shared->Prop}{i:Nat}{n:Str}{pos:Pos}{Q:Unit->Shared->Prop}(I:Inv X pins σ H s)(hN:X.N.Nodup)(hi:X.N[i]? = some n)(hx:X.env.scope.names.lookup n=some .local)
  (h:∀s',Inv X pins (σ.set i none) H s'->Q () s'):wpAny M A (do bindName X.env n .none;unbindBehindTheSuite X.env n pos) Q E s:=by
 obtain⟨m,hn,hl⟩:=id I.loc;have hcls:(X.env.scope.kind == .class || (X.env.scope.kind == .module&&X.env.locals != X.env.globals))=false:=by rw [I.ok.kind];rfl
 refine wpAny_nameGoes_keeps hx hn hcls fun h' v hn' hs=>h _ ?_;have same:∀b o,b≠X.env.locals->s.heap.get? b=some o->h'.get? b=some o:=fun b o q e=>(hs.2 b q).trans e;have l0:∀b o,X.s₀.heap.get? b=some o->b≠X.env.locals:=fun b o e=>ma (gy (gs e) I.ok.above);refine⟨I.ok,I.os,I.bare,⟨fun b o e n hb hx=>?_,fun b o e n hb hx=>?_,I.base.free,fun b o e hx=>?_,I.base.tups,I.base.frzs,I.base.tbls⟩,⟨_,hn',fun j y v' e1 e2 e3=>?_⟩,fun y c e=>?_,I.free,I.freeC,fun p hp=>?_,fun b u e=>?_,by simpa using I.len⟩
 ·exact same b o (l0 b o e) (I.base.keep b o e n hb hx)
 ·obtain⟨sl,e1⟩:=I.base.slot b o e n hb hx
  exact⟨sl,same b _ (l0 b o e) e1⟩
 ·obtain⟨o',e1⟩:=I.base.there b o e hx
  exact⟨o',same b _ (l0 b o e) e1⟩
 ·by_cases hj:j=i
  ·subst hj
   rw [uo] at e2;simp only [nv] at e2
   split at e2 <;> cases e2
  ·rw [gf (gu hj)] at e2
   obtain⟨u,r,l⟩:=hl j y v' e1 e2 e3;have hy:y≠n:=fun z=>by
    subst z;exact hj ((List.getElem?_inj (mr.mp e1).1 hN).mp (e1.trans hi.symm))
   refine⟨u,r,?_⟩;rcases l with⟨k,l⟩|⟨k,c,e,z⟩
   ·exact .inl ⟨k,(show(if y=n then v else m y)=m y from m4 hy).trans l⟩
   ·obtain⟨o,ho,hd⟩:=z
    exact .inr ⟨k,c,e,o,same c o (I.cne y c e) ho,hd⟩
 ·obtain⟨v',o,ho,hd⟩:=I.cell y c e
  exact⟨v',o,same c o (I.cne y c e) ho,hd⟩
 ·obtain⟨e1,e2,e3,e4,e5⟩:=I.pin p hp
  exact⟨same _ _ e3 e1,e2,e3,e4,e5⟩
 ·refine(I.hok b u e).stay (fun c w' hc q=>same c _ ?_ q) (fun _ q=>q) fun _ _ q=>q
  rintro rfl
  rcases hc with hc|hc
  ·rw [<- hc,I.free] at e;cases e
  ·rw [I.free] at hc;cases hc
theorem qn2{D:Ends}{f:Flow}{s':Shared}{a:Addr}{i:Nat}{n:Str}{pos:Pos}{M:Model}{A:Around}{E:Value->Shared->Prop}(ok:X.Ok)(hN:X.N.Nodup)(hi:X.N[i]? = some n)(hx:X.env.scope.names.lookup n=some .local)(h:SP (inX X a) pins (qil i D) f s'):
  wpAny M A (do bindName X.env n .none;unbindBehindTheSuite X.env n pos) (fun _ s5=>SP X pins D f s5) E s':=by
 cases f with
 | next=>obtain⟨σ',H',I,q⟩:=h;exact name_goes (q3t ok I) hN hi hx fun s5 I5=>⟨_,H',I5,q⟩
 | brk=>obtain⟨σ',H',I,q⟩:=h;exact name_goes (q3t ok I) hN hi hx fun s5 I5=>⟨_,H',I5,q⟩
 | cont=>obtain⟨σ',H',I,q⟩:=h;exact name_goes (q3t ok I) hN hi hx fun s5 I5=>⟨_,H',I5,q⟩
 | ret u=>obtain⟨v, σ',H',I,r,q⟩:=h;exact name_goes (q3t ok I) hN hi hx fun s5 I5=>⟨v,_,H',I5,r,q⟩
end
end DL
namespace DL
open PySem PySem.Spec PyProof.Rows L2
variable[Lam][Pin]
def qbh(n:Nat)(ds:List D): Rho:=ds.map (fun d=>some (.fz d))++List.replicate (n-ds.length) none
theorem qim{K:Frag}{F H:Hp}{N:List Str}{ds:List D}{vs:List V}(fh:SameT F H)(rl:RepL K F ds vs)(hl:ds.length<=N.length): RS K F H F H (L2.start N vs) (qbh N.length ds):=by
 have hlen:=rl.length;have no:∀ {i:Nat} {b:B},(qbh N.length ds)[i]? = some (some b)->∃d,ds[i]? = some d/\b=.fz d:=fun {i b} h1=>by
  unfold qbh at h1
  by_cases hi:i<ds.length
  ·rw [mv (by simpa using hi),m9] at h1
   cases z:ds[i]? with
   | none=>rw [z] at h1;cases h1
   | some d'=>rw [z] at h1;cases h1;exact⟨d',rfl,rfl⟩
  ·rw [n9 (by simpa using hi),nh] at h1
   split at h1 <;> cases h1
 exact {
  t0:=⟨fh.t,fh.f⟩
  g:=.refl fh.s
  len:=by unfold L2.start qbh;simp only [mq,gx,uw];lia
  fz:=fun i e h1=>by
   obtain⟨d,z,e1⟩:=no h1;cases e1;obtain⟨v,e1,e2⟩:=rl.get z;exact⟨v,q8y e1,e2⟩
  ow:=fun i es h1=>by obtain⟨d,z,e1⟩:=no h1;cases e1
  dj:=fun i j us es a _ h1=>by obtain⟨d,z,e1⟩:=no h1;cases e1
  od:=fun i us h1=>by obtain⟨d,z,e1⟩:=no h1;cases e1
  o1:=fun i j us es h1=>by obtain⟨d,z,e1⟩:=no h1;cases e1}
section
variable{X:Cx}{K:Frag}{F0 H0 F H:Hp}{σ : St}{ρ : Rho}
theorem RS.unset(r:RS K F0 H0 F H σ ρ)(i:Nat): RS K F0 H0 F H (σ.set i none) (ρ.set i none):=by
 have back:∀ {j:Nat} {b:B},(ρ.set i none)[j]? = some (some b)->j≠i /\ ρ[j]? = some (some b):=fun {j b} h=>by
  by_cases q:j=i
  ·subst q;obtain⟨z,_⟩:=qm h;cases z
  ·rw [gf (gu q)] at h;exact⟨q,h⟩
 exact {
  t0:=r.t0
  g:=r.g
  len:=by rw [my,my];exact r.len
  fz:=fun j e h=>by
   obtain⟨q,h⟩:=back h;rw [gf (gu q)];exact r.fz j e h
  ow:=fun j e h=>by
   obtain⟨q,h⟩:=back h;rw [gf (gu q)];exact r.ow j e h
  dj:=fun j k ds es a hjk h1 h2 h3=>by
   obtain⟨q1,h1⟩:=back h1;obtain⟨q2,h2⟩:=back h2;rw [gf (gu q1)] at h3;rw [gf (gu q2)];exact r.dj j k ds es a hjk h1 h2 h3
  od:=fun j kvs h=>by
   obtain⟨q,h⟩:=back h;obtain⟨a,bs,e1,e2,e3⟩:=r.od j kvs h;rw [gf (gu q)];refine⟨a,bs,e1,e2,fun k es b h2 h3=>?_⟩;obtain⟨q2,h2⟩:=back h2;rw [gf (gu q2)];exact e3 k es b h2 h3
  o1:=fun j k k1 k2 h1 h2=>by
   obtain⟨q1,h1⟩:=back h1;obtain⟨q2,h2⟩:=back h2;exact r.o1 j k k1 k2 h1 h2}
def isX(x:Str)(b:Bool): D->Option D
 | .exc y _=>if x=y then some (.bl b) else none
 | _=>none
theorem q6h{x:Str}{b:Bool}{d d':D}(h:isX x b d=some d'): ∃f,d=.exc x f/\d'=.bl b:=by
 unfold isX at h
 split at h
 ·split at h
  ·rename_i e;subst e;cases h;exact⟨_,rfl,rfl⟩
  ·cases h
 ·cases h
theorem qbi{x:Str}{b:Bool}{C:Addr}{v2:V}{c:Value}(hns:PySem.W.nsIn X.K mainGlobals x=some (some (.ref C)))(hv:∀u,RelV v2 u->u=c)(hk:PySem.W.kitOne X.K (.ref C) c=some b):
  jw X (.builtin "isinstance") (fun xs H Q=>∃y F f,xs=[y,v2]/\Same F H/\Rep X.K F (.exc x f) y/\Q (.bl b) H):=by
 intro pins s σ H xs us Q I r h;obtain⟨y,F,fx,rfl,fh,rd,q⟩:=h;obtain⟨u,w',rfl,rx,rt⟩:=r.two;obtain rfl:=hv _ rt;obtain⟨a,C',rfl,⟨od',h1,_⟩,h2,c1,c2⟩:=rep_exc.mp rd;rw [hns] at h2;cases h2;cases rx;obtain⟨J,_,_⟩:=(show ObjOk X.prog X.w H s.heap a _ from I.hok a _ (fh _ _ h1))
 exact g0x (q6c c1) I.kIn J hk (fun z=>nomatch z) (fun tk=>⟨.bl _,H,I.tok _,rfl,q⟩)
variable{e:Expr}{pos:Pos}{f:FE}
theorem qkh{x y:Str}{b:Bool}{C C2:Addr}{p px:Pos}(hns:PySem.W.nsIn X.K mainGlobals x=some (some (.ref C)))(hk:PySem.W.kitOne X.K (.ref C) (.ref C2)=some b)(hg:Gl X "isinstance")(hm:X.mg "isinstance" = none)(hgT:Gl X y)(hmT:X.mg y=some (.ref C2))(ha:PE X e (tD X.K f))
  (hdT:(y==("__debug__" : Str))=false:=by decide) (he2:starEach [e,.Name y px] X.env=(false,eval e X.env) :: starEach [.Name y px] X.env:=by rfl) :
  PE X (.Call (.Name "isinstance" p) [e,.Name y px] [] pos) (tD X.K (eUn (isX x b) f)):=
 zc (q1t (qbi (v2:=.ref C2) hns (fun u h=>by cases h;rfl) hk) hg hm q3r (zw ha (zw (q00 (v:=.ref C2) hgT hmT rfl hdT) kx) he2) (by decide) (by decide) he2 rfl) fun σ H Q ⟨F0,H0,F, ρ,d,r,hf,q⟩=>by
  obtain⟨d',h1,h2⟩:=g9.mp hf;obtain⟨fx,rfl,rfl⟩:=q6h h2;exact⟨F0,H0,F, ρ,_,r,h1,fun v F' H' g' r'=>⟨v,F',fx,rfl,g'.fh,r',q _ F' H' g' (rep_bl.mpr rfl)⟩⟩
theorem qki{x y:Str}{b:Bool}{C:Addr}{T:String}{p px:Pos}(hns:PySem.W.nsIn X.K mainGlobals x=some (some (.ref C)))(hk:PySem.W.kitOne X.K (.ref C) (.type T)=some b)(hg:Gl X "isinstance")(hm:X.mg "isinstance" = none)(hgT:Gl X y)(hmT:X.mg y=none)(hvT:bootBuiltins y=some (.type T))(ha:PE X e (tD X.K f))
  (hnT:y≠"__name__" :=by decide) (hdT:(y==("__debug__" : Str))=false:=by decide) (he2:starEach [e,.Name y px] X.env=(false,eval e X.env) :: starEach [.Name y px] X.env:=by rfl) :
  PE X (.Call (.Name "isinstance" p) [e,.Name y px] [] pos) (tD X.K (eUn (isX x b) f)):=
 zc (q1t (qbi (v2:=.ty T) hns (fun u h=>by cases h;rfl) hk) hg hm q3r (zw ha (zw (qd5 (v:=.ty T) hgT hmT hvT rfl hnT hdT) kx) he2) (by decide) (by decide) he2 rfl) fun σ H Q ⟨F0,H0,F, ρ,d,r,hf,q⟩=>by
  obtain⟨d',h1,h2⟩:=g9.mp hf;obtain⟨fx,rfl,rfl⟩:=q6h h2;exact⟨F0,H0,F, ρ,_,r,h1,fun v F' H' g' r'=>⟨v,F',fx,rfl,g'.fh,r',q _ F' H' g' (rep_bl.mpr rfl)⟩⟩
theorem q94:∀ {Cs:List Addr} {us:List Value},Vals (Cs.map V.ref) us->us=Cs.map Value.ref
 | [],_,h=>by cases h;rfl
 | _ :: _,_,h=>by cases h with|cons p q=>cases p;rw [q94 q];rfl
theorem qgh{x:Str}{b:Bool}{C:Addr}{Cs:List Addr}(hns:PySem.W.nsIn X.K mainGlobals x=some (some (.ref C)))(hk:PySem.W.kitAny X.K (.ref C) (Cs.map Value.ref)=some b):
  jw X (.builtin "isinstance") (fun xs H Q=>∃y F p f,xs=[y,.ref p]/\H p=some (.tup (Cs.map V.ref))/\Same F H/\Rep X.K F (.exc x f) y/\Q (.bl b) H):=by
 intro pins s σ H xs us Q I r h;obtain⟨y,F,p,fx,rfl,hp,fh,rd,q⟩:=h;obtain⟨u,w',rfl,rx,rt⟩:=r.two;cases rt;obtain⟨a,C',rfl,⟨od',h1,_⟩,h2,c1,c2⟩:=rep_exc.mp rd;rw [hns] at h2;cases h2;cases rx;obtain⟨J,_,_⟩:=(show ObjOk X.prog X.w H s.heap a _ from I.hok a _ (fh _ _ h1))
 obtain⟨_,its,rv,⟨oc,od,dt,sl⟩,e1,e2,_,n,e3⟩:=(show ObjOk X.prog X.w H s.heap p _ from I.hok p _ hp)
 cases q94 rv;dsimp only at e2 e3;subst e2 e3;exact PySem.W.kia_tup (q6c c1) I.kIn J e1 hk (fun z=>nomatch z) (fun tk=>⟨.bl _,H,I.tok _,rfl,q⟩)
theorem qdq{x:Str}{b:Bool}{C:Addr}{Cs:List Addr}{p px:Pos}{es:List Expr}{x1}{t:TA}(hns:PySem.W.nsIn X.K mainGlobals x=some (some (.ref C)))(hk:PySem.W.kitAny X.K (.ref C) (Cs.map Value.ref)=some b)(hg:Gl X "isinstance")(hm:X.mg "isinstance" = none)(hl:Cs.length<=sizeLine)
  (hes:PA X es t) (ht:∀ σ H Q,Q (Cs.map V.ref) H->t σ H Q) (ha:PE X e (tD X.K f)) (he2:starEach [e,.Tuple es x1 px] X.env=(false,eval e X.env) :: starEach [.Tuple es x1 px] X.env:=by rfl) :
  PE X (.Call (.Name "isinstance" p) [e,.Tuple es x1 px] [] pos) (tD X.K (eUn (isX x b) f)):=
 zc (q1t (qgh hns hk) hg hm q3r (zw ha (zw (qfl hes) kx) he2) (by decide) (by decide) he2 rfl) fun σ H Q ⟨F0,H0,F, ρ,d,r,hf,q⟩=>by
  obtain⟨d',h1,h2⟩:=g9.mp hf;obtain⟨fx,rfl,rfl⟩:=q6h h2;refine⟨F0,H0,F, ρ,_,r,h1,fun v F' H' g' r'=>ht _ _ _ ⟨by rw [gx];exact hl,fun p hp=>?_⟩⟩;have g2:Grow F' H' F' (upd H' p (.tup (Cs.map V.ref))):=Grow.own g'.fh hp;exact⟨v,F',p,fx,rfl,qv,g2.fh,r',q _ F' _ (g'.trans g2) (rep_bl.mpr rfl)⟩
end
end DL
namespace DL
open PySem
theorem qkj{K:Frag}{C:Addr}(h1:PySem.W.kitOne K (.ref C) (.type "int")=some false)(h2:PySem.W.kitOne K (.ref C) (.type "bool")=some false)(h3:PySem.W.kitOne K (.ref C) (.type "tuple")=some false)(h4:PySem.W.kitOne K (.ref C) (.type "list")=some false)
  (h5:PySem.W.kitOne K (.ref C) (.type "str")=some false) (h6:PySem.W.kitOne K (.ref C) (.type "dict")=some false):∀T:String,T∈["int","bool","tuple","list","str","dict"]->PySem.W.kitOne K (.ref C) (.type T)=some false:=by
 intro T hT;simp only [mf,g0r,uk] at hT;rcases hT with rfl|rfl|rfl|rfl|rfl|rfl <;> assumption
end DL
namespace DL
open PySem PySem.Spec PyProof.Rows L2
variable[Lam][Pin]
section
variable{P:Program}{w:World}{K:Frag}{mg:Str->Option Value}{base:Heap}{N:List Str}{qual:Str}{scope:Scope}{f:Addr}{cd:Value}{A:Around}{outer:List Env}{s0:Shared}{H0:Hp}{E:XK}
end
section
variable{X:Cx}{e:Expr}{pos:Pos}{f:FE}
theorem qou{K:Frag}{z:Int->Int->Int}{i:Nat}{D:Ends}{σ : St}{H:Hp}(h:tDS K (zy i (eOp (oI (fun _ _=>true) z) (eV i) f)) D σ H): qlx i (tD K f) (ipI z) D σ H:=by
 obtain⟨F0,H0,F, ρ,fl, ρ',r,hf,q⟩:=h;obtain⟨d,h1,h2⟩:=gj.mp hf;cases h2;obtain⟨d1,h3,h1⟩:=g9.mp h1;obtain⟨d2,h4,h5⟩:=g9.mp h1;obtain⟨a,b,rfl,rfl,c,rfl⟩:=q7w h5;obtain⟨v,e1,e2⟩:=r.fz _ _ (qde h3);refine⟨v,e1,F0,H0,F, ρ,.int b,r,h4,fun w F' H' g' r'=>⟨a,b,rep_int.mp e2,rep_int.mp r',?_⟩⟩;exact q _ F' H' g'.ff ((r.grow g').set _ (rep_int.mpr rfl))
theorem qkk{i:Nat}{x:Str}{px:Pos}(hN:X.N.Nodup)(hi:X.N[i]? = some x)(hx:Loc X.env.scope x)(he:PE X e (tD X.K f))(hf:X.fn x=true\/X.env.scope.names.lookup x=some .local:=by first|exact .inl rfl|exact .inr rfl|assumption):
  PS X (.AugAssign (.Name x px) .Sub e pos) (tDS X.K (zy i (eOp oSub (eV i) f))):=jj (qly hN hi hx he qlz hf) fun D σ H h=>qou h
end
abbrev Flds:=List (Str×D)
def vm(i:Nat)(ρ : Rho): Option (Str×Flds):=match ρ[i]? with
 | some (some (.od o))=>some o
 | _=>none
omit [Lam] [Pin] in
theorem xc{i:Nat}{ρ : Rho}{o:Str×Flds}(h:vm i ρ = some o): ρ[i]? = some (some (.od o)):=by
 unfold vm at h
 split at h
 ·rename_i e;rw [e,mn h]
 ·cases h
def putD(f:Str)(d:D): Flds->Flds
 | []=>[(f,d)]
 | (g,x) :: r=>if g=f then(g,d) :: r else(g,x) :: putD f d r
section
omit [Lam] [Pin]
variable{K:Frag}{F:Hp}
theorem FsR.get{f:Str}{d:D}: ∀ {fs:Flds} {vs:List (Str×V)},FsR K F fs vs->fs.lookup f=some d->∃v,vs.lookup f=some v/\Rep K F d v
 | [],_,_,h=>by cases h
 | p :: fs,_,⟨v,r,rfl,h1,h2⟩,h=>by
  rw [mm] at h ⊢;cases e:f==p.1 with
  | true=>rw [e] at h;cases h;exact⟨v,rfl,h1⟩
  | false=>rw [e] at h;exact FsR.get h2 h
theorem FsR.miss{f:Str}: ∀ {fs:Flds} {vs:List (Str×V)},FsR K F fs vs->fs.lookup f=none->vs.lookup f=none
 | [],_,h,_=>by cases h;rfl
 | p :: fs,_,⟨v,r,rfl,h1,h2⟩,h=>by
  rw [mm] at h ⊢;cases e:f==p.1 with
  | true=>rw [e] at h;cases h
  | false=>rw [e] at h;exact FsR.miss h2 h
theorem FsR.len:∀ {fs:Flds} {vs:List (Str×V)},FsR K F fs vs->vs.length=fs.length
 | [],_,h=>by cases h;rfl
 | p :: fs,_,⟨v,r,rfl,h1,h2⟩=>by rw [ml,ml,FsR.len h2]
theorem FsR.put{f:Str}{d:D}{v:V}(hv:Rep K F d v): ∀ {fs:Flds} {vs:List (Str×V)},FsR K F fs vs->FsR K F (putD f d fs) (yj f v vs)
 | [],_,h=>by cases h;exact⟨v,[],rfl,hv,rfl⟩
 | (g,x) :: fs,_,⟨u,r,rfl,h1,h2⟩=>by
  unfold putD yj
  by_cases e:g=f
  ·rw [gw e]
   show FsR K F _ (if g=f then _ else _);rw [gw e];exact⟨v,r,rfl,hv,h2⟩
  ·rw [m4 e]
   show FsR K F _ (if g=f then _ else _);rw [m4 e];exact⟨u,_,rfl,h1,FsR.put hv h2⟩
end
def less(H:Hp)(a:Addr): Hp:=fun b=>if b=a then none else H b
section
omit [Lam] [Pin]
theorem jv{H:Hp}{a b:Addr}{o:HO}(h:less H a b=some o): H b=some o/\b≠a:=by
 unfold less at h
 split at h
 ·cases h
 ·exact⟨h,by assumption⟩
theorem vn{H:Hp}{a:Addr}: less H a a=none:=gw rfl
theorem k7{H:Hp}{a b:Addr}(h:b≠a): less H a b=H b:=m4 h
end
structure OB0(K:Frag)(F H H0:Hp)(a:Addr)(o:Str×Flds): Prop where
 ex:∃C dx vs,H a=some (.ins C dx vs)/\PySem.W.nsIn K mainGlobals o.1=some (some (.ref C))/\FsR K F o.2 vs
 f:F a=none
 z:H0 a=none
theorem OB0.to{K:Frag}{F H H0:Hp}{a:Addr}{o:Str×Flds}(x:OB0 K F H H0 a o)(hp:∀p,Pin.pin=some p->a=p): ODt K F H H0 a [] o:=⟨rfl,x.ex,x.f,x.z,hp⟩
theorem ODt.ob{K:Frag}{F H H0:Hp}{a:Addr}{bs:List Addr}{o:Str×Flds}(x:ODt K F H H0 a bs o): OB0 K F H H0 a o:=⟨x.ex,x.f,x.z⟩
omit [Lam] [Pin] in
theorem OB0.at{K:Frag}{F H H0 H1:Hp}{a:Addr}{o:Str×Flds}(x:OB0 K F H H0 a o)(hz:H1 a=none): OB0 K F H H1 a o:=⟨x.ex,x.f,hz⟩
theorem Tab.less{H:Hp}{a C dx:Addr}{vs:List (Str×V)}(t:Tab H)(e0:H a=some (.ins C dx vs)): Tab (less H a):=fun q hq=>by
 obtain⟨ps,e,ht,k⟩:=t q hq;have nn:∀ {b:Addr} {u:HO},H b=some u->(∀C dx vs,u ≠ .ins C dx vs)->DL.less H a b=some u:=fun {b u} e1 e2=>by
  rw [k7,e1];intro z;subst z;rw [e0] at e1;cases e1;exact e2 _ _ _ rfl
 refine⟨ps,nn e nofun,ht,fun pos cv z=>?_⟩;obtain⟨c, φ,e1,e2,e3⟩:=k pos cv z;exact⟨c, φ,e1,nn e2 nofun,e3⟩
def wq(K:Frag)(x:Str)(ar:Nat)(op:Flds->List D->Option (Flds×D)): Sp:=fun vs H Q _=>∃F a fs fs' ds d vs',vs=.ref a :: vs'/\SameT F H/\RepL K F ds vs'/\ds.length=ar/\OB0 K F H (less H a) a (x,fs)/\op fs ds=some (fs',d) /\
 ∀v F' H',Grow F (less H a) F' H'->OB0 K F' H' (less H a) a (x,fs')->Rep K F' d v->Q v H'
def q0q(n:Nat)(x:Str)(fs:Flds)(ds:List D): Rho:=some (.od (x,fs)) :: (ds.map (fun d=>some (B.fz d))++List.replicate (n-(ds.length+1)) none)
def vo(n:Nat)(x:Str)(u:FS)(fs:Flds)(ds:List D): Option (Flds×D):=match u (q0q n x fs ds) with
 | some (.nx, ρ')=>(vm 0 ρ').bind fun o=>if o.1=x then some (o.2,.non) else none
 | some (.rt d, ρ')=>(vm 0 ρ').bind fun o=>if o.1=x then some (o.2,d) else none
 | _=>none
omit [Lam] [Pin] in
theorem q0l{n:Nat}{x:Str}{fs:Flds}{ds:List D}{i:Nat}{b:B}(h:(q0q n x fs ds)[i]? = some (some b)): (i=0/\b=.od (x,fs))\/∃j d,i=j+1/\ds[j]? = some d/\b=.fz d:=by
 unfold q0q at h
 match i,h with
 | 0,h=>cases h;exact .inl ⟨rfl,rfl⟩
 | j+1,h=>
  rw [ud] at h
  by_cases hj:j<ds.length
  ·rw [mv (by simpa using hj),m9] at h
   cases z:ds[j]? with
   | none=>rw [z] at h;cases h
   | some d=>rw [z] at h;cases h;exact .inr ⟨j,d,rfl,z,rfl⟩
  ·rw [n9 (by simpa using hj),nh] at h
   split at h <;> cases h
theorem qbj{K:Frag}{F H:Hp}{N:List Str}{vs':List V}{a:Addr}{x:Str}{fs:Flds}{ds:List D}(hn:ds.length+1<=N.length)(hp:∀p,Pin.pin=some p->a=p)(s:SameT F H)(r:RepL K F ds vs')(o:OB0 K F H (less H a) a (x,fs)):
  RS K F (less H a) F H (L2.start N (.ref a :: vs')) (q0q N.length x fs ds) where
 t0:=by
  obtain⟨C,dx,vs,e,_⟩:=o.ex;exact⟨s.t.less e,s.f⟩
 g:=⟨.refl _,⟨fun b xs e=>(jv e).1,fun b xs e=>(jv e).1,fun {b} e=>by unfold less;split <;> first|rfl|exact e,fun _=>s.t,fun b xs e=>(jv e).1⟩,s.s,fun _ z=>.inl z⟩
 len:=by
  unfold L2.start q0q;have:=r.length;simp only [mq,gx,ml,uw];omega
 fz:=fun i e h=>by
  rcases q0l h with⟨rfl,z⟩|⟨j,d,rfl,hd,z⟩
  ·cases z
  ·cases z
   obtain⟨v,ev,rv⟩:=r.get hd;refine⟨v,?_,rv⟩;unfold L2.start;have hj:=(mr.mp ev).1;rw [mi,List.cons_append,ud,mv (by simpa using hj),m9,ev]
   rfl
 ow:=fun i e h=>by rcases q0l h with⟨rfl,z⟩|⟨j,d,rfl,hd,z⟩ <;> cases z
 dj:=fun i j e1 e2 a' _ h=>by rcases q0l h with⟨rfl,z⟩|⟨j,d,rfl,hd,z⟩ <;> cases z
 od:=fun i ks h=>by
  rcases q0l h with⟨rfl,z⟩|⟨j,d,rfl,hd,z⟩
  ·cases z
   exact⟨a,[],rfl,o.to hp,fun j es b _ hb=>by cases hb⟩
  ·cases z
 o1:=fun i j k1 k2 h1 h2=>by
  rcases q0l h1 with⟨rfl,z⟩|⟨j',d,rfl,hd,z⟩
  ·rcases q0l h2 with⟨rfl,z2⟩|⟨j',d,rfl,hd,z2⟩
   ·rfl
   ·cases z2
  ·cases z
theorem qbk{K:Frag}{F0 H0 F H:Hp}{σ : St}{ρ : Rho}{a:Addr}{o:Str×Flds}(hp:Pin.pin=some a)(r:RS K F0 H0 F H σ ρ)(h:vm 0 ρ = some o): Grow F0 H0 F H/\OB0 K F H H0 a o:=by
 obtain⟨a',bs,e1,t,_⟩:=r.od 0 o (xc h);obtain rfl:a'=a:=t.pn a hp;exact⟨r.g,t.ob⟩
omit [Pin] in
theorem Fun2.okOB{P:Program}{w:World}{K:Frag}{mg:Str->Option Value}{base:Heap}{x c qual:Str}{st:Stmt}{dV:Value}{f:Addr}{fd:FuncData}{N ps:List Str}{k n k1 ar:Nat}{u:FS}(F:Fun2 K x qual st dV f fd)(S:FnScope N ps (qc st))(hn:N.length=n)(ha:ps.length=ar+1)(hk:k+1=k1)
  (hb:∀(Pn:Pin) (cdv:Value) (A:Around) (outer:List Env) (s:Shared) (H:Hp) (E:XK),Room k (A.deeper (envOfC qual (qc st) s.heap.objs.size f cdv))->PSs (z7 CX0 P w K mg base N qual (qc st) f cdv A outer s H E).nox (qr st) (letI:Pin:=Pn;tDS K u)) :
  FnOk P w K mg base CX0 k1 f fd ps (wq K c ar (vo n c u)):=by
 subst hn hk;obtain⟨oc,od,kV,doc,pm,an,cdv,ct,osl,rfl,lk,hcd⟩:=F.ex;have hpl:ps.length<=N.length:=by have:=p8 List.length S.pre;rw [p9] at this;omega
 refine q6w lk hcd S (fun vs H Q E h=>?_) fun A outer s H vs Q E hr hsp=>?_
 ·obtain⟨F,a,fs,fs',ds,d,vs',rfl,_,hR,hl,_⟩:=h
  rw [ml, <- hR.length,hl,ha]
 ·obtain⟨F,a,fs,fs',ds,d,vs',rfl,sT,hR,hl,o,hop,q⟩:=hsp
  refine⟨_,(hb ⟨some a⟩ cdv A outer s H E hr).nox,?_⟩
  letI:Pin:=⟨some a⟩
  have r:=qbj (x:=c) (N:=N) (by omega) (fun p h=>mn h) sT hR o;unfold vo at hop
  split at hop
  ·rename_i ρ' hu
   obtain⟨o',ho',hif⟩:=g9.mp hop
   split at hif
   ·rename_i hx
    cases hif;refine⟨F,_,F,_,.nx, ρ',r,hu,fun σ' F' H' s' r'=>?_⟩;obtain⟨g',t'⟩:=qbk rfl r' ho';exact q .non F' H' g' (by rw [<- hx];exact t') (rep_non.mpr rfl)
   ·cases hif
  ·rename_i d' ρ' hu
   obtain⟨o',ho',hif⟩:=g9.mp hop
   split at hif
   ·rename_i hx
    cases hif;refine⟨F,_,F,_,.rt _, ρ',r,hu,fun v σ' F' H' r' rv=>?_⟩;obtain⟨g',t'⟩:=qbk rfl r' ho';exact q v F' H' g' (by rw [<- hx];exact t') rv
   ·cases hif
  ·cases hop
section
variable{K:Frag}{F0 H0 F H F' H':Hp}{σ : St}{ρ : Rho}
theorem RS.callOB(r:RS K F0 H0 F H σ ρ){i:Nat}{a:Addr}{o o':Str×Flds}(h1 : ρ[i]? = some (some (.od o)))(h2 : σ[i]? = some (some (.ref a)))(ot:ODt K F H H0 a [] o)
  (g:Grow F (less H a) F' H') (o0:OB0 K F' H' (less H a) a o'):RS K F0 H0 F' H' σ (ρ.set i (some (.od o'))):=by
 have kp:∀b u,H0 b=some u->less H a b=H b:=fun b u e=>k7 fun z=>by subst z;rw [ot.z] at e;cases e
 have ln:∀b,less H a b=none->H0 b=none:=fun b e=>by
  by_cases z:b=a
  ·subst z;exact ot.z
  ·rw [k7 z] at e;exact r.g.hh.free e
 obtain⟨C,dx,vs,e0,_⟩:=ot.ex;have back:∀(l:Nat) (us:List D),(ρ.set i (some (.od o')))[l]? = some (some (.ow us))->l≠i /\ ρ[l]? = some (some (.ow us)):=fun l us z=>by
  by_cases q:l=i
  ·subst q
   obtain⟨z',_⟩:=qm z;cases z'
  ·rw [gf (gu q)] at z;exact⟨q,z⟩
 have only:∀(l:Nat) (us),(ρ.set i (some (.od o')))[l]? = some (some (.od us))->l=i/\us=o':=fun l us z=>by
  by_cases q:l=i
  ·subst q
   obtain⟨z',_⟩:=qm z;cases z';exact⟨rfl,rfl⟩
  ·rw [gf (gu q)] at z
   exact absurd (r.o1 l i us o z h1) q
 have owl:∀(b:Addr) (xs:List V),H b=some (.lst xs)->less H a b=some (.lst xs):=fun b xs e3=>by
  rw [k7,e3];intro z;subst z;rw [e3] at e0;cases e0
 exact {
  t0:=r.t0
  g:=⟨r.g.ff.trans g.ff,⟨fun b u e=>g.hh.lst b u (by rw [kp b _ e];exact r.g.hh.lst b u e),fun b u e=>g.hh.ext b u (by rw [kp b _ e];exact r.g.hh.ext b u e),fun {b} e=>ln b (g.hh.free e),fun t=>g.hh.tb ((r.g.hh.tb t).less e0),fun b u e=>g.hh.dk b u (by rw [kp b _ e];exact r.g.hh.dk b u e)⟩,g.fh,fun b hb=>by
   rcases g.nw b hb with z|z
   ·exact r.g.nw b z
   ·exact .inr (ln b z)⟩
  len:=by rw [my];exact r.len
  fz:=fun j e q1=>by
   by_cases q:j=i
   ·subst q
    obtain⟨z,l⟩:=qm q1;cases z
   ·rw [gf (gu q)] at q1
    obtain⟨v,z1,z2⟩:=r.fz j e q1;exact⟨v,z1,z2.mono g.ff⟩
  ow:=fun j es q1=>by
   obtain⟨_,q1⟩:=back j es q1;obtain⟨b,zs,f1,f2,f3,f4,f5⟩:=r.ow j es q1;have hl:=owl b zs f2;exact⟨b,zs,f1,g.hh.lst _ _ hl,qdd g f3 hl,f4,f5.mono g.ff⟩
  dj:=fun j k ds' es' b hjk q1 q2 q3=>r.dj j k ds' es' b hjk (back _ _ q1).2 (back _ _ q2).2 q3
  od:=fun j us q1=>by
   obtain⟨rfl,rfl⟩:=only j us q1;exact⟨a,[],h2,(o0.at ot.z).to ot.pn,fun k es b _ p2=>by cases p2⟩
  o1:=fun j k k1 k2 p1 p2=>by rw [(only j k1 p1).1,(only k k2 p2).1]}
theorem Grow.put{a:Addr}{u:HO}(fh:Same F H)(hf:F a=none): Grow F (less H a) F (upd H a u):=
 ⟨.refl _,⟨fun b xs e=>by rw [qo (jv e).2];exact(jv e).1,fun b xs e=>by rw [qo (jv e).2];exact(jv e).1,fun {b} e=>by
   by_cases z:b=a
   ·subst z;exact vn
   ·rw [qo z] at e;rw [k7 z];exact e,fun t=>by
   have:upd H a u=upd (less H a) a u:=by
    funext b
    by_cases z:b=a
    ·subst z;rw [qv,qv]
    ·rw [qo z,qo z,k7 z]
   rw [this];exact t.upd (.inl vn),fun b xs e=>by rw [qo (jv e).2];exact(jv e).1⟩,fun b o e=>by
   rw [qo (fun z=>by subst z;rw [hf] at e;cases e)];exact fh b o e,fun _ z=>.inl z⟩
end
structure ClsF(K:Frag)(x:Str)(C:Addr)(fl:List Str): Prop where
 ns:PySem.W.nsIn K mainGlobals x=some (some (.ref C))
 cls:Cls K C
 no:∀f∈fl,NoAttr K C f
structure CalF(P:Program)(w:World)(K:Frag)(mg:Str->Option Value)(base:Heap)(x m:Str)(C:Addr)(k:Nat)(ps:List Str)(ar:Nat)(op:Flds->List D->Option (Flds×D))(fn:Addr)(fd:FuncData): Prop where
 ok:FnOk P w K mg base CX0 k fn fd ps (wq K x ar op)
 me:Meth K C m fn
section
variable{X:Cx}{st:Stmt}{e o:Expr}{es:List Expr}{pos apos p px:Pos}{f g:FE}{fa:FA}
def q09(c:Str)(i:Nat)(f:Str): FE:=fun ρ =>(vm i ρ).bind fun o=>if o.1=c then o.2.lookup f else none
theorem w4{c x nm:Str}{C:Addr}{i:Nat}{fl:List Str}(O:ClsF X.K c C fl)(hf:nm∈fl)(hv:PE X (.Name x px) (yn i))(hb:attributeBase (.Name x px) nm X.env (eval (.Name x px) X.env)=eval (.Name x px) X.env:=by rfl): PE X (.Attribute (.Name x px) nm pos) (tD X.K (q09 c i nm)):=
 zc (qm8 hv hb) fun σ H Q ⟨F0,H0,F, ρ,d,r,hf',q⟩=>by
  obtain⟨ob,h1,h2⟩:=g9.mp hf'
  split at h2
  ·rename_i hc
   obtain⟨a,bs,e1,t,_⟩:=r.od i ob (xc h1);obtain⟨C',dx,vs,e2,e3,e4⟩:=t.ex;have hC:C'=C:=by
    have:=e3.symm.trans (hc ▸ O.ns);cases this;rfl
   subst hC;obtain⟨v,l,rv⟩:=e4.get h2;exact⟨.ref a,e1,a,C',dx,vs,v,rfl,e2,O.cls,O.no _ hf,l,q v F H (.refl r.fh) rv⟩
  ·cases h2
def q2s(c:Str)(i:Nat)(nm:Str)(f:FE): FS:=fun ρ =>(f ρ).bind fun d=>(vm i ρ).bind fun o=>if o.1=c/\o.2.length<100 then some (.nx, ρ.set i (some (.od (c,putD nm d o.2)))) else none
theorem q4s{c x nm:Str}{C:Addr}{i:Nat}{fl:List Str}(O:ClsF X.K c C fl)(hf:nm∈fl)(hv:PE X (.Name x px) (yn i))(he:PE X e (tD X.K f))(hs:swapsWith e (some (.Attribute (.Name x px) nm apos)) pos.line X.env=pure false:=by rfl): PS X (.Assign [.Attribute (.Name x px) nm apos] e pos) (tDS X.K (q2s c i nm f)):=
 jj (qm9 hv he hs) fun D σ H ⟨F0,H0,F, ρ,flw, ρ',r,hf',q⟩=>by
  obtain⟨d,h1,hf'⟩:=g9.mp hf';obtain⟨ob,h2,h3⟩:=g9.mp hf'
  split at h3
  ·rename_i hc
   cases h3;refine⟨F0,H0,F, ρ,d,r,h1,fun v F1 H1 g1 r1=>?_⟩;have r':=r.grow g1;obtain⟨a,bs,e1,t,_⟩:=r'.od i ob (xc h2);obtain rfl:=t.nb;obtain⟨C',dx,vs,e2,e3,e4⟩:=t.ex;have hC:C'=C:=by
    have:=e3.symm.trans (hc.1 ▸ O.ns);cases this;rfl
   subst hC;refine⟨.ref a,e1,a,C',dx,vs,rfl,e2,O.cls,O.no _ hf,by rw [e4.len];omega,?_⟩;refine q σ F1 _ g1.ff (r'.callOB (xc h2) e1 t (Grow.put r'.fh t.f) ⟨⟨C',dx,_,qv,O.ns,e4.put r1⟩,t.f,vn⟩)
  ·cases h3
abbrev FM:=Rho->Option (D×Rho)
abbrev FAM:=Rho->Option (List D×Rho)
abbrev FTM:=Rho->Option (Bool×Rho)
def tDM(K:Frag)(f:FM): TE:=fun σ H Q=>∃F0 H0 F ρ d ρ',RS K F0 H0 F H σ ρ /\ f ρ = some (d, ρ')/\∀v F' H',Same F F'->RS K F0 H0 F' H' σ ρ'->Rep K F' d v->Q v H'
def qbl(K:Frag)(f:FAM): TA:=fun σ H Q=>∃F0 H0 F ρ ds ρ',RS K F0 H0 F H σ ρ /\ f ρ = some (ds, ρ')/\∀vs F' H',Same F F'->RS K F0 H0 F' H' σ ρ'->RepL K F' ds vs->Q vs H'
def qbm(K:Frag)(f:FTM): TT:=fun σ H Q=>∃F0 H0 F ρ b ρ',RS K F0 H0 F H σ ρ /\ f ρ = some (b, ρ')/\∀F' H',Same F F'->RS K F0 H0 F' H' σ ρ'->Q b H'
def mP(f:FE): FM:=fun ρ =>(f ρ).map fun d=>(d, ρ)
def amP(f:FA): FAM:=fun ρ =>(f ρ).map fun d=>(d, ρ)
theorem qdr(h:PE X e (tD X.K f)): PE X e (tDM X.K (mP f)):=zc h fun σ H Q ⟨F0,H0,F, ρ,d, ρ',r,hf,q⟩=>by
 obtain⟨d',h1,h2⟩:=gj.mp hf;cases h2;exact⟨F0,H0,F, ρ,d,r,h1,fun v F' H' g' rv=>q v F' H' g'.ff (r.grow g') rv⟩
theorem q1m(h:PA X es (tDA X.K fa)): PA X es (qbl X.K (amP fa)):=q70 h fun σ H Q ⟨F0,H0,F, ρ,d, ρ',r,hf,q⟩=>by
 obtain⟨d',h1,h2⟩:=gj.mp hf;cases h2;exact⟨F0,H0,F, ρ,d,r,h1,fun v F' H' g' rv=>q v F' H' g'.ff (r.grow g') rv⟩
def k8(f:FM)(fa:FAM): FAM:=fun ρ =>(f ρ).bind fun p=>(fa p.2).map fun q=>(p.1 :: q.1,q.2)
theorem q0m{f:FM}{fa:FAM}(ha:PE X e (tDM X.K f))(hr:PA X es (qbl X.K fa))(hs:starEach (e :: es) X.env=(false,eval e X.env) :: starEach es X.env:=by first|exact q7y rfl|rfl): PA X (e :: es) (qbl X.K (k8 f fa)):=
 q70 (zw ha hr hs) fun σ H Q ⟨F0,H0,F, ρ,ds, ρ',r,hf,q⟩=>by
  obtain⟨⟨d, ρ1⟩,h1,hf⟩:=g9.mp hf;obtain⟨⟨ds', ρ2⟩,h2,h3⟩:=gj.mp hf;cases h3;refine⟨F0,H0,F, ρ,d, ρ1,r,h1,fun v F1 H1 s1 r1 rv=>⟨F0,H0,F1, ρ1,ds',_,r1,h2,fun vs F2 H2 s2 r2 rl=>?_⟩⟩;exact q _ F2 H2 (s1.trans s2) r2 (.cons (rv.mono s2) rl)
def q0a(op:List D->Option D)(fa:FAM): FM:=fun ρ =>(fa ρ).bind fun p=>(op p.1).map fun d=>(d,p.2)
theorem q4t{k k' ar:Nat}{fn:Addr}{fd:FuncData}{ps:List Str}{op:List D->Option D}{x:Str}{fa:FAM}(C:Cal X.prog X.w X.K X.mg X.base x k ps ar op fn fd)(b:Binds X.K fd ps [])(hr:Room k' X.A)(hk:k<=k')(hg:Gl X x)(ha:PA X (e :: es) (qbl X.K fa))(hdb:(x==("__debug__" : Str))=false:=by decide)
  (he:starEach (e :: es) X.env=(false,eval e X.env) :: starEach es X.env:=by rfl) (hpl:(backTo pos (starEach es X.env)).any (·.1)=false:=by rfl):PE X (.Call (.Name x p) (e :: es) [] pos) (tDM X.K (q0a (qt ar [] op) fa)):=
 zc (q36 C.ok (hr.mono hk) hg C.mg C.kp b .nil q2n ha hdb he hpl) fun σ H Q ⟨F0,H0,F, ρ,d, ρ',r,hf,q⟩=>by
  obtain⟨⟨ds, ρ1⟩,h1,hf⟩:=g9.mp hf;obtain⟨d',h2,h3⟩:=gj.mp hf;cases h3;unfold qt at h2
  split at h2
  ·rename_i hl
   refine⟨F0,H0,F, ρ,ds, ρ1,r,h1,fun vs F1 H1 s1 r1 rl=>⟨F1,ds++[],d,r1.sameT (.refl r1.fh),rl.append .nil,hl,h2,fun v F2 H2 g2 rv=>q v F2 H2 (s1.trans g2.ff) (r1.grow g2) rv⟩⟩
  ·cases h2
theorem qkl{k k' ar:Nat}{fn:Addr}{fd:FuncData}{ps:List Str}{op:List D->Option D}{x:Str}{fa:FAM}{dvs:List V}{dds:List D}{dv:List Value}(C:Cal X.prog X.w X.K X.mg X.base x k ps ar op fn fd)(b:Binds X.K fd ps dv)(hd:Vals dvs dv)(hdd:∀H,RepL X.K H dds dvs)(hr:Room k' X.A)(hk:k<=k')(hg:Gl X x)(ha:PA X (e :: es) (qbl X.K fa))(hdb:(x==("__debug__" : Str))=false:=by decide)
  (he:starEach (e :: es) X.env=(false,eval e X.env) :: starEach es X.env:=by rfl) (hpl:(backTo pos (starEach es X.env)).any (·.1)=false:=by rfl):PE X (.Call (.Name x p) (e :: es) [] pos) (tDM X.K (q0a (qt ar dds op) fa)):=
 zc (q36 C.ok (hr.mono hk) hg C.mg C.kp b hd q2n ha hdb he hpl) fun σ H Q ⟨F0,H0,F, ρ,d, ρ',r,hf,q⟩=>by
  obtain⟨⟨ds, ρ1⟩,h1,hf⟩:=g9.mp hf;obtain⟨d',h2,h3⟩:=gj.mp hf;cases h3;unfold qt at h2
  split at h2
  ·rename_i hl
   refine⟨F0,H0,F, ρ,ds, ρ1,r,h1,fun vs F1 H1 s1 r1 rl=>⟨F1,ds++dds,d,r1.sameT (.refl r1.fh),rl.append (hdd F1),hl,h2,fun v F2 H2 g2 rv=>q v F2 H2 (s1.trans g2.ff) (r1.grow g2) rv⟩⟩
  ·cases h2
theorem Cal.as{P:Program}{w:World}{K:Frag}{mg:Str->Option Value}{base:Heap}{x y:Str}{k ar:Nat}{ps:List Str}{op:List D->Option D}{fn:Addr}{fd:FuncData}(C:Cal P w K mg base x k ps ar op fn fd)(h:mg y=some (.ref fn)): Cal P w K mg base y k ps ar op fn fd:=⟨C.ok,h,C.kp⟩
def yk(c:Str)(m:Str)(i ar:Nat)(op:Flds->List D->Option (Flds×D))(fa:FA): FM:=fun ρ =>(vm i ρ).bind fun o=>(fa ρ).bind fun ds=>if o.1=c/\ds.length=ar/\(o.2.lookup m).isNone=true then(op o.2 ds).map fun p=>(p.2, ρ.set i (some (.od (c,p.1)))) else none
theorem qgi{K:Frag}{c m:Str}{C:Addr}{fl:List Str}{i ar:Nat}{op:Flds->List D->Option (Flds×D)}{σ : St}{H:Hp}{Q:VK}(O:ClsF K c C fl)(h:tDM K (yk c m i ar op fa) σ H Q):
  qa4 C m (wq K c ar op) [] E0 (yn i) (tDA K fa) σ H Q:=by
 obtain⟨F0,H0,F, ρ,d, ρ',r,hf,q⟩:=h;obtain⟨ob,h1,hf⟩:=g9.mp hf;obtain⟨ds,h2,h3⟩:=g9.mp hf
 split at h3
 ·rename_i hc
  obtain⟨⟨fs',d'⟩,h4,h5⟩:=gj.mp h3;cases h5;obtain⟨x,fs⟩:=ob;obtain⟨rfl,hl,hn⟩:=hc;obtain⟨a,bs,e1,t,_⟩:=r.od i _ (xc h1);obtain rfl:=t.nb;obtain⟨C',dx,vs,e2,e3,e4⟩:=t.ex;have hC:C'=C:=by
   have:=e3.symm.trans O.ns;cases this;rfl
  subst hC;refine⟨.ref a,e1,a,dx,vs,rfl,e2,e4.miss (g1t.mp hn),F0,H0,F, ρ,ds,r,h2,fun ws F1 H1 g1 r1=>?_⟩;have r':=r.grow g1;have t':=t.grow g1;refine⟨F1,a,fs,fs',ds,d',ws,by rw [mz],r.sameT g1,r1,hl,t'.ob.at vn,h4,fun v F2 H2 g2 o2 rv=>?_⟩;exact q v F2 H2 (g1.ff.trans g2.ff) (r'.callOB (xc h1) e1 t' g2 o2) rv
 ·cases h3
theorem q15{c x m:Str}{C:Addr}{k k' ar i:Nat}{fn:Addr}{fd:FuncData}{ps fl:List Str}{op:Flds->List D->Option (Flds×D)}{pl:Sem Bool}(O:ClsF X.K c C fl)
  (M:CalF X.prog X.w X.K X.mg X.base c m C k ps ar op fn fd) (b:Binds X.K fd ps []) (hr:Room k' X.A) (hk:k<=k') (hv:PE X (.Name x px) (yn i)) (ha:PA X (e :: es) (tDA X.K fa))
  (hst:starEach (e :: es) X.env=(false,eval e X.env) :: starEach es X.env:=by rfl) (hpl:(backTo pos (starEach es X.env)).any (·.1)=false:=by rfl)
  (ht:eval (.Call (.Attribute (.Name x px) m apos) (e :: es) [] pos) X.env=(do
   let ov <- eval (.Name x px) X.env
   standAt apos.atName
   let(f,first) <- holding [ov] (getMethod ov m pl)
   callWith pos f first (backTo pos (starEach (e :: es) X.env)) (backToKw pos (keywordEach [] X.env))):=by rfl) :
  PE X (.Call (.Attribute (.Name x px) m apos) (e :: es) [] pos) (tDM X.K (yk c m i ar op fa)):=
 zc (qjy (pl:=pl) hv O.cls M.me M.ok (hr.mono hk) b .nil q2n ha hst hpl ht) fun σ H Q h=>qgi O h
theorem q82{c x m:Str}{C:Addr}{k k' i:Nat}{fn:Addr}{fd:FuncData}{ps fl:List Str}{op:Flds->List D->Option (Flds×D)}{pl:Sem Bool}(O:ClsF X.K c C fl)
  (M:CalF X.prog X.w X.K X.mg X.base c m C k ps 0 op fn fd) (b:Binds X.K fd ps []) (hr:Room k' X.A) (hk:k<=k') (hv:PE X (.Name x px) (yn i))
  (ht:eval (.Call (.Attribute (.Name x px) m apos) [] [] pos) X.env=(do
   let ov <- eval (.Name x px) X.env
   standAt apos.atName
   let(f,first) <- holding [ov] (getMethod ov m pl)
   callWith pos f first (backTo pos (starEach [] X.env)) (backToKw pos (keywordEach [] X.env))):=by rfl) :
  PE X (.Call (.Attribute (.Name x px) m apos) [] [] pos) (tDM X.K (yk c m i 0 op qh)):=
 zc (qhk (pl:=pl) hv O.cls M.me M.ok (hr.mono hk) b .nil q2n ht) fun σ H Q h=>by
  obtain⟨v,e1,a,dx,fs,h1,h2,h3,F0,H0,F, ρ,ds,r,hf,q⟩:=qgi O h;cases hf;exact⟨v,e1,a,dx,fs,h1,h2,h3,q [] F H (.refl r.fh) .nil⟩
structure CalO(P:Program)(w:World)(K:Frag)(mg:Str->Option Value)(base:Heap)(x c:Str)(k:Nat)(ps:List Str)(ar:Nat)(op:Flds->List D->Option (Flds×D))(fn:Addr)(fd:FuncData): Prop where
 ok:FnOk P w K mg base CX0 k fn fd ps (wq K c ar op)
 mg:mg x=some (.ref fn)
 kp:PySem.W.keepIn K (.ref fn)=true
def q3u(c:Str)(i ar:Nat)(op:Flds->List D->Option (Flds×D))(fa:FA): FM:=fun ρ =>(vm i ρ).bind fun o=>(fa ρ).bind fun ds=>if o.1=c/\ds.length=ar then(op o.2 ds).map fun p=>(p.2, ρ.set i (some (.od (c,p.1)))) else none
theorem qds{c x g:Str}{k k' ar i:Nat}{fn:Addr}{fd:FuncData}{ps:List Str}{op:Flds->List D->Option (Flds×D)}(C:CalO X.prog X.w X.K X.mg X.base g c k ps ar op fn fd)(b:Binds X.K fd ps [])(hr:Room k' X.A)(hk:k<=k')(hg:Gl X g)(hv:PE X (.Name x px) (yn i))(ha:PA X es (tDA X.K fa))(hdb:(g==("__debug__" : Str))=false:=by decide)
  (he:starEach (.Name x px :: es) X.env=(false,eval (.Name x px) X.env) :: starEach es X.env:=by rfl) (hpl:(backTo pos (starEach es X.env)).any (·.1)=false:=by rfl):PE X (.Call (.Name g p) (.Name x px :: es) [] pos) (tDM X.K (q3u c i ar op fa)):=
 zc (q36 C.ok (hr.mono hk) hg C.mg C.kp b .nil q2n (zw hv ha he) hdb he hpl) fun σ H Q ⟨F0,H0,F, ρ,d, ρ',r,hf,q⟩=>by
  obtain⟨ob,h1,hf⟩:=g9.mp hf;obtain⟨ds,h2,h3⟩:=g9.mp hf
  split at h3
  ·rename_i hc
   obtain⟨⟨fs',d'⟩,h4,h5⟩:=gj.mp h3;cases h5;obtain⟨y,fs⟩:=ob;obtain⟨rfl,hl⟩:=hc;obtain⟨a,bs,e1,t,_⟩:=r.od i _ (xc h1);obtain rfl:=t.nb;refine⟨.ref a,e1,F0,H0,F, ρ,ds,r,h2,fun ws F1 H1 g1 r1=>?_⟩;have r':=r.grow g1;have t':=t.grow g1;refine⟨F1,a,fs,fs',ds,d',ws,by rw [mz],r.sameT g1,r1,hl,t'.ob.at vn,h4,fun v F2 H2 g2 o2 rv=>?_⟩;exact q v F2 H2 (g1.ff.trans g2.ff) (r'.callOB (xc h1) e1 t' g2 o2) rv
  ·cases h3
def mbT(f:FM): FTM:=fun ρ =>(f ρ).bind fun p=>(q6d p.1).map fun b=>(b,p.2)
theorem q4u{f:FM}(ha:PE X e (tDM X.K f))(he:∀whole,isTrue e X.env whole=(do let v <- whole;standAt e.pos;holding [v] (truthy v)):=by intro _;rfl): PT X e (qbm X.K (mbT f)):=
 q38 (qaj ha he) fun σ H Q ⟨F0,H0,F, ρ,b, ρ',r,hf,q⟩=>by
  obtain⟨⟨d, ρ1⟩,h1,hf⟩:=g9.mp hf;obtain⟨b',h2,h3⟩:=gj.mp hf;cases h3;exact⟨F0,H0,F, ρ,d,_,r,h1,fun v F' H' s' r' rv=>⟨b,qfy h2 r'.fh rv,q F' H' s' r'⟩⟩
def q0r(t:FTM): FTM:=fun ρ =>(t ρ).map fun p=>(!p.1,p.2)
theorem q4v{t:FTM}(ha:PT X e (qbm X.K t)): PT X (.UnaryOp .Not e pos) (qbm X.K (q0r t)):=q38 (qfc ha) fun σ H Q ⟨F0,H0,F, ρ,c, ρ',r,hf,q⟩=>by
 obtain⟨⟨d, ρ1⟩,h1,h2⟩:=gj.mp hf;cases h2;exact⟨F0,H0,F, ρ,d,_,r,h1,fun F' H' s' r'=>q F' H' s' r'⟩
def q7e(o:D->D->Option D)(f g:FM): FTM:=fun ρ =>(f ρ).bind fun p=>(g p.2).bind fun q=>(o p.1 q.1).bind fun d=>(isB d).map fun b=>(b,q.2)
theorem qn3{a b:Expr}{f g:FM}{op:CmpOp}{o:D->D->Option D}(ho:OpR X (compareOp op) (rD X.K o))(ha:PE X a (tDM X.K f))(hb:PE X b (tDM X.K g))(hm:behindInMarks op b=false:=by first|exact q6b _ (by decide) (by decide)|rfl):
  PT X (.Compare a [op] [b] pos) (qbm X.K (q7e o f g)):=q38 (qd9 ho ha hb hm) fun σ H Q ⟨F0,H0,F, ρ,c, ρ',r,hf,q⟩=>by
 obtain⟨⟨d1, ρ1⟩,h1,hf⟩:=g9.mp hf;obtain⟨⟨d2, ρ2⟩,h2,hf⟩:=g9.mp hf;obtain⟨d,h3,hf⟩:=g9.mp hf;obtain⟨b',h4,h5⟩:=gj.mp hf;cases h5;refine⟨F0,H0,F, ρ,d1, ρ1,r,h1,fun v F1 H1 s1 r1 rv=>⟨F0,H0,F1, ρ1,d2,_,r1,h2,fun u F2 H2 s2 r2 ru=>?_⟩⟩;refine⟨F2,d1,d2,d,r2.fh,rv.mono s2,ru,h3,fun w F3 H3 g3 r3=>?_⟩;cases d <;> simp only [isB] at h4 <;> first|(cases h4;done)|skip
 cases h4;exact⟨_,rep_bl.mp r3,q F3 H3 (s1.trans (s2.trans g3.ff)) (r2.grow g3)⟩
variable{rest:List Expr}{a b:Expr}{t u:FTM}
def q18(t:FTM)(u w:FS): FS:=fun ρ =>(t ρ).bind fun p=>if p.1 then u p.2 else w p.2
theorem q3g{c:Expr}{a b:List Stmt}{u w:FS}(hc:PT X c (qbm X.K t))(ha:PSs X a (tDS X.K u))(hb:PSs X b (tDS X.K w)): PS X (.If c a b pos) (tDS X.K (q18 t u w)):=jj (qe3 hc ha hb) fun D σ H ⟨F0,H0,F, ρ,fl, ρ',r,hf,q⟩=>by
 obtain⟨⟨c, ρ1⟩,h1,h2⟩:=g9.mp hf;refine⟨F0,H0,F, ρ,c, ρ1,r,h1,fun F' H' s' r'=>?_⟩;cases c with
 | true=>rw [gw rfl] at h2 ⊢;exact⟨F0,H0,F', ρ1,fl, ρ',r',h2,yt s' q⟩
 | false=>rw [m4 gq] at h2 ⊢;exact⟨F0,H0,F', ρ1,fl, ρ',r',h2,yt s' q⟩
def q7f(f:FM): FS:=fun ρ =>(f ρ).map fun p=>(.rt p.1,p.2)
theorem qdt{f:FM}(he:PE X e (tDM X.K f)): PS X (.Return (some e) pos) (tDS X.K (q7f f)):=jj (qai he) fun D σ H ⟨F0,H0,F, ρ,fl, ρ',r,hf,q⟩=>by
 obtain⟨⟨d, ρ1⟩,h1,h2⟩:=gj.mp hf;cases h2;exact⟨F0,H0,F, ρ,d,_,r,h1,fun v F' H' s' r' rv=>q v σ F' H' r' rv⟩
def q25(f:FM): FS:=fun ρ =>(f ρ).map fun p=>(.nx,p.2)
theorem q3v{f:FM}(he:PE X e (tDM X.K f))(hs:swapsWith e none pos.line X.env=pure false:=by rfl): PS X (.Expr e pos) (tDS X.K (q25 f)):=jj (q7r he hs) fun D σ H ⟨F0,H0,F, ρ,fl, ρ',r,hf,q⟩=>by
 obtain⟨⟨d, ρ1⟩,h1,h2⟩:=gj.mp hf;cases h2;exact⟨F0,H0,F, ρ,d,_,r,h1,fun v F' H' s' r' rv=>q σ F' H' s' r'⟩
def qa8(i:Nat)(f:FM): FS:=fun ρ =>(f ρ).map fun p=>(.nx,p.2.set i (some (.fz p.1)))
theorem qkm{i:Nat}{x:Str}{px:Pos}{f:FM}(hN:X.N.Nodup)(hi:X.N[i]? = some x)(hx:Loc X.env.scope x)(he:PE X e (tDM X.K f))(hs:swapsWith e (some (.Name x px)) pos.line X.env=pure false:=by rfl)(hf:X.fn x=true\/X.env.scope.names.lookup x=some .local:=by first|exact .inl rfl|exact .inr rfl|assumption):
  PS X (.Assign [.Name x px] e pos) (tDS X.K (qa8 i f)):=jj (q6u hN hi hx he hs hf) fun D σ H ⟨F0,H0,F, ρ,fl, ρ',r,hf,q⟩=>by
 obtain⟨⟨d, ρ1⟩,h1,h2⟩:=gj.mp hf;cases h2;exact⟨F0,H0,F, ρ,d, ρ1,r,h1,fun v F' H' s' r' rv=>q _ F' H' s' (r'.set i rv)⟩
end
end DL
namespace L2
open PySem PySem.Spec PyProof.Rows
section
variable{X:Cx}{CX:CXT}{k:Nat}{f C:Addr}{fd:FuncData}{ps ks:List Str}{sp:Sp}{E:XK}{x:Str}{p pos:Pos}{e:Expr}{es:List Expr}{kws:List Keyword}{t tk:TA}{g:List Value->List Value->List Value}{gV:List V->List V->List V}
end
end L2
namespace DL
open PySem PySem.Spec PyProof.Rows L2
variable[Lam][Pin]
def q83(i:Nat)(ρ : Rho): Bool:=(ρ.set i none).all fun b=>match b with
 | some (.od _)=>false
 | _=>true
omit [Lam] [Pin] in
theorem qdu{i j:Nat}{ρ : Rho}{o}(h:q83 i ρ = true)(h2 : ρ[j]? = some (some (.od o))): j=i:=by
 by_cases q:j=i
 ·exact q
 ·unfold q83 at h
  rw [u0] at h;have:=h (some (.od o)) (List.mem_of_getElem? (i:=j) (by rw [gf (gu q)];exact h2));cases this
section
variable{K:Frag}{F0 H0 F H F' H':Hp}{σ : St}{ρ : Rho}
theorem RS.setOB(r:RS K F0 H0 F H σ ρ){i:Nat}{a:Addr}{o:Str×Flds}(hp:Pin.pin=none)(no:q83 i ρ = true)(o0:OB0 K F H H0 a o): RS K F0 H0 F H (σ.set i (some (.ref a))) (ρ.set i (some (.od o))) where
 t0:=r.t0
 g:=r.g
 len:=by rw [my,my];exact r.len
 fz:=fun j e h1=>by
  by_cases q:j=i
  ·subst q
   obtain⟨z,l⟩:=qm h1;cases z
  ·rw [gf (gu q)] at h1 ⊢
   exact r.fz j e h1
 ow:=fun j ds h1=>by
  by_cases q:j=i
  ·subst q
   obtain⟨z,l⟩:=qm h1;cases z
  ·rw [gf (gu q)] at h1 ⊢
   exact r.ow j ds h1
 dj :=fun j k ds es a hjk h1 h2 h3=>by
  by_cases q:j=i
  ·subst q
   obtain⟨z,l⟩:=qm h1;cases z
  ·by_cases q2:k=i
   ·subst q2
    obtain⟨z,l⟩:=qm h2;cases z
   ·rw [gf (gu q)] at h1 h3
    rw [gf (gu q2)] at h2 ⊢;exact r.dj j k ds es a hjk h1 h2 h3
 od:=fun j kvs h1=>by
  by_cases q:j=i
  ·subst q
   obtain⟨z,l⟩:=qm h1;cases z;exact⟨a,[],by rw [uo];simp [r.len,l],o0.to (fun p z=>by rw [hp] at z;cases z),fun k es b _ hb=>by cases hb⟩
  ·rw [gf (gu q)] at h1
   exact absurd (qdu no h1) q
 o1 :=fun j k k1 k2 h1 h2=>by
  have only:∀(l:Nat) us,(ρ.set i (some (.od o)))[l]? = some (some (.od us))->l=i:=fun l us z=>by
   by_cases q:l=i
   ·exact q
   ·rw [gf (gu q)] at z
    exact qdu no z
  rw [only j k1 h1,only k k2 h2]
end
structure MkF(P:Program)(w:World)(K:Frag)(mg:Str->Option Value)(base:Heap)(x:Str)(C:Addr)(k:Nat)(ps:List Str)(ar:Nat)(op:Flds->List D->Option (Flds×D))(fn:Addr)(fd:FuncData): Prop where
 ok:FnOk P w K mg base CX0 k fn fd ps (wq K x ar op)
 mks:Mk K C fn
 mg:mg x=some (.ref C)
 ns:PySem.W.nsIn K mainGlobals x=some (some (.ref C))
def qjl:D->Bool
 | .non=>true
 | _=>false
def q84(c:Str)(i ar:Nat)(dds:List D)(op:Flds->List D->Option (Flds×D))(fa:FA): FS:=fun ρ =>(fa ρ).bind fun ds=>if q83 i ρ = true/\(ds++dds).length=ar then(op [] (ds++dds)).bind fun p=>if qjl p.2 then some (.nx, ρ.set i (some (.od (c,p.1)))) else none else none
section
variable{X:Cx}{e:Expr}{es:List Expr}{kws:List Keyword}{pos p px spos:Pos}{fa fk:FA}
theorem qn4{c:Str}{C:Addr}{i ar:Nat}{op:Flds->List D->Option (Flds×D)}{F0 H0 F H:Hp}{σ : St}{ρ : Rho}{Dn:Ends}{ds:List D}{vs:List V}{fs':Flds}{d:D}{x dx:Addr}(hp:Pin.pin=none)(hns:PySem.W.nsIn X.K mainGlobals c=some (some (.ref C)))
  (r:RS X.K F0 H0 F H σ ρ) (no:q83 i ρ = true) (h4:op [] ds=some (fs',d)) (hd:qjl d=true) (hl:ds.length=ar) (rl:RepL X.K F ds vs) (n1:H x=none) (n2:H dx=none) (n3:dx≠x)
  (q:∀ σ' F' H',Same F F'->RS X.K F0 H0 F' H' σ' (ρ.set i (some (.od (c,fs'))))->Dn.nx σ' H') :
  wq X.K c ar op (.ref x :: vs) (upd (upd H dx (.own x)) x (.ins C dx [])) (fun v H3=>v=.non/\Dn.nx (σ.set i (some (.ref x))) H3) E0:=by
 obtain rfl:d=.non:=by cases d <;> first|rfl|cases hd
 have hF:F x=none:=r.fh.free n1;have gd:Grow F H F (upd H dx (.own x)):=Grow.own r.fh n2;have hx':upd H dx (.own x) x=none:=by rw [qo (gu n3)];exact n1
 have lx:less (upd (upd H dx (.own x)) x (.ins C dx [])) x=upd H dx (.own x):=by
  funext b
  by_cases z:b=x
  ·subst z;rw [vn,hx']
  ·rw [k7 z,qo z]
 have g2:Grow F H F (upd (upd H dx (.own x)) x (.ins C dx [])):=gd.trans (Grow.own gd.fh hx');refine⟨F,x,[],fs',ds,.non,vs,rfl,r.sameT g2,rl,hl,⟨⟨C,dx,[],qv,hns,rfl⟩,hF,vn⟩,h4,fun v F2 H2 g3 o3 rv=>⟨rep_non.mp rv,?_⟩⟩;rw [lx] at g3;exact q _ F2 H2 g3.ff ((r.grow (gd.trans g3)).setOB hp no (o3.at (r.g.hh.free n1)))
theorem qgj{c x:Str}{C:Addr}{i k k' ar:Nat}{fn:Addr}{fd:FuncData}{ps:List Str}{op:Flds->List D->Option (Flds×D)}{dvs:List V}{dds:List D}{dv:List Value}(hp:Pin.pin=none)(M:MkF X.prog X.w X.K X.mg X.base c C k ps ar op fn fd)(hr:Room k' X.A)(hk:k+1<=k')(hg:Gl X c)
  (hb:Binds X.K fd ps dv) (hd:Vals dvs dv) (hdd:∀H,RepL X.K H dds dvs) (ha:PA X (e :: es) (tDA X.K fa)) (hN:X.N.Nodup) (hi:X.N[i]? = some x) (hx:Loc X.env.scope x)
  (hs:swapsWith (.Call (.Name c p) (e :: es) [] pos) (some (.Name x px)) spos.line X.env=pure false:=by rfl) (hf:X.fn x=true\/X.env.scope.names.lookup x=some .local:=by first|exact .inl rfl|exact .inr rfl|assumption)
  (hdb:(c==("__debug__" : Str))=false:=by decide) (he:starEach (e :: es) X.env=(false,eval e X.env) :: starEach es X.env:=by rfl) (hpl:(backTo pos (starEach es X.env)).any (·.1)=false:=by rfl) :
  PS X (.Assign [.Name x px] (.Call (.Name c p) (e :: es) [] pos) spos) (tDS X.K (q84 c i ar dds op fa)):=
 jj (q6u hN hi hx (qjz M.mks M.ok (hr.mono hk) hg M.mg hb hd q2n ha hdb he hpl) hs hf) fun D σ H ⟨F0,H0,F, ρ,fl, ρ',r,hf',q⟩=>by
  obtain⟨ds,h1,h2⟩:=g9.mp hf'
  split at h2
  ·rename_i hc
   obtain⟨⟨fs',d⟩,h4,h5⟩:=g9.mp h2
   split at h5
   ·rename_i hn
    cases h5;refine⟨F0,H0,F, ρ,ds,r,h1,fun vs F1 H1 g1 r1 x dx n1 n2 n3=>?_⟩;exact qn4 (Dn:=D) hp M.ns (r.grow g1) hc.1 h4 hn hc.2 (r1.append (hdd F1)) n1 n2 n3 fun σ' F' H' s' r'=>q σ' F' H' (g1.ff.trans s') r'
   ·cases h5
  ·cases h2
end
abbrev XV:=Str×Option (Str×Int)
abbrev FX:=Rho->Option (XV×Rho)
def xOk(K:Frag)(F0 H0:Hp)(C:Addr)(p:XV)(ρ':Rho)(E:XK): Prop:=∀F' H' σ' od,RS K F0 H0 F' H' σ' ρ'->XF F' od p.2->E (.ref C) od H'
def tXS(K:Frag)(v:FX)(E:XK): TS:=fun _ σ H=>∃F0 H0 F ρ p ρ' C,RS K F0 H0 F H σ ρ /\ v ρ = some (p, ρ')/\PySem.W.nsIn K mainGlobals p.1=some (some (.ref C))/\xOk K F0 H0 C p ρ' E
def q85(K:Frag)(c:Str)(ar:Nat)(op:Flds->List D->Option (XV×Flds)): Sp:=fun vs H _ E=>∃F a fs fs' ds p C vs',vs=.ref a :: vs'/\SameT F H/\RepL K F ds vs'/\ds.length=ar/\OB0 K F H (less H a) a (c,fs)/\op fs ds=some (p,fs')/\PySem.W.nsIn K mainGlobals p.1=some (some (.ref C)) /\
 ∀F' H' od,Grow F (less H a) F' H'->OB0 K F' H' (less H a) a (c,fs')->XF F' od p.2->E (.ref C) od H'
def q16:FX:=fun _=>none
def xIf(t:FT)(a b:FX): FX:=fun ρ =>(t ρ).bind fun c=>if c then a ρ else b ρ
def q3w(u:FS)(a b:FX): FX:=fun ρ =>(a ρ).or (match u ρ with|some (.nx, ρ')=>b ρ'|_=>none)
def qa9(c:Str)(m:Str)(i ar:Nat)(op:Flds->List D->Option (XV×Flds))(fa:FA): FX:=fun ρ =>(vm i ρ).bind fun o=>(fa ρ).bind fun ds=>if o.1=c/\ds.length=ar/\(o.2.lookup m).isNone=true then(op o.2 ds).map fun p=>(p.1, ρ.set i (some (.od (c,p.2)))) else none
theorem PS.nox{X:Cx}{st:Stmt}{t:TS}(h:PS X.nox st t): PS X st t:=fun pins s σ H D I hw=>
 mx (h pins s σ H D (I.wish _) hw) (fun _ _ q=>q.unwish) fun _ _ z=>False.elim z
theorem PE.nox'{X:Cx}{e:Expr}{t:TE}(h:PE X.nox e t): PE X e t:=fun pins s σ H Q I hw=>
 mx (h pins s σ H Q (I.wish _) hw) (fun _ _ ⟨v,H',I',r,q⟩=>⟨v,H',I'.unwish,r,q⟩) fun _ _ z=>False.elim z
section
variable{P:Program}{w:World}{K:Frag}{mg:Str->Option Value}{base:Heap}{N:List Str}{qual:Str}{scope:Scope}{f:Addr}{cd:Value}{A:Around}{outer:List Env}{s0:Shared}{H0:Hp}{E:XK}
variable{st:Stmt}{rest:List Stmt}{u:FS}{v v':FX}{t:FT}{pos:Pos}
theorem qbn{X:Cx}: PS X st (tXS K q16 E):=fun _ _ _ _ _ _ ⟨_,_,_,_,_,_,_,_,h,_⟩=>by cases h
theorem q95{X:Cx}{sts:List Stmt}: PSs X sts (tXS K q16 E):=fun _ _ _ _ _ _ ⟨_,_,_,_,_,_,_,_,h,_⟩=>by cases h
theorem qn5{X:Cx}(h:PS X st (tXS K v E)): PSs X [st] (tXS K v E):=q5f h
theorem qbo{X:Cx}(h1:PS X st (tDS K u))(h1x:PS X st (tXS K v E))(h2x:PSs X rest (tXS K v' E)): PSs X (st :: rest) (tXS K (q3w u v v') E):=by
 intro pins s σ H D I ⟨F0,H0,F, ρ,x, ρ',C,r,hv,hn,hE⟩;unfold q3w at hv;cases h:v ρ with
 | some y=>
  rw [h,g0g] at hv;cases hv;refine t9 (thn (h1x pins s σ H {nx:=fun _ _=>False,rt:=fun _ _=>False} I ⟨F0,H0,F, ρ,x, ρ',C,r,h,hn,hE⟩) fun fl s1 q=>?_);cases fl with
  | next=>obtain⟨_,_,_,q⟩:=q;exact q.elim
  | brk=>obtain⟨_,_,_,q⟩:=q;exact q.elim
  | cont=>obtain⟨_,_,_,q⟩:=q;exact q.elim
  | ret z=>obtain⟨_,_,_,_,_,q⟩:=q;exact q.elim
 | none=>
  rw [h,g2e] at hv
  split at hv
  ·rename_i ρ1 hu
   refine t9 (thn (h1 pins s σ H {D with nx:=fun σ' H'=>tXS K v' E D σ' H'} I ⟨F0,H0,F, ρ,.nx, ρ1,r,hu,fun σ' F' H' s' r'=>⟨F0,H0,F', ρ1,x, ρ',C,r',hv,hn,hE⟩⟩) fun fl s1 q=>?_);cases fl with
   | next=>obtain⟨σ',H',I',q⟩:=q;exact h2x pins s1 σ' H' D I' q
   | brk=>exact q
   | cont=>exact q
   | ret z=>exact q
  ·cases hv
theorem qov{X:Cx}{c:Expr}{a b:List Stmt}(hc:PT X c (tDT K t))(ha:PSs X a (tXS K v E))(hb:PSs X b (tXS K v' E)): PS X (.If c a b pos) (tXS K (xIf t v v') E):=jj (qe3 hc ha hb) fun D σ H ⟨F0,H0,F, ρ,x, ρ',C,r,hv,hn,hE⟩=>by
 obtain⟨d,h1,h2⟩:=g9.mp hv;refine⟨F0,H0,F, ρ,d,r,h1,fun F' H' g=>?_⟩;cases d with
 | true=>exact qmi ⟨F0,H0,F', ρ,x, ρ',C,r.grow g,h2,hn,hE⟩
 | false=>exact qmh ⟨F0,H0,F', ρ,x, ρ',C,r.grow g,h2,hn,hE⟩
end
section
variable{P:Program}{w:World}{K:Frag}{mg:Str->Option Value}{base:Heap}{x qual:Str}{st:Stmt}{dV:Value}{f:Addr}{fd:FuncData}{N ps:List Str}
omit [Pin] in
theorem qgk{c:Str}{k n ar k1:Nat}{v:FX}(F:Fun2 K x qual st dV f fd)(S:FnScope N ps (qc st))(hn:N.length=n)(ha:ps.length=ar+1)(hk:k+1=k1)
  (hb:∀(Pn:Pin) (cdv:Value) (A:Around) (outer:List Env) (s:Shared) (H:Hp) (E:XK),Room k (A.deeper (envOfC qual (qc st) s.heap.objs.size f cdv))->PSs (z7 (CXR P w) P w K mg base N qual (qc st) f cdv A outer s H E) (qr st) (letI:Pin:=Pn;tXS K v E)) :
  FnOk P w K mg base (CXR P w) k1 f fd ps (q85 K c ar fun fs ds=>(v (q0q n c fs ds)).bind fun p=>(vm 0 p.2).bind fun o=>if o.1=c then some (p.1,o.2) else none):=by
 subst hn hk;obtain⟨oc,od,kV,doc,pm,an,cdv,ct,osl,rfl,lk,hcd⟩:=F.ex;have hpl:ps.length<=N.length:=by have:=p8 List.length S.pre;rw [p9] at this;lia
 refine q6w lk hcd S (fun vs H Q E h=>?_) fun A outer s H vs Q E hr hsp=>?_
 ·obtain⟨F,a,fs,fs',ds,p,C,vs',rfl,_,hR,hl,_⟩:=h
  rw [ml, <- hR.length,hl,ha]
 ·obtain⟨F,a,fs,fs',ds,p,C,vs',rfl,sT,hR,hl,o,hop,hn,q⟩:=hsp
  obtain⟨⟨p', ρ'⟩,h1,hop⟩:=g9.mp hop;obtain⟨o',h2,h3⟩:=g9.mp hop
  split at h3
  ·rename_i hx
   cases h3
   letI:Pin:=⟨some a⟩
   have r:=qbj (x:=c) (N:=N) (by omega) (fun p h=>mn h) sT hR o;refine⟨_,hb ⟨some a⟩ cdv A outer s H E hr,⟨_,_,_,_,_, ρ',C,r,h1,hn,fun F' H' σ' od r' xf=>?_⟩⟩;obtain⟨g',t'⟩:=qbk rfl r' h2;exact q F' H' od g' (by rw [<- hx];exact t') xf
  ·cases h3
end
section
variable{P:Program}{w:World}{K:Frag}{mg:Str->Option Value}{base:Heap}{CX:CXT}{k:Nat}{f:Addr}{fd:FuncData}{ps:List Str}{sp sp':Sp}
end
section
variable{M:Model}{A:Around}{E:Value->Shared->Prop}{s:Shared}{K:Frag}{a C C2:Addr}{od:Option Addr}
open PySem.W in
theorem qcs{b:Bool}{Q:Bool->Shared->Prop}(X:K.In s.heap)(e:XE a C od s.heap)(c2:ExcC K C2)(ht:typeIn K (.ref C2)=some (.type "type"))(hs:mroIn K C (.ref C2)=some b)(hq:Q b s): wpAny M A (excMatches (.ref a) (.ref C2)) Q E s:=by
 obtain⟨hh,g,d,t,os⟩:=s;have L0:Looks M hh (isInstance (.ref C2) (.type "tuple")) false:=(looks_typeIn X ht).andThen (Looks.of_pure tc_notTuple);have L1:Looks M hh (isType (.ref C2)) true:=by
  obtain⟨cdD,hcD⟩:=tj.mp (q7u c2);unfold PySem.W.clsIn at hcD
  split at hcD
  ·rename_i c' d' cd' sl' ho
   intro A' Q' E' s' k q;unfold isType loadHead;exact g6 (g1c (k _ _ (X _ _ ho)) (gi q))
  ·cases hcD
 have L2:Looks M hh (isExcClass (.ref C2)) true:=by
  refine L1.andThen ?_;rw [gw rfl];exact looks_mroIn X c2.cb
 have L3:=q1l (M:=M) e;have L4:=looks_mroIn (M:=M) X hs;unfold excMatches;refine g6 (L0.at ?_);simp only [nr,tq];refine g6 (gi ?_);simp only [g09,g1e,bind_assoc,pure_bind];refine g6 (L2.at ?_);simp only [g1o,nr,tq,pure_bind];refine g6 (L3.at ?_);refine g6 (L4.at ?_);cases b with
 | true=>
  simp only [nv,pure_bind];exact gi hq
 | false=>
  simp only [nr,tq,pure_bind];exact gi hq
end
section
variable{X:Cx}
def Handles(X:Cx)(C:Addr)(hs:List ExceptHandler)(th:Addr->Option Addr->TS): Prop:=∀(pins:List (Addr×Obj)) (σ : St) (H H2:Hp) (s s':Shared) (B:Heap) (a:Addr) (od:Option Addr) (D:Ends),Inv X pins σ H s->s.heap.get? a=none->H2 a=none ->
 (∀h6,B.StaysIn h6->s'.heap.UpToSlots h6->Inv X pins σ H2 {s' with heap:=h6})->Fl.Fly B (X.env :: X.outer) a (PX C od) .none s'.heap->th a od D σ H2 ->
 wpAny (model X.prog X.w) X.A (handleBy (.ref a) X.env hs) (SP X pins D) X.xe s'
theorem qkn{pins:List (Addr×Obj)}{σ : St}{H2:Hp}{s':Shared}{B:Heap}(inv:∀h6,B.StaysIn h6->s'.heap.UpToSlots h6->Inv X pins σ H2 {s' with heap:=h6})(st:B.StaysIn s'.heap): Inv X pins σ H2 s':=inv s'.heap st (Heap.UpToSlots.refl _)
variable{C C2:Addr}{cx n:Str}{np hpos:Pos}{b₀:Stmt}{suite:List Stmt}{rest:List ExceptHandler}{ts:TS}{th:Addr->Option Addr->TS}{i:Nat}
theorem qjm{B h:Heap}{l:List Env}{a:Addr}{od:Option Addr}{fl:Value}(x:Fl.Fly B l a (PX C od) fl h): XE a C od h:=by
 obtain⟨oe,ws,hoe,hoec,hoed⟩:=x.there;exact⟨oe,ws,hoe,hoec.1,hoec.2,hoed⟩
theorem qeq(c2:ExcC X.K C2)(ht:PySem.W.typeIn X.K (.ref C2)=some (.type "type"))(hs:PySem.W.mroIn X.K C (.ref C2)=some true)(hg:Gl X cx)(hm:X.mg cx=some (.ref C2))(hN:X.N.Nodup)(hi:X.N[i]? = some n)(hx:X.env.scope.names.lookup n=some .local)
  (hb:∀a,PSs (inX X a) (b₀ :: suite) ts) (hdb:(cx==("__debug__" : Str))=false:=by decide) :
  Handles X C (.ExceptHandler (some (.Name cx np)) (some n) (b₀ :: suite) hpos :: rest) (fun a od D σ H2=>ts (qil i D) (σ.set i (some (.ref a))) (upd H2 a (.ext (XE a C od)))):=by
 intro pins σ H H2 s s' B a od D I hna hH2 inv hfl q;have I5:=qkn inv hfl.1;refine wpAny_handleBy_cons (codeAny_handlers_test (q1k (qdp (a:=a) I5) hg hm ?_ hdb)) (by intro q;cases q);refine qcs I5.kIn (qjm hfl) c2 ht hs ?_;refine codeAny_handlers_suite_as (Fl.off hfl fun h6 fl6 sm6=>?_);have I6:=inv h6 fl6.1 sm6;obtain⟨oe,ws,hoe,hoec,hodd,hoed⟩:=qjm fl6;have I7:Inv X pins σ (upd H2 a (.ext (XE a C od))) {s' with heap:=h6}:=qbg I hna I6 hH2 ⟨⟨oe,ws,hoe,hoec,hodd,hoed⟩,⟨oe,hoe⟩,fun h1 h2 ⟨o,vs,e1,e2,e3⟩ k=>⟨o,vs,k o e1,e2,e3⟩⟩;refine q3m (X:=X) I7 hN hi (Or.inl hx) (v:=.ref a) rfl (fun s8 I8=>?_) (.inr hx);exact mx (hb a pins s8 _ _ (qil i D) (qdp I8) q) (fun f s9 z=>qn2 I.ok hN hi hx z) fun _ _ z=>z.elim
end
section
variable{X:Cx}
abbrev pnX(X:Cx)(pins:List (Addr×Obj)): Cx:={X with pn:=X.pn++pins}
abbrev XT(X:Cx)(pins:List (Addr×Obj))(σ0:St)(Ex:XK): Cx:=(pnX X pins).wish fun e s1=>∃p H1 s,Inv (pnX X pins) p σ0 H1 s/\CXR X.prog X.w X.stack H1 s Ex e s1
theorem qow{pins:List (Addr×Obj)}(ok:X.Ok): (pnX X pins).Ok:=
 ⟨ok.mod,ok.kind,ok.glob,ok.blt,ok.above,ok.inj,ok.has,ok.cab,ok.hd,ok.frames,ok.stk,ok.exf,ok.bs,ok.bsz,ok.noex,ok.exfs,ok.funs,ok.frf⟩
theorem qko{pins:List (Addr×Obj)}(ok:(pnX X pins).Ok): X.Ok:=
 ⟨ok.mod,ok.kind,ok.glob,ok.blt,ok.above,ok.inj,ok.has,ok.cab,ok.hd,ok.frames,ok.stk,ok.exf,ok.bs,ok.bsz,ok.noex,ok.exfs,ok.funs,ok.frf⟩
theorem qn6{pins:List (Addr×Obj)}{σ : St}{H:Hp}{s:Shared}(I:Inv X pins σ H s): Inv (pnX X pins) [] σ H s:=
 ⟨qow I.ok,I.os,I.bare,I.base,I.loc,I.cell,I.free,I.freeC,fun p hp=>I.pin p (by rw [mz] at hp;exact hp),I.hok,I.len⟩
theorem q26{pins p:List (Addr×Obj)}{σ : St}{H:Hp}{s:Shared}(I:Inv (pnX X pins) p σ H s): Inv X pins σ H s:=
 ⟨qko I.ok,I.os,I.bare,I.base,I.loc,I.cell,I.free,I.freeC,fun q hq=>I.pin q (g0t _ hq),I.hok,I.len⟩
theorem qkp{pins p:List (Addr×Obj)}{D:Ends}{f:Flow}{s':Shared}(h:SP (pnX X pins) p D f s'): SP X pins D f s':=by
 cases f with
 | next=>obtain⟨σ',H',I,q⟩:=h;exact⟨σ',H',q26 I,q⟩
 | brk=>obtain⟨σ',H',I,q⟩:=h;exact⟨σ',H',q26 I,q⟩
 | cont=>obtain⟨σ',H',I,q⟩:=h;exact⟨σ',H',q26 I,q⟩
 | ret u=>obtain⟨v, σ',H',I,r,q⟩:=h;exact⟨v, σ',H',q26 I,r,q⟩
def exT(okC:Addr->Prop)(th:Addr->Addr->Option Addr->TS)(D:Ends)(σ : St): XK:=fun c od H2=>∃C,c=.ref C/\okC C/\∀a,H2 a=none->th C a od D σ H2
theorem qkq{body:List Stmt}{h0:ExceptHandler}{hs:List ExceptHandler}{pos:Pos}{tb:St->XK->TS}{okC:Addr->Prop}{th:Addr->Addr->Option Addr->TS}(hst:X.stack=X.env :: X.outer/\X.env.frame=some X.env.locals)
  (hbody:∀(pins:List (Addr×Obj)) (σ0:St) (Ex:XK),PSs (XT X pins σ0 Ex) body (tb σ0 Ex)) (hh:∀C,okC C->Handles X C (h0 :: hs) (th C)):PS X (.Try body (h0 :: hs) [] [] pos) (fun D σ H=>tb σ (exT okC th D σ) D σ H):=by
 intro pins s σ H D I h;refine wpAny_Try_except ?_;refine mx (hbody pins σ (exT okC th D σ) [] s σ H D ((qn6 I).wish _) h) (fun f s1 q=>?_) fun e s1 q=>?_
 ·have q':SP X pins D f s1:=qkp (SP.unwish q)
  cases f with
  | next=>exact g0u q'
  | brk=>exact q'
  | cont=>exact q'
  | ret u=>exact q'
 ·obtain⟨p,H1,s2,I2,os,bare,B,H2,a,C',od,rfl,hfl,hun,hna,hH2,C,hc,hok,hq⟩:=q
  cases hc;have I3:Inv X pins σ H1 s2:=q26 I2;rw [hst.1] at hfl;have hfr:X.A.frames=some (X.env :: X.outer):=by rw [I.ok.frames,hst.1]
  refine Fl.note PX.st hfr hst.2 hfl fun h4 held4 sm4=>?_;refine Fl.off held4 fun h5 held sm5=>?_;exact hh C' hok pins σ H1 H2 s2 {s1 with heap:=h5} B a od D I3 hna hH2 (fun h6 st u=>I3.call' (s':={s1 with heap:=h6}) (ch:=[]) os (hun h6 st ((sm4.trans sm5).trans u)).1 (hun h6 st ((sm4.trans sm5).trans u)).2 bare fun b z=>absurd z (by simp)) held (hq a hH2)
end
def qn7(K:Frag)(F0 H0 F:Hp)(C:Addr)(p:XV)(σ0:St)(ρ':Rho)(E:XK): Prop:=∀F' H' od,Same F F'->RS K F0 H0 F' H' σ0 ρ'->XF F' od p.2->E (.ref C) od H'
def tXC(K:Frag)(v:FX)(σ0:St)(E:XK): TS:=fun _ σ H=> σ = σ0/\∃F0 H0 F ρ p ρ' C,RS K F0 H0 F H σ ρ /\ v ρ = some (p, ρ')/\PySem.W.nsIn K mainGlobals p.1=some (some (.ref C))/\qn7 K F0 H0 F C p σ0 ρ' E
def qn8(K:Frag)(v:FX)(σ0:St)(E:XK): TE:=fun σ H _=> σ = σ0/\∃F0 H0 F ρ p ρ' C,RS K F0 H0 F H σ ρ /\ v ρ = some (p, ρ')/\PySem.W.nsIn K mainGlobals p.1=some (some (.ref C))/\qn7 K F0 H0 F C p σ0 ρ' E
section
variable{X:Cx}{K:Frag}{st:Stmt}{v v':FX}{t:FT}{pos:Pos}{σ0:St}{E:XK}{pins:List (Addr×Obj)}
theorem qkr{e:Expr}(h:PE X e (qn8 K v σ0 E))(hs:swapsWith e none pos.line X.env=pure false:=by rfl): PS X (.Expr e pos) (tXC K v σ0 E):=jj (q7r h hs) fun D σ H q=>q
theorem qks{k:Nat}{fn:Addr}{fd:FuncData}{ps:List Str}{sp:Sp}{p0:List (Addr×Obj)}{H:Hp}{s:Shared}{Q:VK}{us:List Value}{vs:List V}(G:FnOk X.prog X.w X.K X.mg X.base (CXR X.prog X.w) k fn fd ps sp)(hr:Room k X.A)(hb:Binds X.K fd ps [])
  (I:Inv (XT X pins σ0 E) p0 σ0 H s) (rv:Vals vs us) (q:sp vs H Q E):wpAny (model X.prog X.w) X.A (call (.ref fn) us) (EP (XT X pins σ0 E) p0 σ0 Q) (XT X pins σ0 E).xe s:=by
 have hlu:us.length=ps.length:=by rw [<- rv.length];exact G.len _ _ _ _ q
 have hl':(us++[]).length=ps.length:=by rw [mz];exact hlu
 have hb':=hb s us I.kIn hl';rw [mz] at hb';refine ue (g0c (G.run X.A X.stack s H ⟨us,[]⟩ us vs _ _ hr I.env0 hb' rv q) fun rr s' hq=>?_);cases rr with
 | error e1=>exact⟨p0,H,s,I.unwish,hq⟩
 | ok fl=>
  cases fl with
  | ret u=>exact I.after hq
  | next=>exact False.elim hq
  | brk=>exact False.elim hq
  | cont=>exact False.elim hq
theorem qkt{C0:Addr}{c x m:Str}{k k' ar i:Nat}{fn:Addr}{fd:FuncData}{ps fl:List Str}{op:Flds->List D->Option (XV×Flds)}{e:Expr}{es:List Expr}{fa:FA}{px apos:Pos}{pl:Sem Bool}(O:ClsF X.K c C0 fl)(G:FnOk X.prog X.w X.K X.mg X.base (CXR X.prog X.w) k fn fd ps (q85 X.K c ar op))(me:Meth X.K C0 m fn)(hb:Binds X.K fd ps [])(hr:Room k' X.A)(hk:k<=k')
  (hv:PE (XT X pins σ0 E) (.Name x px) (yn i)) (ha:PA (XT X pins σ0 E).nox (e :: es) (tDA X.K fa))
  (hst:starEach (e :: es) X.env=(false,eval e X.env) :: starEach es X.env:=by rfl) (hpl:(backTo pos (starEach es X.env)).any (·.1)=false:=by rfl)
  (ht:eval (.Call (.Attribute (.Name x px) m apos) (e :: es) [] pos) X.env=(do
   let ov <- eval (.Name x px) X.env
   standAt apos.atName
   let(fv,first) <- holding [ov] (getMethod ov m pl)
   callWith pos fv first (backTo pos (starEach (e :: es) X.env)) (backToKw pos (keywordEach [] X.env))):=by rfl) :
  PE (XT X pins σ0 E) (.Call (.Attribute (.Name x px) m apos) (e :: es) [] pos) (qn8 X.K (qa9 c m i ar op fa) σ0 E):=by
 intro q0 s σ H Q I ⟨e0,F0,H0,F, ρ,y, ρ',C,r,hv',hn,hE⟩;subst e0;have tm:qa4 C0 m (q85 X.K c ar op) [] E (yn i) (tDA X.K fa) σ H Q:=by
  obtain⟨ob,h1,hv'⟩:=g9.mp hv';obtain⟨ds,h2,h3⟩:=g9.mp hv'
  split at h3
  ·rename_i hc
   obtain⟨⟨p',fs'⟩,h4,h5⟩:=gj.mp h3;cases h5;obtain⟨x,fs⟩:=ob;obtain⟨rfl,hl,hnn⟩:=hc;obtain⟨a,bs,e1,t,_⟩:=r.od i _ (xc h1);obtain rfl:=t.nb;obtain⟨C',dx,vs,e2,e3,e4⟩:=t.ex;have hC:C'=C0:=by
    have:=e3.symm.trans O.ns;cases this;rfl
   subst hC;refine⟨.ref a,e1,a,dx,vs,rfl,e2,e4.miss (g1t.mp hnn),F0,H0,F, ρ,ds,r,h2,fun ws F1 H1 g1 r1=>?_⟩;have r':=r.grow g1;have t':=t.grow g1;exact⟨F1,a,fs,fs',ds,_,C,ws,by rw [mz],r.sameT g1,r1,hl,t'.ob.at vn,h4,hn,fun F2 H2 od g2 o2 xf=>hE F2 H2 od (g1.ff.trans g2.ff) (r'.callOB (xc h1) e1 t' g2 o2) xf⟩
  ·cases h3
 refine uv (pl:=pl) (thn (hv q0 s σ H _ I tm) fun u s1 ⟨x',H1,I1,rx,a,dx,fs,ex,ea,l,q⟩=>?_) ht;subst ex;obtain rfl:u=Value.ref a:=rx;refine q3n I1 ea O.cls me l ?_;refine ug (first:=[.ref a]) (h₀:=X.base) I.ok.mod.kin me.kp (mx (ha pos q0 s1 σ H1 _ (I1.wish _) q) (fun us s2 ⟨vs,H2,I2,rv,q2⟩=>⟨I2.kIn,?_⟩) fun _ _ z=>False.elim z) hst hpl;dsimp only at q2;rw [mz] at q2;exact qks (us:=.ref a :: us) (vs:=.ref a :: vs) G (hr.mono hk) hb (I2.unwish) (.cons rfl rv) q2
end
def sAs(i:Nat)(x:Str)(us:FS)(f:Option (Str×Int)): FS:=fun ρ =>(us (ρ.set i (some (.fz (.exc x f))))).map fun r=>(r.1,r.2.set i none)
def qaa(ub:FS)(vb:FX)(xs:List Str)(hd:Str->Option (Str×Int)->FS): FS:=fun ρ =>match vb ρ with
 | some (p, ρ')=>if p.1∈xs then hd p.1 p.2 ρ' else none
 | none=>ub ρ
def qin(K:Frag)(hd:Option (Str×Int)->FS)(od:Option Addr): TS:=fun D σ H=>∃F0 H0 F ρ f fl ρ',RS K F0 H0 F H σ ρ /\ XF F od f/\hd f ρ = some (fl, ρ')/\qa5 K F0 H0 F D fl ρ'
section
variable{X:Cx}
theorem Handles.imp{C:Addr}{hs:List ExceptHandler}{th th':Addr->Option Addr->TS}(k:Handles X C hs th)(i:∀a od D σ H,H a=none->th' a od D σ H->th a od D σ H): Handles X C hs th':=
 fun pins σ H H2 s s' B a od D I hna hH2 inv hfl q=>k pins σ H H2 s s' B a od D I hna hH2 inv hfl (i a od D σ H2 hH2 q)
variable{C C2:Addr}{cx n x:Str}{np hpos:Pos}{b₀:Stmt}{suite:List Stmt}{rest:List ExceptHandler}{us:FS}{i:Nat}
theorem qox(c2:ExcC X.K C2)(ht:PySem.W.typeIn X.K (.ref C2)=some (.type "type"))(hs:PySem.W.mroIn X.K C (.ref C2)=some true)(hns:PySem.W.nsIn X.K mainGlobals x=some (some (.ref C)))(hcx:q7v X.K C)(hg:Gl X cx)(hm:X.mg cx=some (.ref C2))(hN:X.N.Nodup)(hi:X.N[i]? = some n)(hx:X.env.scope.names.lookup n=some .local)
  (hb:∀a,PSs (inX X a) (b₀ :: suite) (tDS X.K us)) (hdb:(cx==("__debug__" : Str))=false:=by decide) :
  Handles X C (.ExceptHandler (some (.Name cx np)) (some n) (b₀ :: suite) hpos :: rest) (fun _ od=>qin X.K (sAs i x us) od):=
 (qeq c2 ht hs hg hm hN hi hx hb hdb).imp fun a od D σ H hna ⟨F0,H0,F, ρ,f,fl, ρ',r,xf,hf,q⟩=>by
  obtain⟨⟨fl1, ρ1⟩,h5,h6⟩:=gj.mp hf;cases h6;have g3:Grow F H (upd F a (.ext (XE a C od))) (upd H a (.ext (XE a C od))):=Grow.new r.fh hna;have r4:=(r.grow g3).set i (rep_exc.mpr ⟨a,C,rfl,⟨od,qv,xf.mono g3.ff⟩,hns,hcx⟩:Rep X.K (upd F a (.ext (XE a C od))) (.exc x f) (.ref a));refine⟨F0,H0,_,_,_, ρ1,r4,h5,?_⟩;cases fl1 with
  | nx=>exact fun σ' F' H' s' r'=>q _ F' H' (g3.ff.trans s') (r'.unset i)
  | bk=>exact fun σ' F' H' s' r'=>q _ F' H' (g3.ff.trans s') (r'.unset i)
  | ct=>exact fun σ' F' H' s' r'=>q _ F' H' (g3.ff.trans s') (r'.unset i)
  | rt d=>exact fun v σ' F' H' r' rv=>q v _ F' H' (r'.unset i) rv
theorem qku{body:List Stmt}{h0:ExceptHandler}{hs:List ExceptHandler}{pos:Pos}{ub:FS}{vb:FX}{xs:List Str}{hd:Str->Option (Str×Int)->FS}(hst:X.stack=X.env :: X.outer/\X.env.frame=some X.env.locals)
  (hb:∀(pins:List (Addr×Obj)) (σ0:St) (Ex:XK),PSs (XT X pins σ0 Ex) body (tDS X.K ub)) (hx:∀(pins:List (Addr×Obj)) (σ0:St) (Ex:XK),PSs (XT X pins σ0 Ex) body (tXC X.K vb σ0 Ex))
  (hh:∀x C,x∈xs->PySem.W.nsIn X.K mainGlobals x=some (some (.ref C))->Handles X C (h0 :: hs) (fun _ od=>qin X.K (hd x) od)) (hn:∀x,x∈xs->∃C,PySem.W.nsIn X.K mainGlobals x=some (some (.ref C))) :
  PS X (.Try body (h0 :: hs) [] [] pos) (tDS X.K (qaa ub vb xs hd)):=by
 refine jj (qkq (tb:=fun σ0 Ex D σ H=>tXC X.K vb σ0 Ex D σ H\/tDS X.K ub D σ H) (okC:=fun C=>∃x,x∈xs/\PySem.W.nsIn X.K mainGlobals x=some (some (.ref C)))
  (th:=fun C _ od D σ H=>∃x,x∈xs/\PySem.W.nsIn X.K mainGlobals x=some (some (.ref C))/\qin X.K (hd x) od D σ H) hst (fun pins σ0 Ex p s σ H D I h=>h.elim (hx pins σ0 Ex p s σ H D I) (hb pins σ0 Ex p s σ H D I))
  fun C _ pins σ H H2 s s' B a od D I hna hH2 inv hfl ⟨x,h1,h2,q⟩=>hh x C h1 h2 pins σ H H2 s s' B a od D I hna hH2 inv hfl q) fun D σ H ⟨F0,H0,F, ρ,fl, ρ',r,hf,q⟩=>?_
 unfold qaa at hf
 split at hf
 ·rename_i p ρ1 hv
  split at hf
  ·rename_i hxs
   obtain⟨C,hC⟩:=hn p.1 hxs;refine .inl ⟨rfl,F0,H0,F, ρ,p, ρ1,C,r,hv,hC,fun F' H' od s' r' xf=>⟨C,rfl,⟨p.1,hxs,hC⟩,fun a _=>⟨p.1,hxs,hC,F0,H0,F', ρ1,p.2,fl, ρ',r',xf,hf,yt s' q⟩⟩⟩
  ·cases hf
 ·exact .inr ⟨F0,H0,F, ρ,fl, ρ',r,hf,q⟩
end
theorem qio{X:Cx}{K:Frag}{st:Stmt}{rest:List Stmt}{v:FX}{σ0:St}{E:XK}(h:PS X st (tXC K v σ0 E)): PSs X (st :: rest) (tXC K v σ0 E):=by
 intro pins s σ H D I q;refine t9 (thn (h pins s σ H {nx:=fun _ _=>False,rt:=fun _ _=>False} I q) fun fl s1 q=>?_);cases fl with
 | next=>obtain⟨_,_,_,q⟩:=q;exact q.elim
 | brk=>obtain⟨_,_,_,q⟩:=q;exact q.elim
 | cont=>obtain⟨_,_,_,q⟩:=q;exact q.elim
 | ret z=>obtain⟨_,_,_,_,_,q⟩:=q;exact q.elim
def qpr(l:List (Str×(Option (Str×Int)->FS)))(x:Str): Option (Str×Int)->FS:=(l.lookup x).getD fun _=>q14
end DL
namespace DL
open PySem PySem.Spec PyProof.Rows L2
section
variable{prog:Program}{w:World}{A:Around}{E:Value->Shared->Prop}{h:Heap}{g:Array GenState}{d:Drawn}{t:Nat}{os:OsState}
variable{nm q:Str}{C N:Addr}{bs bm:List Value}{hdct:Bool}{sn:List Str}{sub:List Value}{ab:Bool}{col:Option Bool}{dd:Option Addr}{k0 k1 k2 k3 k5:Option Value}
theorem qgl{mN:Str->Option Value}{rest:List Value}{fI:Addr}{oI:Obj}{Q:Fin->Shared->Prop}(T:OwnTail h vB bm)(hC:h.get? C=some (excClassObj nm q C N bs bm hdct sn sub ab col dd k0 k1 k2 k3 k5 "ValueError.__new__"))(hn:h.Ns N mN)(hi:mN "__init__" = some (.ref fI))
  (hfI:h.get? fI=some oI) (hfc:oI.cls=.type "function") (hrest:rest.length<=sizeLine)
  (hq:∀h' e,Heap.MadeExcOf h h' e (.ref C) rest->wpAny (model prog w) A (call (.ref fI) (.ref e :: rest)) (fun r s'=>r=.none/\Q (.done (.ret (.ref e))) s') E ⟨h',g,d,t,os⟩) :
  wpAny (model prog w) A (Builtin.«type.__call__» ⟨.ref C :: rest,[]⟩) Q E ⟨h,g,d,t,os⟩:=by
 have F:=g05
 repeat (first|with_reducible refine uu hC ?_|with_reducible refine wpAny_madeBy_exc hC ?_|wp_step)
 refine codeAny_call_builtin_code (g1h _ F.quiet) (wpAny_check_new_subT F T hC (codeAny_exc_new_subT F T hC ?_ hrest));show wpAny _ _ _ _ _ _;obtain⟨h2,eh⟩:∃h2,h2=(h.push {cls:=.type "tuple",data:=.seq rest.toArray}).push {cls:=.ref C,data:=.fields #[.ref h.objs.size,.none,.none,.none,.bool false,.none]}:=⟨_,rfl⟩
 have keep:∀b o,h.get? b=some o->h2.get? b=some o:=fun b o e=>by rw [eh];exact gh _ (gh _ e)
 have hget:h2.get? (h.objs.size+1)=some {cls:=.ref C,data:=.fields #[.ref h.objs.size,.none,.none,.none,.bool false,.none]}:=by rw [eh];heap_get
 have hm:Heap.MadeExcOf h h2 (h.objs.size+1) (.ref C) rest:=⟨keep,t7 (g27 _),h.objs.size,hget,t7 (gv _),by rw [eh];exact gh _ (Heap.get?_push_at rfl rfl)⟩
 rw [<- eh];have hcC:(Value.ref C :: bm).contains (.ref C)=true:=by simp
 unfold isInstance
 repeat (first|with_reducible refine uu hget ?_|(with_reducible refine wpAny_isSubtype_exc (keep _ _ hC) ?_;rw [hcC])|wp_step)
 show wpAny _ _ (typeLookup (.ref C) _) _ _ _;refine wpAny_typeLookup_tail (keep _ _ hC) (hn.keeps keep) (T.keeps keep) F.mroIs F.init.lookup ?_;rw [hi];refine nj (g6 ?_);unfold bindSpecial;refine g6 (g1x (T:="function") ⟨_,keep _ _ hfI,hfc⟩ ?_);rw [gw (by decide)];refine gi (g6 (mx (hq h2 _ hm) (fun r s' hr=>?_) fun _ _ x=>x));obtain⟨rfl,hQ⟩:=hr
 wp_walk
 exact hQ
theorem qgm{mN:Str->Option Value}{rest:List Value}{fI:Addr}{oI:Obj}{Q:Value->Shared->Prop}(T:OwnTail h vB bm)(hC:h.get? C=some (excClassObj nm q C N bs bm hdct sn sub ab col dd k0 k1 k2 k3 k5 "ValueError.__new__"))(hn:h.Ns N mN)(hi:mN "__init__" = some (.ref fI))
  (hfI:h.get? fI=some oI) (hfc:oI.cls=.type "function") (hrest:rest.length<=sizeLine)
  (hq:∀h' e,Heap.MadeExcOf h h' e (.ref C) rest->wpAny (model prog w) (A.under (.builtin "type.__call__" ⟨.ref C :: rest,[]⟩)) (call (.ref fI) (.ref e :: rest)) (fun r s'=>r=.none/\Q (.ref e) s') E ⟨h',g,d,t,os⟩) :
  wpAny (model prog w) A (call (.ref C) rest) Q E ⟨h,g,d,t,os⟩:=by
 have f1:=tc_lookup;have f2:=tc_bind (.ref C);have hT:(⟨h,g,d,t,os⟩:Shared).TypeIs (.ref C) "type" :=⟨_,hC,rfl⟩
 refine ue (codeAny_of_tree ?_);show wpAny _ _ (callAny (.ref C) _) _ _ _
 repeat (any_goals (first|assumption|with_reducible refine uu hC ?_|wp_step))
 exact⟨rfl,codeAny_call_builtin_at (g1h _ (by decide +kernel)) entry_typeCall (wpAny_check_type_call_sub hC (qgl T hC hn hi hfI hfc hrest fun h' e hm=>hq h' e hm))⟩
theorem qgn{e:Addr}{oe:Obj}{vs:Array Value}{x:Value}{Q:Value->Shared->Prop}(T:OwnTail h vB bm)(hC:h.get? C=some (excClassObj nm q C N bs bm hdct sn sub ab col dd k0 k1 k2 k3 k5 "ValueError.__new__"))(he:h.get? e=some oe)(hcls:oe.cls=.ref C)(hd:oe.data=.fields vs){t1:Addr}(h0:vs[0]? = some (.ref t1))
  (hq:∀h' t0,(∀b o,b≠e->h.get? b=some o->h'.get? b=some o)->h.get? t0=none->t0≠e->h'.get? t0=some {cls:=.type "tuple",data:=.seq #[x]}->h'.get? e=some {oe with data:=.fields (vs.setIfInBounds 0 (.ref t0))}->Q .none ⟨h',g,d,t,os⟩) :
  wpAny (model prog w) A (call (.builtin "ValueError.__init__") [.ref e,x]) Q E ⟨h,g,d,t,os⟩:=by
 have F:=g05;refine ue (t8 F.init.plain F.initEntry (wpAny_check_init_subT F T hC he hcls ?_))
 wp_walk
 rw [hd];refine gi ?_;rw [h0];refine gi ?_;have he2:=gh (h:=h) {cls:=.type "tuple",data:=.seq #[x]} he;have hsz:0<vs.size:=(nt.mp h0).1;refine g6 (uz he2 hd hsz ?_);have ne:h.objs.size≠e:=td (gs he);have hd3:=ph hd (·.setIfInBounds 0 (Value.ref h.objs.size));have fin:=hq ((h.push {cls:=.type "tuple",data:=.seq #[x]}).update e (Obj.mapFields (·.setIfInBounds 0 (Value.ref h.objs.size)))) h.objs.size (fun b o hb e1=>by rw [mw _ _ (gu hb)];exact gh _ e1) (t7 (gv _)) ne
  (by rw [mw _ _ (gu ne)];exact m3 _ rfl)
  (by
   rw [pw _ he2 (g00 hd3)];obtain⟨oc,od,dt,sl⟩:=oe;cases hd
   rfl)
 wp_walk
 exact fin
end
abbrev vBx:List Value:=[.type "ValueError",.type "Exception",.type "BaseException",.type "object"]
theorem qn9(self:Value): refuseLoop self "__setattr__" vBx=pure ():=by kernel_rfl
def qer:List Value->Bool
 | .ref _ :: r=>qer r
 | r=>r==vBx
theorem q96(self:Value): ∀l:List Value,qer l=true->refuseLoop self "__setattr__" l=pure ()
 | [],e=>by cases e
 | c :: r,e=>by
  cases c with
  | ref a=>rw [refuseLoop_ref];exact q96 self r e
  | type n=>
   have:(Value.type n :: r)=vBx:=ni.mp e;rw [this];exact qn9 self
  | _=>exact absurd (ni.mp e) (by intro z;cases z)
theorem qbp:∀l:List Value,qer l=true->l.contains (.type "object")=true
 | [],e=>by cases e
 | c :: r,e=>by
  cases c with
  | ref a=>rw [List.contains_cons,qbp r e,g2h]
  | type n=>
   have:(Value.type n :: r)=vBx:=ni.mp e;rw [this];decide
  | _=>exact absurd (ni.mp e) (by intro z;cases z)
def qes(K:PySem.W.Frag)(C:Addr): Bool:=(PySem.W.clsIn K C).any fun cd=>qer cd.mro
section
variable{prog:Program}{w:World}{A:Around}{E:Value->Shared->Prop}{K:PySem.W.Frag}{s:Shared}{x D:Addr}{ox:Obj}{name:Str}{v:Value}
open PySem.W Builtin Builtin.ObjectAttr
theorem qip{od:Obj}{ws:Array Value}{expr:Bool}{Q:Value->Shared->Prop}(c:ExcC K D)(X:K.In s.heap)(J:PySem.W.InstAt s.heap x ox D (some od))(hd:ox.data=.fields ws)
  (hf:findObj K D (some od) name=some (.value v)) (hh:handedIn v=true) (h:Q v {s with toks:=s.toks+1}):wpAny (model prog w) A (getAttr (.ref x) name expr) Q E s:=by
 have I:XE x D ox.dict s.heap:=⟨ox,ws,J.at_,J.cls,rfl,hd⟩
 obtain⟨hp,g,dr,t,os⟩:=s;have L0:=J.type (M:=model prog w);have L1:=looks_findIn (M:=model prog w) X c.ga;have L2:=looks_findIn (M:=model prog w) X c.gk;have L3:=looks_find (M:=model prog w) X J hf;have f3:=pf.ga.bind (.ref x);unfold getAttr getAttrBy;refine g6 (wpAny_mkText (nj (g6 (L0.at (g6 (L1.at ?_))))));show wpAny _ _ (getAttrByItsOwn _ _ _ _ _ _) _ _ _;unfold getAttrByItsOwn hookBefore;rw [gw (show onTheHeap (Value.ref D)=true from rfl)];refine g6 (L2.at ?_);refine g6 (g0p (nj ?_));unfold callGetattribute boundAndCalled;rw [m4 (by cases expr <;> decide)];rw [f3];refine g6 (gi ?_);refine ue (t8 pf.ga.plain F.entry_bexc_ga (qao c X I ?_));unfold Builtin.«object.__getattribute__»;refine g6 (gi (g6 (gi (g6 (L0.at (g6 (L3.at ?_)))))));refine gi ?_;dsimp only;exact handed_on hh h
theorem qiq{ws:Array Value}{Q:Unit->Shared->Prop}(X:K.In s.heap)(hx:s.heap.get? x=some ox)(hcls:ox.cls=.ref D)(hdn:ox.dict=none)(hd:ox.data=.fields ws)
  (hs:findIn K (.ref D) "__setattr__" = some (some (.builtin "object.__setattr__"))) (ho:qes K D=true) (ha:findIn K (.ref D) name=some none) (hh:hasDictIn K D=true)
  (h:∀h' dx,(∀b o,b≠x->s.heap.get? b=some o->h'.get? b=some o)->s.heap.get? dx=none->h'.get? x=some {ox with dict:=some dx}->h'.Ns1 dx (fun y=>if y=name then some v else none)->Q () {s with heap:=h',toks:=s.toks+2}) :
  wpAny (model prog w) A (setAttr (.ref x) name v) Q E s:=by
 obtain⟨oc,odd,odt,osl⟩:=ox;dsimp only at hcls hdn hd;subst hcls hdn hd;have J:PySem.W.InstAt s.heap x ⟨.ref D,none,.fields ws,osl⟩ D none:=⟨hx,rfl,rfl,trivial⟩
 have SF:=PySem.F.store_object;obtain⟨cd,hc,hom⟩:=any_some ho;have ne:cd.mro.isEmpty=false:=by cases q:cd.mro with|nil=>rw [q] at hom;cases hom|cons _ _=>rfl
 have sub:Looks (model prog w) s.heap (isInstance (.ref x) (.type "object")) true:=J.type.andThen (looks_mroIn X (by unfold mroIn;rw [hc,gc,m4 (by rw [ne];decide),qbp _ hom]));refine set_plain X J hs ?_;refine t8 SF.slot.plain SF.entry (@check_slot (model prog w) _ _ {s with toks:=s.toks+1} "object.__setattr__" "object" "__setattr__" (.ref x) [.str name s.toks,v] [] _ SF.kind SF.split sub (SF.args (.ref x) (.str name s.toks) v) ?_);have hm:Looks (model prog w) s.heap (mroOf (.ref D)) cd.mro:=(looks_clsIn X hc).andThen .now;rw [osa_eq,refuse_eq];refine g6 (g6 (pe (s:={s with toks:=s.toks+1}) J.type (g6 (pe (s:={s with toks:=s.toks+1}) hm ?_))));rw [q96 _ _ hom];refine gi (g6 (pe (s:={s with toks:=s.toks+1}) J.type (g6 (pe (s:={s with toks:=s.toks+1}) (looks_findIn X ha) (g6 (gi ?_))))));dsimp only;obtain⟨cd',hc',hd'⟩:=any_some hh;unfold storeInOwnDict;refine g6 (gi ?_);show wpAny _ _ (ownDictForStores (.ref x) >>= _) _ _ _;unfold ownDictForStores instanceDict;refine g6 (g6 (g1c hx (g6 (pe (s:={s with toks:=s.toks+1}) (PySem.W.looks_clsIn X hc') ?_))));rw [hd'];have hdx:s.heap.get? s.heap.objs.size=none:=t7 (gv _);have hxd:x≠s.heap.objs.size:=ma (gs hx);show wpAny _ _ (alloc {cls:=Value.type "dict",data:=Data.dict #[]} >>= fun d=>update x (fun o=>{o with dict:=some d}) >>= fun _=>dictMade (.ref D) x d) _ _ _;refine g6 (wpAny_alloc (g6 (wpAny_update (gh _ hx) ?_)));obtain⟨h2,eh⟩:∃h2,h2=(s.heap.push {cls:=Value.type "dict",data:=Data.dict #[]}).update x (fun o=>{o with dict:=some s.heap.objs.size}):=⟨_,rfl⟩
 have ex:h2.get? x=some ⟨.ref D,some s.heap.objs.size,.fields ws,osl⟩:=by
  rw [eh];exact pw (fun o=>{o with dict:=some s.heap.objs.size}) (gh _ hx) rfl
 have ed:h2.get? s.heap.objs.size=some {cls:=Value.type "dict",data:=Data.dict #[]}:=by
  rw [eh,mw _ _ hxd];exact m3 _ rfl
 have kp:∀b o,b≠x->s.heap.get? b=some o->h2.get? b=some o:=fun b o ne e=>by
  rw [eh,mw _ _ (gu ne)];exact gh _ e
 dsimp only;rw [<- eh];have n0:h2.Ns s.heap.objs.size (fun _=>none):=⟨_, #[],_,ed,rfl,(fun e he=>absurd he (by simp)),fun _=>rfl⟩
 refine gi (a:=some s.heap.objs.size) ?_;show wpAny _ _ (storeInDict s.heap.objs.size (.str name s.toks) name v) _ _ _;unfold storeInDict;refine g6 (gi (g6 ?_));refine wpAny_nsSet1 (s:={s with heap:=h2,toks:=s.toks+1}) (Heap.Ns1.of_empty n0) fun h' hn2 hs2=>?_;obtain⟨oD,esD,epD,hoD,hdD,hcD⟩:=hn2.count (PySem.Within.cons name v (ns:=[]) (fun y hy=>absurd rfl hy));refine g6 (wpAny_lookBehind hoD (by rw [hdD];exact pastItsLine_dict (md hcD (by rw [ml];decide))) ?_);exact gi (h h' s.heap.objs.size (fun b o ne e=>by
  have nb:b≠s.heap.objs.size:=fun z=>by rw [z,hdx] at e;cases e
  exact(hs2.2 b nb).trans (kp b o ne e)) hdx ((hs2.2 x hxd).trans ex) hn2)
end
def XG(e C:Addr)(h:Heap): Prop:=∃o ws t,h.get? e=some o/\o.cls=.ref C/\o.dict=none/\o.data=.fields ws/\ws[0]? = some (.ref t)/\ws[1]? = some .none
def XH(e C dx:Addr)(h:Heap): Prop:=∃o ws,h.get? e=some o/\o.cls=.ref C/\o.dict=some dx/\o.data=.fields ws/\ws[1]? = some .none
section
variable{X:Cx}{e:Expr}{pos jp p1 p2 fp:Pos}{j1 j2:Nat}
theorem qkv{s1 s2:Str}{te:TE}(he:PE X e te)(h1:s1.length<=1000)(h2:s2.length<=1000): PE X (.JoinedStr [.Constant (.str s1) j1 p1,.FormattedValue e (-1) none fp,.Constant (.str s2) j2 p2] jp)
  (fun σ H Q=>te σ H fun x H1=>∃i,x=.int i/\i.natAbs.log2<1920/\∀y,Q (.str y) H1):=by
 intro pins s σ H Q I h;have l0:(Str.empty++s1).length=s1.length:=by rw [strLen_append];show 0+_=_;omega
 refine JoinedStr_many (joinParts_cons (Calls.Constant_str ⟨by rw [l0,uj];omega,joinParts_cons (FormattedValue_plain (thn (he pins _ σ H _ (I.tok _) h) fun u s2 ⟨x,H1,I1,rx,i,ex,hd,q⟩=>?_))⟩));subst ex;obtain⟨t,rfl⟩:=(show ∃t,u=Value.int i t from rx)
 have li:=int_text_length_le (k:=1920) (by decide) hd;have l3:(Str.empty++s1++Str.ofString (toString i)).length<=1000+1922:=by rw [strLen_append,l0,PySem.ofString_length];omega
 refine formatField_int_small hd ⟨by rw [uj];omega,joinParts_cons (Calls.Constant_str ⟨?_,joinParts_nil ⟨.str _,H1,I1.tok _,⟨_,rfl⟩,q _⟩ ?_⟩)⟩ <;> (rw [strLen_append,uj];omega)
def w6(K:Frag)(C f:Addr): Bool:=match K.lookup C with
 | some ⟨.type "type",_,.cls cd,sl⟩=>(match cd.mro,sl.toList with
  | .ref C' :: bm,[_,_,_,_,some (.builtin n),_]=>C'==C&&n=="ValueError.__new__" && !cd.hasDel&&PySem.W.tailIn K vB bm&&PySem.W.nsOkIn K cd.ns&&PySem.W.nsIn K cd.ns "__init__" == some (some (.ref f))
  | _,_=>false)
 | _=>false
open PySem.W in
theorem qoy{K:Frag}{h:Heap}{N:Addr}{mN:Str->Option Value}{y:Str}{v:Value}(X:K.In h)(G:h.Ns N mN)(hy:nsIn K N y=some (some v)): mN y=some v:=by
 obtain⟨ob,es,ep,g1,g2,_,g3⟩:=G;unfold nsIn at hy
 split at hy
 ·rename_i q
  cases g1.symm.trans (X _ _ q);cases g2
  split at hy
  ·rename_i he
   cases hy;refine(g3 y).symm.trans ?_;unfold nsFind findBy;rw [<- Array.find?_toList,he]
   rfl
  ·split at hy <;> cases hy
 ·cases hy
theorem q6i{K:Frag}{h:Heap}{C f:Addr}(X:K.In h)(q:w6 K C f=true): ∃bm N nm q bs hdct sn sub ab col dd k0 k1 k2 k3 k5 mN,h.get? C=some (excClassObj nm q C N bs bm hdct sn sub ab col dd k0 k1 k2 k3 k5 "ValueError.__new__")/\h.Ns N mN/\mN "__init__" = some (.ref f)/\OwnTail h vB bm:=by
 unfold w6 at q
 split at q
 ·rename_i dd cd sl ho
  split at q
  ·rename_i C' bm k0 k1 k2 k3 n k5 hm hs
   simp only [m7,ni,Bool.not_eq_true'] at q;obtain⟨⟨⟨⟨⟨rfl,rfl⟩,hdel⟩,ht⟩,hok⟩,hni⟩:=q;obtain⟨nm,bs,mro,ns,qn,hd,sn,sub,ab,col,del⟩:=cd;dsimp only at hm hdel hok hni;subst hm hdel;have hsl:sl = #[k0,k1,k2,k3,some (.builtin "ValueError.__new__"),k5]:=by
    obtain⟨l⟩:=sl;simp only at hs;rw [hs]
   subst hsl;have hN:=Heap.Ns.of_isNs (PySem.W.isNs_of_in X hok);exact⟨bm,ns,nm,qn,bs,hd,sn,sub,ab,col,dd,k0,k1,k2,k3,k5,_,X _ _ ho,hN,qoy X hN hni,PySem.W.tail_of_in X ht⟩
  ·cases q
 ·cases q
variable{pins:List (Addr×Obj)}{σ : St}{H:Hp}{s:Shared}
theorem qna{H:Hp}{a:Addr}{o:HO}(h:H a=some o): upd H a o=H:=by
 funext b
 by_cases z:b=a
 ·subst z;rw [qv,h]
 ·rw [qo z]
theorem qkw{B0 C f:Addr}{b slf m s1 s2:Str}{bp apos sp mp cpos epos:Pos}{pl:Sem Bool}(hg:Gl X b)(hm:X.mg b=some (.ref B0))(hsp:PySem.W.specialIn X.K (.ref B0) "__getattribute__" = some (some (.builtin "type.__getattribute__")))(hr:PySem.W.readsIn X.K B0 (.type "type")=true)
  (hf:PySem.W.findCls X.K (.ref B0) (.type "type") "__init__" = some (.val (.builtin "ValueError.__init__"))) (hC:w6 X.K C f=true) (hv0:PE X (.Name slf sp) (yn 0)) (hv1:PE X (.Name m mp) (yn 1)) (h1:s1.length<=1000) (h2:s2.length<=1000)
  (hdb:(b==("__debug__" : Str))=false:=by decide) (hst:starEach [.Name slf sp,.JoinedStr [.Constant (.str s1) j1 p1,.FormattedValue (.Name m mp) (-1) none fp,.Constant (.str s2) j2 p2] jp] X.env=(false,eval (.Name slf sp) X.env) :: starEach [.JoinedStr [.Constant (.str s1) j1 p1,.FormattedValue (.Name m mp) (-1) none fp,.Constant (.str s2) j2 p2] jp] X.env:=by rfl)
  (hpl:(backTo cpos (starEach [.JoinedStr [.Constant (.str s1) j1 p1,.FormattedValue (.Name m mp) (-1) none fp,.Constant (.str s2) j2 p2] jp] X.env)).any (·.1)=false:=by rfl)
  (hsw:swapsWith (.Call (.Attribute (.Name b bp) "__init__" apos) [.Name slf sp,.JoinedStr [.Constant (.str s1) j1 p1,.FormattedValue (.Name m mp) (-1) none fp,.Constant (.str s2) j2 p2] jp] [] cpos) none epos.line X.env=pure false:=by rfl)
  (ht:eval (.Call (.Attribute (.Name b bp) "__init__" apos) [.Name slf sp,.JoinedStr [.Constant (.str s1) j1 p1,.FormattedValue (.Name m mp) (-1) none fp,.Constant (.str s2) j2 p2] jp] [] cpos) X.env=(do
   let ov <- eval (.Name b bp) X.env
   standAt apos.atName
   let(fv,first) <- holding [ov] (getMethod ov "__init__" pl)
   callWith cpos fv first (backTo cpos (starEach [.Name slf sp,.JoinedStr [.Constant (.str s1) j1 p1,.FormattedValue (.Name m mp) (-1) none fp,.Constant (.str s2) j2 p2] jp] X.env)) (backToKw cpos (keywordEach [] X.env))):=by rfl) :
  PS X (.Expr (.Call (.Attribute (.Name b bp) "__init__" apos) [.Name slf sp,.JoinedStr [.Constant (.str s1) j1 p1,.FormattedValue (.Name m mp) (-1) none fp,.Constant (.str s2) j2 p2] jp] [] cpos) epos)
   (fun D σ H=>∃e i, σ[0]? = some (some (.ref e)) /\ σ[1]? = some (some (.int i))/\H e=some (.ext (XG e C))/\i.natAbs.log2<1920/\D.nx σ H):=by
 intro pins s σ H D I ⟨e,i,g1,g2,g3,hd,q⟩;refine wpAny_Expr_any ?_ I.quiet hsw;refine uv (pl:=pl) (q1k I hg hm ?_ hdb) ht;refine PySem.W.method_cls I.kIn hsp (PySem.W.cls_value I.kIn hr hf rfl ?_);refine g0w (thn ((zw hv0 (zw (qkv hv1 h1 h2) kx) hst) cpos pins _ σ H (fun vs H1=>∃y,vs=[.ref e,.str y]/\H1=H) (I.tok _) ⟨.ref e,g1,.int i,g2,i,rfl,hd,fun y=>⟨y,rfl,rfl⟩⟩) fun us s1 ⟨vs,H1,I1,rv,y,ev,eH⟩=>?_) hst hpl;subst ev eH;obtain⟨u1,u2,rfl,r1,r2⟩:=rv.two;obtain rfl:u1=Value.ref e:=r1;obtain⟨tl,N,nm,qn,bs,hdct,sn,sub,ab,col,dd,k0,k1,k2,k3,k5,mN,hCo,hNs,hni,T⟩:=q6i I1.kIn hC;obtain⟨⟨o,ws,t1,e1,e2,e3,e4,e5,e6⟩,_,_⟩:=(show ObjOk X.prog X.w H1 s1.heap e _ from I1.hok e _ g3)
 obtain⟨hp,gg,dr,tk,os⟩:=s1;refine qgn T hCo e1 e2 e4 e5 fun h' t0 k1' n1 n2 x1 x2=>?_;have hz:0<ws.size:=(nt.mp e5).1;refine⟨σ,H1,?_,q⟩;have I2:=I1.write (x:=e) (e:=e) (o:=.ext (XG e C)) (h':=h') (t':=tk) (by rw [g3];exact True.intro) (.inl rfl) k1' ⟨_,x2⟩ ⟨⟨_,_,t0,x2,e2,e3,rfl,by simp [hz],by rw [Array.getElem?_setIfInBounds_ne (by decide)];exact e6⟩,⟨_,x2⟩,fun ha hb ⟨o',ws',t',f1,fr⟩ kk=>⟨o',ws',t',kk o' f1,fr⟩⟩;rw [qna g3] at I2;exact I2
structure ClsI(K:Frag)(C:Addr)(nm:Str): Prop where
 sa:PySem.W.findIn K (.ref C) "__setattr__" = some (some (.builtin "object.__setattr__"))
 ov:qes K C=true
 na:PySem.W.findIn K (.ref C) nm=some none
 hd:PySem.W.hasDictIn K C=true
theorem qkx{C:Addr}{slf m nm:Str}{sp mp apos:Pos}(c:ClsI X.K C nm)(hv0:PE X (.Name slf sp) (yn 0))(hv1:PE X (.Name m mp) (yn 1))(hs:swapsWith (.Name m mp) (some (.Attribute (.Name slf sp) nm apos)) pos.line X.env=pure false:=by rfl):
  PS X (.Assign [.Attribute (.Name slf sp) nm apos] (.Name m mp) pos) (fun D σ H=>∃e i, σ[0]? = some (some (.ref e)) /\ σ[1]? = some (some (.int i))/\H e=some (.ext (XG e C))/\∀dx,H dx=none->dx≠e->D.nx σ (upd (upd H e (.ext (XH e C dx))) dx (.xd [(nm,.int i)]))):=by
 intro pins s σ H D I ⟨e,i,g1,g2,g3,q⟩;refine g0s (thn (hv1 pins s σ H (fun x H1=>x=.int i/\H1=H) I ⟨.int i,g2,rfl,rfl⟩) fun u s1 ⟨y,H1,I1,ry,ey,eH⟩=>thn (hv0 pins s1 σ H1 (fun x H2=>x=.ref e/\H2=H) I1 ⟨.ref e,g1,rfl,eH⟩) fun ov s2 ⟨x,H2,I2,rx,ex,eH2⟩=>?_) hs;subst ey ex eH2;obtain rfl:ov=Value.ref e:=rx;obtain⟨tu,rfl⟩:=(show ∃t,u=Value.int i t from ry)
 obtain⟨⟨o,ws,t1,e1,e2,e3,e4,e5,e6⟩,_,_⟩:=(show ObjOk X.prog X.w H2 s2.heap e _ from I2.hok e _ g3)
 refine qiq I2.kIn e1 e2 e3 e4 c.sa c.ov c.na c.hd fun h' dx k n x2 ns=>?_;have hdx:H2 dx=none:=by
  cases z:H2 dx with
  | none=>rfl
  | some o'=>
   obtain⟨ob,z1⟩:=has_obj (I2.hok dx o' z);rw [n] at z1;cases z1
 have ne:dx≠e:=fun z=>by rw [z,e1] at n;cases n
 refine⟨σ,_,?_,q dx hdx ne⟩;have I3:=I2.write (x:=e) (e:=e) (o:=.ext (XH e C dx)) (h':=h') (t':=s2.toks+2) (by rw [g3];exact True.intro) (.inl rfl) k ⟨_,x2⟩ ⟨⟨_,ws,x2,e2,rfl,e4,e6⟩,⟨_,x2⟩,fun ha hb ⟨o',ws',f1,fr⟩ kk=>⟨o',ws',kk o' f1,fr⟩⟩;refine qbg I2 n I3 (by rw [qo ne];exact hdx) ⟨_,ns,fun f=>?_⟩;show RelO (List.lookup f [(nm,V.int i)]) (if f=nm then some (Value.int i tu) else none);rw [mm]
 by_cases z:f=nm
 ·subst z
  rw [gw rfl,show(f==f)=true from g03 f];exact⟨tu,rfl⟩
 ·rw [m4 z,show(f==nm)=false from u9.mpr z]
  exact True.intro
end
end DL
namespace DL
open PySem PySem.Spec PyProof.Rows L2
variable[Lam][Pin]
def tIn(C:Addr)(nm:Str): TS:=fun D σ H=>∃e i, σ[0]? = some (some (.ref e)) /\ σ[1]? = some (some (.int i))/\H e=some (.ext (XG e C))/\i.natAbs.log2<1920/\∀dx,H dx=none->dx≠e->D.nx σ (upd (upd H e (.ext (XH e C dx))) dx (.xd [(nm,.int i)]))
def spI(C:Addr)(nm:Str): Sp:=fun vs H Q _=>∃e i,vs=[.ref e,.int i]/\H e=some (.ext (XG e C))/\i.natAbs.log2<1920/\∀dx,H dx=none->dx≠e->Q .non (upd (upd H e (.ext (XH e C dx))) dx (.xd [(nm,.int i)]))
section
variable{X:Cx}
omit [Pin] in
theorem qir{C:Addr}{nm:Str}{st1 st2:Stmt}(h1:PS X st1 (fun D σ H=>∃e i, σ[0]? = some (some (.ref e)) /\ σ[1]? = some (some (.int i))/\H e=some (.ext (XG e C))/\i.natAbs.log2<1920/\D.nx σ H))
  (h2:PS X st2 (fun D σ H=>∃e i, σ[0]? = some (some (.ref e)) /\ σ[1]? = some (some (.int i))/\H e=some (.ext (XG e C))/\∀dx,H dx=none->dx≠e->D.nx σ (upd (upd H e (.ext (XH e C dx))) dx (.xd [(nm,.int i)])))):PSs X [st1,st2] (tIn C nm):=
 q39 (qah h1 (q5f h2)) fun D σ H ⟨e,i,a1,a2,a3,a4,a5⟩=>⟨e,i,a1,a2,a3,a4,⟨e,i,a1,a2,a3,a5⟩⟩
end
section
variable{P:Program}{w:World}{K:Frag}{mg:Str->Option Value}{base:Heap}{x qual:Str}{st:Stmt}{dV:Value}{f:Addr}{fd:FuncData}{N ps:List Str}
omit [Pin] in
theorem Fun2.okI{C:Addr}{nm:Str}{k k1:Nat}(F:Fun2 K x qual st dV f fd)(S:FnScope N ps (qc st))(hn:N.length=2)(ha:ps.length=2)(hk:k+1=k1)
  (hb:∀(cdv:Value) (A:Around) (outer:List Env) (s:Shared) (H:Hp) (E:XK),Room k (A.deeper (envOfC qual (qc st) s.heap.objs.size f cdv))->PSs (z7 CX0 P w K mg base N qual (qc st) f cdv A outer s H E).nox (qr st) (tIn C nm)) :
  FnOk P w K mg base CX0 k1 f fd ps (spI C nm):=by
 subst hk;obtain⟨oc,od,kV,doc,pm,an,cdv,ct,osl,rfl,lk,hcd⟩:=F.ex;refine q6w lk hcd S (fun vs H Q E h=>?_) fun A outer s H vs Q E hr hsp=>?_
 ·obtain⟨e,i,rfl,_⟩:=h
  exact ha.symm
 ·obtain⟨e,i,rfl,h1,h2,h3⟩:=hsp
  refine⟨_,(hb cdv A outer s H E hr).nox,e,i,?_,?_,h1,h2,fun dx a b=>h3 dx a b⟩ <;> (unfold L2.start;rw [hn];rfl)
end
def q86(x nm:Str)(f:FE): FX:=fun ρ =>(f ρ).bind fun d=>match d with
 | .int i=>if i.natAbs.log2<1920 then some ((x,some (nm,i)), ρ) else none
 | _=>none
omit [Lam] [Pin] in
theorem Inv.dropX{X:Cx}{pins:List (Addr×Obj)}{σ : St}{H:Hp}{s:Shared}{e:Addr}{φ : Heap->Prop}(I:Inv X pins σ H s)(he:H e=some (.ext φ)): Inv X pins σ (less H e) s:=by
 have nn:∀ {b:Addr} {u:HO},H b=some u->(∀ φ,u ≠ .ext φ)->less H e b=some u:=fun {b u} e1 e2=>by
  rw [k7,e1];intro z;subst z;rw [he] at e1;cases e1;exact e2 _ rfl
 have nz:∀ {b:Addr},H b=none->less H e b=none:=fun {b} e1=>by unfold less;split <;> first|rfl|exact e1
 refine⟨I.ok,I.os,I.bare,⟨I.base.keep,I.base.slot,fun b o e1 n hx=>nz (I.base.free b o e1 n hx),I.base.there,fun b xs e1=>nn (I.base.tups b xs e1) nofun,fun b o xs e1=>nn (I.base.frzs b o xs e1) nofun,fun b ps e1=>?_⟩,I.loc,I.cell,nz I.free,fun y c e1=>nz (I.freeC y c e1),fun p hp=>?_,fun b u e1=>?_,I.len⟩
 ·obtain⟨more,e2⟩:=I.base.tbls b ps e1
  exact⟨more,nn e2 nofun⟩
 ·obtain⟨a1,a2,a3⟩:=I.pin p hp
  exact⟨a1,nz a2,a3⟩
 ·obtain⟨e2,ne⟩:=jv e1
  exact(I.hok b u e2).stay (fun c v _ q=>q) (fun c q=>nn q nofun) fun c xs q=>nn q nofun
def qnb(s0:Heap)(C:Addr)(nm:Str)(te:TE): TE:=fun σ H Q=>te σ H fun x H1=>∃i,[x]=[V.int i]/\i.natAbs.log2<1920/\∀e dx,s0.get? e=none->H1 e=none->H1 dx=none->dx≠e->Q (.ref e) (upd (upd H1 e (.ext (XH e C dx))) dx (.xd [(nm,.int i)]))
section
variable{X:Cx}{pos:Pos}
omit [Lam] [Pin] in
theorem qps{H:Hp}{a:Addr}{o o':HO}: upd (upd H a o) a o'=upd H a o':=by
 funext b
 unfold upd
 split <;> rfl
omit [Lam] [Pin] in
theorem qis{C fI:Addr}{fdI:FuncData}{psI:List Str}{kI k':Nat}{x nm:Str}{np:Pos}{ea:Expr}{te:TE}(hC:w6 X.K C fI=true)(G:FnOk X.prog X.w X.K X.mg X.base CX0 kI fI fdI psI (spI C nm))(hbI:Binds X.K fdI psI [])(hfn:PySem.W.typeIn X.K (.ref fI)=some (.type "function"))(hkp:PySem.W.keepIn X.K (.ref C)=true)
  (hr:Room k' X.A) (hk:kI+1<=k') (hex:X.ex=[]) (hg:Gl X x) (hm:X.mg x=some (.ref C)) (ha:PE X ea te) (hd:(x==("__debug__" : Str))=false:=by decide)
  (hs:starEach [ea] X.env=(false,eval ea X.env) :: starEach [] X.env:=by rfl) (hpl:(backTo pos (starEach [] X.env)).any (·.1)=false:=by rfl) :
  PE X (.Call (.Name x np) [ea] [] pos) (qnb X.s₀.heap C nm te):=by
 intro pins s σ H Q I h;refine uf (q1k I hg hm ?_ hd);refine ug (h₀:=X.base) I.ok.mod.kin hkp (thn ((zw ha kx hs) pos pins s σ H (fun vs H1=>∃i,vs=[.int i]/\i.natAbs.log2<1920/\∀e dx,X.s₀.heap.get? e=none->H1 e=none->H1 dx=none->dx≠e->Q (.ref e) (upd (upd H1 e (.ext (XH e C dx))) dx (.xd [(nm,.int i)]))) I ?_) fun us s1 ⟨vs,H1,I1,r,i,ev,hi,q⟩=>⟨I1.kIn,?_⟩) hs hpl
 ·exact h
 subst ev;obtain⟨tl,N,nm',qn,bs,hdct,sn,sub,ab,col,dd,k0,k1,k2,k3,k5,mN,hCo,hNs,hni,T⟩:=q6i I1.kIn hC;obtain⟨oI,f1,f2⟩:∃oI,s1.heap.get? fI=some oI/\oI.cls=.type "function" :=by
  obtain⟨o,ho,e⟩:=gj.mp hfn;exact⟨o,I1.kIn _ _ ho,e⟩
 obtain⟨u,rfl,ru⟩:=r.one;obtain⟨hp,g,dr,tk,os⟩:=s1;refine qgm (rest:=[u]) T hCo hNs hni f1 f2 (by show 1<=sizeLine;decide) fun h' e hx=>?_;obtain⟨t,he,_,_⟩:=hx.there;have hH:H1 e=none:=by
  cases z:H1 e with
  | none=>rfl
  | some o=>
   obtain⟨ob,e1⟩:=has_obj (I1.hok e o z);rw [hx.new] at e1;cases e1
 have h0:X.s₀.heap.get? e=none:=by
  cases z:X.s₀.heap.get? e with
  | none=>rfl
  | some o=>
   obtain⟨o',e1⟩:=I1.base.there e o z (by rw [hex];intro z;cases z);rw [hx.new] at e1;cases e1
 have I2:Inv X pins σ (upd H1 e (.ext (XG e C))) ⟨h',g,dr,tk,os⟩:=qbg I1 hx.new (I1.kept (t':=tk) hx.keeps) hH ⟨⟨_,_,t,he,rfl,rfl,rfl,rfl,rfl⟩,⟨_,he⟩,fun ha hb ⟨o',ws',t',e1,er⟩ kk=>⟨o',ws',t',kk o' e1,er⟩⟩;have hq:spI C nm [.ref e,.int i] (upd H1 e (.ext (XG e C))) (fun v H'=>v=.non/\Q (.ref e) H') E0:=⟨e,i,rfl,qv,hi,fun dx a b=>⟨rfl,by rw [qps];exact q e dx h0 hH (by rw [qo b] at a;exact a) b⟩⟩
 have r2:Vals [.ref e,.int i] [Value.ref e,u]:=.cons rfl (.cons ru .nil);have hl:([Value.ref e,u]++([]:List Value)).length=psI.length:=by rw [<- G.len _ _ _ _ hq];rfl
 refine ue (g0c (G.run _ X.stack _ _ ⟨[Value.ref e,u],[]⟩ [Value.ref e,u] _ _ E0 ((hr.mono hk).make C [u] []) (I2.env0.make C [u] []) (hbI _ [Value.ref e,u] I2.kIn hl) r2 hq) fun r s' hq'=>?_)
 ·cases r with
  | error e=>exact hq'.elim
  | ok fl=>
   cases fl with
   | ret v=>
    obtain⟨v',H',I',rv,rfl,q'⟩:=I2.after hq';exact⟨rv,.ref e,H',I',(rfl:RelV (.ref e) (Value.ref e)),q'⟩
   | next=>exact False.elim hq'
   | brk=>exact False.elim hq'
   | cont=>exact False.elim hq'
end
section
variable{M:Model}{A:Around}{Ex:Value->Shared->Prop}{env:Env}{nm q:Str}{C N:Addr}{bs bm:List Value}{hdct:Bool}{sn:List Str}{sub:List Value}{ab:Bool}{col:Option Bool}{dd:Option Addr}{k0 k1 k2 k3 k5:Option Value}{newId:String}
omit [Lam] [Pin] in
theorem qet{s:Shared}{x:Sem Value}{Q:Flow->Shared->Prop}(hh:A.handled=none)
  (h:wpAny M A x (fun v s₁=>∃nm q N bs bm hdct sn sub ab col dd k0 k1 k2 k3 k5 newId e o ws,bm.contains (.type "BaseException")=true/\v=.ref e/\s₁.heap.get? C=some (excClassObj nm q C N bs bm hdct sn sub ab col dd k0 k1 k2 k3 k5 newId)/\s₁.heap.get? e=some o/\o.cls=.ref C/\o.data=.fields ws/\ws[1]? = some .none/\Ex (.ref e) s₁) Ex s) :
  wpAny M A (raiseStmt env (some x) none) Q Ex s:=by
 unfold raiseStmt;refine g6 (mx h (fun v s₁ h₁=>?_) fun _ _ x=>x);obtain⟨nm,q,N,bs,bm,hdct,sn,sub,ab,col,dd,k0,k1,k2,k3,k5,newId,e,o,ws,hbase,rfl,hC,he,hc,hdt,hw,hE⟩:=h₁;have hcB:(Value.ref C :: bm).contains (.type "BaseException")=true:=by rw [List.contains_cons,hbase,g2h]
 obtain⟨hp,g,d,tk,os⟩:=s₁;obtain⟨oc,odd,odt,osl⟩:=o;dsimp only at hc hdt;subst hc hdt
 repeat (first|with_reducible refine uu he ?_|with_reducible refine uu hC ?_|(with_reducible refine wpAny_isSubtype_exc hC ?_;rw [hcB])|wp_step)
 rw [hw];refine gi ?_;rw [m4 (by decide)];exact gi (wpAny_raiseNew_none hh hE)
end
section
variable{P:Program}{w:World}{K:Frag}{mg:Str->Option Value}{base:Heap}{N:List Str}{qual:Str}{scope:Scope}{f:Addr}{cd:Value}{A:Around}{outer:List Env}{s0:Shared}{H0:Hp}{E:XK}{pos:Pos}
theorem qgo{C fI:Addr}{fdI:FuncData}{psI:List Str}{kI k':Nat}{x nm:Str}{np cpos:Pos}{ea:Expr}{fe:FE}(hC:w6 K C fI=true)(G:FnOk P w K mg base CX0 kI fI fdI psI (spI C nm))(hbI:Binds K fdI psI [])(hfn:PySem.W.typeIn K (.ref fI)=some (.type "function"))(hkp:PySem.W.keepIn K (.ref C)=true)
  (hr:Room k' (z7 (CXR P w) P w K mg base N qual scope f cd A outer s0 H0 E).A) (hk:kI+1<=k') (hg:Gl (z7 (CXR P w) P w K mg base N qual scope f cd A outer s0 H0 E) x) (hm:mg x=some (.ref C)) (hns:PySem.W.nsIn K mainGlobals x=some (some (.ref C)))
  (ha:PE (z7 (CXR P w) P w K mg base N qual scope f cd A outer s0 H0 E).nox ea (tD K fe)) (hd:(x==("__debug__" : Str))=false:=by decide)
  (hs:starEach [ea] (z7 (CXR P w) P w K mg base N qual scope f cd A outer s0 H0 E).env=(false,eval ea (z7 (CXR P w) P w K mg base N qual scope f cd A outer s0 H0 E).env) :: starEach [] (z7 (CXR P w) P w K mg base N qual scope f cd A outer s0 H0 E).env:=by rfl) :
  PS (z7 (CXR P w) P w K mg base N qual scope f cd A outer s0 H0 E) (.Raise (some (.Call (.Name x np) [ea] [] cpos)) none pos) (tXS K (q86 x nm fe) E):=by
 intro pins s σ H D I ⟨F0,H0',F, ρ,p, ρ',C',r,hv,hn,hE⟩;obtain⟨d,h1,h2⟩:=g9.mp hv
 split at h2
 ·rename_i i
  split at h2
  ·rename_i hi
   cases h2;rw [hns] at hn;cases hn;rw [arm_exec_Raise];refine g6 (g1n ?_);refine qet (C:=C) (I.ok.hd rfl) (g6 (thn ((qis hC G hbI hfn hkp hr hk rfl hg hm (PE.nox' ha) hd hs) pins s σ H (fun v H'=>∃e dx F1 H1,s0.heap.get? e=none/\v=.ref e/\H1 e=none/\H1 dx=none/\dx≠e/\Grow F H F1 H1/\H'=upd (upd H1 e (.ext (XH e C dx))) dx (.xd [(nm,.int i)])) I ?_) fun v s1 ⟨v',H',I1,rv,e,dx,F1,H1,q0,ev,qe,qd,ne,g,eH⟩=>g6 (g1n (gi ?_))))
   ·refine⟨F0,H0',F, ρ,_,r,h1,fun v F1 H1 g rp=>?_⟩
    obtain rfl:v=V.int i:=rp;exact⟨i,rfl,hi,fun e dx q0 qe qd ne=>⟨e,dx,F1,H1,q0,rfl,qe,qd,ne,g,rfl⟩⟩
   subst ev eH;obtain rfl:v=Value.ref e:=rv;obtain⟨tl,N,nm',qn,bs,hdct,sn,sub,ab,col,dd,k0,k1,k2,k3,k5,mN,hCo,hNs,hni,T⟩:=q6i I1.kIn hC;have he':upd (upd H1 e (.ext (XH e C dx))) dx (.xd [(nm,.int i)]) e=some (.ext (XH e C dx)):=by rw [qo (gu ne),qv]
   obtain⟨⟨o,ws,e1,e2,e3,e4,e5⟩,_,_⟩:=(show ObjOk _ _ _ s1.heap e _ from I1.hok e _ he')
   refine⟨_,_,_,_,_,_,_,_,_,_,_,_,_,_,_,_,_,e,o,ws,T.hasType qkg,rfl,hCo,e1,e2,e4,e5,?_⟩;have hl:less (upd (upd H1 e (.ext (XH e C dx))) dx (.xd [(nm,.int i)])) e=upd H1 dx (.xd [(nm,.int i)]):=by
    funext b
    unfold less upd
    split
    ·rename_i z;subst z;rw [m4 (gu ne)];exact qe.symm
    ·rfl
   have I2:=Inv.dropX I1 he';rw [hl] at I2;refine qgg I2 e1 ⟨e2,e3⟩ e4 e5 (by rw [qo (gu ne)];exact qe) q0 ?_;exact hE (upd F1 dx (.xd [(nm,.int i)])) _ σ (some dx) ((r.grow g).grow (Grow.new g.fh qd)) (qv)
  ·cases h2
 ·cases h2
end
def eXF(x nm:Str)(f:FE): FE:=fun ρ =>(f ρ).bind fun d=>match d with
 | .exc y (some p)=>if y=x/\p.1=nm then some (.int p.2) else none
 | _=>none
section
variable{X:Cx}{pos:Pos}
theorem qky{x nm:Str}{C:Addr}{e:Expr}{f:FE}(hns:PySem.W.nsIn X.K mainGlobals x=some (some (.ref C)))(c:ClsI X.K C nm)(he:PE X e (tD X.K f))(hb:attributeBase e nm X.env (eval e X.env)=eval e X.env:=by rfl): PE X (.Attribute e nm pos) (tD X.K (eXF x nm f)):=by
 intro pins s σ H Q I ⟨F0,H0,F, ρ,d',r,hf,q⟩;obtain⟨d,h1,h2⟩:=g9.mp hf
 split at h2
 ·rename_i y p
  split at h2
  ·rename_i hc
   obtain⟨rfl,rfl⟩:=hc;cases h2;refine qda hb (thn (he pins s σ H (fun v H1=>∃F1,Grow F H F1 H1/\Rep X.K F1 (.exc y (some p)) v) I ⟨F0,H0,F, ρ,_,r,h1,fun v F1 H1 g rv=>⟨F1,g,rv⟩⟩) fun u s1 ⟨v,H1,I1,rv,F1,g,rp⟩=>?_);obtain⟨a,C',rfl,⟨od,ea,xf⟩,hn,cx⟩:=rep_exc.mp rp;obtain rfl:u=Value.ref a:=rv;cases hns.symm.trans hn;cases od with
   | none=>exact xf.elim
   | some dx=>
    obtain⟨⟨o,vs,e1,e2,e3,e4⟩,_,_⟩:=(show ObjOk X.prog X.w H1 s1.heap a _ from I1.hok a _ (g.fh _ _ ea))
    obtain⟨mA,ns1,rl⟩:=(show ObjOk X.prog X.w H1 s1.heap dx _ from I1.hok dx _ (g.fh _ _ xf))
    have rl1:=rl p.1;rw [mm,show(p.1==p.1)=true from g03 p.1] at rl1;obtain⟨ob,ho,hl⟩:=q8s ns1;cases hm:mA p.1 with
    | none=>rw [hm] at rl1;exact rl1.elim
    | some u=>
     rw [hm] at rl1;obtain⟨t,rfl⟩:=(show ∃t,u=Value.int p.2 t from rl1)
     exact qip cx.1 I1.kIn ⟨e1,e2,by unfold PySem.W.notCls;rw [e4],by rw [e3];exact ho⟩ e4 (PySem.W.findObj_own c.hd c.na rfl (by rw [hl,hm])) rfl ⟨.int p.2,H1,I1.tok _,⟨t,rfl⟩,q _ F1 H1 g (by simp only [Rep])⟩
  ·cases h2
 ·cases h2
end
end DL
namespace DL
open PySem PySem.Spec PyProof.Rows L2
def qeu:D->Nat
 | .non=>0
 | .bl _=>1
 | .int _=>2
 | .str _=>3
 | _=>4
def qev:V->Nat
 | .non=>0
 | .bl _=>1
 | .int _=>2
 | .str _=>3
 | _=>4
theorem qit{K:Frag}{H:Hp}{d:D}{v:V}(h:Rep K H d v): qev v=qeu d:=by
 cases d with
 | non=>rw [rep_non.mp h];rfl
 | bl b=>rw [rep_bl.mp h];rfl
 | int i=>rw [rep_int.mp h];rfl
 | str x=>rw [rep_str.mp h];rfl
 | tup ds=>obtain⟨a,_,rfl,_⟩:=rep_tup.mp h;rfl
 | lst ds=>obtain⟨a,_,rfl,_⟩:=rep_lst.mp h;rfl
 | dct ks vs=>obtain⟨a,_,rfl,_⟩:=rep_dct.mp h;rfl
 | dtt ks vs=>obtain⟨a,_,_,_,rfl,_⟩:=rep_dtt.mp h;rfl
 | obj x=>obtain⟨a,_,_,rfl,_⟩:=rep_obj.mp h;rfl
 | exc x f=>obtain⟨a,_,rfl,_⟩:=rep_exc.mp h;rfl
def qew(ds:List D): Option Nat:=ds.head?.map qeu
theorem q97{K:Frag}{H:Hp}{ds:List D}{xs:List V}(h:RepL K H ds xs): xs.head?.map qev=qew ds:=by
 cases ds with
 | nil=>rw [h.nil_inv];rfl
 | cons d ds=>
  obtain⟨x,r,rfl,h1,_⟩:=h.cons_inv;show some (qev x)=some (qeu d);rw [qit h1]
mutual
/-- no list of the datum can be the list ds -/
def apD(ds:List D): D->Bool
 | .non=>true
 | .bl _=>true
 | .int _=>true
 | .str _=>true
 | .tup es=>apL ds es
 | .lst es=>(es.length != ds.length || qew es != qew ds)&&apL ds es
 | _=>false
def apL(ds:List D): List D->Bool
 | []=>true
 | e :: es=>apD ds e&&apL ds es
end
section
variable{K:Frag}{F:Hp}{a:Addr}{xs0:List V}{ds:List D}
mutual
theorem Rep.less(ha:F a=some (.lst xs0))(h0:RepL K F ds xs0): ∀ {d:D} {v:V},apD ds d=true->Rep K F d v->Rep K (less F a) d v
 | .non,v,_,h=>rep_non.mpr (rep_non.mp h)
 | .bl b,v,_,h=>rep_bl.mpr (rep_bl.mp h)
 | .int i,v,_,h=>rep_int.mpr (rep_int.mp h)
 | .str x,v,_,h=>rep_str.mpr (rep_str.mp h)
 | .tup es,v,q,h=>by
  obtain⟨b,xs,e1,e2,e3⟩:=rep_tup.mp h;refine rep_tup.mpr ⟨b,xs,e1,?_,RepL.less ha h0 (by simpa only [apD] using q) e3⟩;have nb:∀ {u:HO},F b=some u->(∀l,u ≠ .lst l)->DL.less F a b=some u:=fun {u} e n=>by
   unfold DL.less;rw [m4,e];intro z;subst z;rw [ha] at e;cases e;exact n _ rfl
  rcases e2 with(e2|⟨o,e2⟩)|e2
  ·exact .inl (.inl (nb e2 nofun))
  ·exact .inl (.inr ⟨o,nb e2 nofun⟩)
  ·exact .inr e2
 | .lst es,v,q,h=>by
  obtain⟨b,xs,e1,e2,e3⟩:=rep_lst.mp h;simp only [apD,m7,p6,bne_iff_ne] at q;refine rep_lst.mpr ⟨b,xs,e1,?_,RepL.less ha h0 q.2 e3⟩;rcases e2 with(e2|⟨o,e2⟩)|e2
  ·refine .inl (.inl ?_)
   unfold DL.less;rw [m4,e2];intro z;subst z;rw [ha] at e2;cases e2;rcases q.1 with q1|q1
   ·exact q1 (by rw [e3.length,h0.length])
   ·exact q1 (by rw [<- q97 e3, <- q97 h0])
  ·refine .inl (.inr ⟨o,?_⟩)
   unfold DL.less;rw [m4,e2];intro z;subst z;rw [ha] at e2;cases e2
  ·exact .inr e2
 | .dct ks vs,v,q,h=>by simp only [apD] at q;cases q
 | .dtt ks vs,v,q,h=>by simp only [apD] at q;cases q
 | .obj x,v,q,h=>by simp only [apD] at q;cases q
 | .exc x f,v,q,h=>by simp only [apD] at q;cases q
theorem RepL.less(ha:F a=some (.lst xs0))(h0:RepL K F ds xs0): ∀ {es:List D} {xs:List V},apL ds es=true->RepL K F es xs->RepL K (less F a) es xs
 | [],xs,_,h=>by rw [h.nil_inv];exact .nil
 | e :: es,xs,q,h=>by
  obtain⟨x,r,rfl,h1,h2⟩:=h.cons_inv;simp only [apL,m7] at q;exact .cons (Rep.less ha h0 q.1 h1) (RepL.less ha h0 q.2 h2)
end
end
variable[Lam][Pin]
def q6j(i:Nat)(f:FE): FE:=fun ρ =>(q22 i ρ).bind fun ds=>(f (ρ.set i (some (.fz (.lst ds))))).bind fun d=>if apD ds d=true then some d else none
def qbq(i:Nat)(ds:List D)(ρ ρ':Rho): Prop:= ρ'[i]? = some (some (.fz (.lst ds)))/\∀j,j≠i->(∃d, ρ'[j]? = some (some (.fz d)) /\ ρ[j]? = some (some (.fz d))) \/ ρ'[j]? = none \/ ρ'[j]? = some none\/∃o, ρ'[j]? = some (some (.od o))/\apL ds (o.2.map (·.2))=true
open Classical in
noncomputable def qbr(i:Nat)(f:FM): FM:=fun ρ =>(q22 i ρ).bind fun ds=>(f (ρ.set i (some (.fz (.lst ds))))).bind fun p=>if apD ds p.1=true/\qbq i ds ρ p.2 then some (p.1,p.2.set i (some (.ow ds))) else none
section
variable{K:Frag}{F0 H0 F H F' H':Hp}{σ : St}{ρ ρ1:Rho}{i:Nat}{ds:List D}{a:Addr}{xs:List V}
omit [Lam] [Pin] in
theorem FsR.less(ha:F a=some (.lst xs))(h0:RepL K F ds xs): ∀ {fs:List (Str×D)} {vs:List (Str×V)},apL ds (fs.map (·.2))=true->FsR K F fs vs->FsR K (DL.less F a) fs vs
 | [],_,_,h=>h
 | p :: fs,_,q,⟨v,r,e,h1,h2⟩=>by
  simp only [mi,apL,m7] at q;exact⟨v,r,e,h1.less ha h0 q.1,FsR.less ha h0 q.2 h2⟩
theorem RS.freezeA(r:RS K F0 H0 F H σ ρ)(h1 : ρ[i]? = some (some (.ow ds)))(e1 : σ[i]? = some (some (.ref a)))(e2:H a=some (.lst xs))(e3:F a=none)(e4:H0 a=none)(e5:RepL K F ds xs): RS K F0 H0 (upd F a (.lst xs)) H σ (ρ.set i (some (.fz (.lst ds)))):=by
 have sF:Same F (upd F a (.lst xs)):=wm e3;exact {
  t0:=r.t0
  g :=⟨r.g.ff.trans sF,r.g.hh,fun b o e=>by
    by_cases q:b=a
    ·subst q;rw [qv] at e;cases e;exact e2
    ·rw [qo q] at e;exact r.g.fh b o e,fun b hb=>by
    by_cases q:b=a
    ·subst q;exact .inr e4
    ·rw [qo q] at hb;exact r.g.nw b hb⟩
  len:=by rw [my];exact r.len
  fz:=fun j e q1=>by
   by_cases q:j=i
   ·subst q
    obtain⟨z,l⟩:=qm q1;cases z;exact⟨_,e1,rep_lst.mpr ⟨a,xs,rfl,SqL.of qv,e5.mono sF⟩⟩
   ·rw [gf (gu q)] at q1
    obtain⟨v,z1,z2⟩:=r.fz j e q1;exact⟨v,z1,z2.mono sF⟩
  ow:=fun j es' q1=>by
   by_cases q:j=i
   ·subst q
    obtain⟨z,l⟩:=qm q1;cases z
   ·rw [gf (gu q)] at q1
    obtain⟨b,ys,z1,z2,z3,z4,z5⟩:=r.ow j es' q1;refine⟨b,ys,z1,z2,?_,z4,z5.mono sF⟩;rw [qo]
    ·exact z3
    ·intro z;subst z;exact r.dj i j ds es' b (gu q) h1 q1 e1 z1
  dj :=fun j k ds' es' b hjk q1 q2 q3=>by
   have back:∀(l:Nat) (es:List D),(ρ.set i (some (.fz (.lst ds))))[l]? = some (some (B.ow es)) -> ρ[l]? = some (some (B.ow es)):=fun l es z=>by
    by_cases q:l=i
    ·subst q
     obtain⟨z',_⟩:=qm z;cases z'
    ·rw [gf (gu q)] at z;exact z
   exact r.dj j k ds' es' b hjk (back _ _ q1) (back _ _ q2) q3
  od:=fun j kvs q1=>by
   by_cases q:j=i
   ·subst q
    obtain⟨z,l⟩:=qm q1;cases z
   ·rw [gf (gu q)] at q1
    obtain⟨b,bs,z1,z2,z3⟩:=r.od j kvs q1;have nb:a≠b:=fun z=>by subst z;exact z2.nl e2
    have hbs:=z2.nb;subst hbs;exact⟨b,[],z1,z2.otherF sF nb (by simp),fun _ _ _ _ hb=>by cases hb⟩
  o1 :=fun j k k1 k2 q1 q2=>by
   have back:∀(l:Nat) (o:Str×List (Str×D)),(ρ.set i (some (.fz (.lst ds))))[l]? = some (some (B.od o)) -> ρ[l]? = some (some (B.od o)):=fun l o z=>by
    by_cases q:l=i
    ·subst q
     obtain⟨z',_⟩:=qm z;cases z'
    ·rw [gf (gu q)] at z;exact z
   exact r.o1 j k k1 k2 (back _ _ q1) (back _ _ q2)}
omit [Lam] [Pin] in
theorem q2t(h3:F a=none)(s:Same F F'): Same F (DL.less F' a):=fun b u e=>by
 unfold DL.less;rw [m4,s b u e];intro z;subst z;rw [h3] at e;cases e
omit [Lam] [Pin] in
theorem less_same:Same (DL.less F a) F:=fun b u e=>(jv e).1
theorem RS.thaw(r:RS K F0 H0 F H σ ρ)(e1 : σ[i]? = some (some (.ref a)))(e3:F a=none)(e4:H0 a=none)(e5:RepL K F ds xs)(s:Same F F')(ha:F' a=some (.lst xs))(r':RS K F0 H0 F' H' σ ρ1)(c:qbq i ds ρ ρ1):
  RS K F0 H0 (DL.less F' a) H' σ (ρ1.set i (some (.ow ds))):=by
 have sl:Same F (DL.less F' a):=q2t e3 s;have h0:RepL K F' ds xs:=e5.mono s;have f0:F0 a=none:=by
  cases q:F0 a with
  | none=>rfl
  | some u=>rw [r.g.ff a u q] at e3;cases e3
 have il:i < ρ1.length:=(mr.mp c.1).1;have no:∀j es,j≠i -> ρ1[j]? = some (some (.ow es))->False:=fun j es n z=>by
  rcases c.2 j n with⟨d,q,_⟩|q|q|⟨o,q,_⟩ <;> rw [z] at q <;> cases q
 exact {
  t0:=r'.t0
  g:=⟨q2t f0 r'.g.ff,r'.g.hh,less_same.trans r'.g.fh,fun b hb=>r'.g.nw b fun z=>hb (by unfold DL.less;split <;> first|rfl|exact z)⟩
  len:=by rw [my];exact r'.len
  fz:=fun j e q1=>by
   by_cases q:j=i
   ·subst q
    obtain⟨z,l⟩:=qm q1;cases z
   ·rw [gf (gu q)] at q1
    rcases c.2 j q with⟨d,q2,q3⟩|q2|q2|⟨o,q2,_⟩ <;> rw [q1] at q2 <;> cases q2
    obtain⟨v,z1,z2⟩:=r.fz j e q3;exact⟨v,z1,z2.mono sl⟩
  ow:=fun j es' q1=>by
   by_cases q:j=i
   ·subst q
    obtain⟨z,l⟩:=qm q1;cases z;exact⟨a,xs,e1,r'.g.fh a _ ha,vn,e4,e5.mono sl⟩
   ·rw [gf (gu q)] at q1
    exact(no j es' q q1).elim
  dj:=fun j k ds' es' b hjk q1 q2 q3=>by
   by_cases q:j=i
   ·have qk:k≠i:=fun z=>hjk (q.trans z.symm)
    rw [gf (gu qk)] at q2;exact(no k es' qk q2).elim
   ·rw [gf (gu q)] at q1
    exact(no j ds' q q1).elim
  od:=fun j kvs q1=>by
   by_cases q:j=i
   ·subst q
    obtain⟨z,l⟩:=qm q1;cases z
   ·rw [gf (gu q)] at q1
    obtain⟨b,bs,z1,z2,z3⟩:=r'.od j kvs q1;have hbs:=z2.nb;subst hbs;obtain⟨C,dx,vs,w1,w2,w3⟩:=z2.ex;rcases c.2 j q with⟨d,q2,q3⟩|q2|q2|⟨o,q2,q3⟩ <;> rw [q1] at q2 <;> cases q2
    exact⟨b,[],z1,⟨rfl,⟨C,dx,vs,w1,w2,FsR.less ha h0 q3 w3⟩,by unfold DL.less;split <;> first|rfl|exact z2.f,z2.z,z2.pn⟩,fun _ _ _ _ hb=>by cases hb⟩
  o1 :=fun j k k1 k2 q1 q2=>by
   have back:∀(l:Nat) (o:Str×List (Str×D)),(ρ1.set i (some (.ow ds)))[l]? = some (some (B.od o)) -> ρ1[l]? = some (some (B.od o)):=fun l o z=>by
    by_cases q:l=i
    ·subst q
     obtain⟨z',_⟩:=qm z;cases z'
    ·rw [gf (gu q)] at z;exact z
   exact r'.o1 j k k1 k2 (back _ _ q1) (back _ _ q2)}
end
section
variable{X:Cx}{e:Expr}{f:FE}{m:FM}
theorem qbs(i:Nat)(h:PE X e (tD X.K f)): PE X e (tD X.K (q6j i f)):=zc h fun σ H Q ⟨F0,H0,F, ρ,d,r,hf,q⟩=>by
 obtain⟨ds,h1,hf⟩:=g9.mp hf;obtain⟨d',h2,h3⟩:=g9.mp hf
 split at h3
 ·rename_i hap
  cases h3;have h1:=q2q h1;obtain⟨a,xs,e1,e2,e3,e4,e5⟩:=r.ow i ds h1;refine⟨F0,H0,_,_,d,r.freezeA h1 e1 e2 e3 e4 e5,h2,fun v F' H' g rv=>?_⟩;have sF:Same F (upd F a (.lst xs)):=wm e3;have ha:F' a=some (.lst xs):=g.ff a _ qv;refine q v (DL.less F' a) H' ⟨q2t e3 (sF.trans g.ff),g.hh,less_same.trans g.fh,fun b hb=>?_⟩ (rv.less ha ((e5.mono sF).mono g.ff) hap);have hb':F' b≠none/\b≠a:=by
   unfold DL.less at hb
   split at hb
   ·exact absurd rfl hb
   ·exact⟨hb,by assumption⟩
  rcases g.nw b hb'.1 with z|z
  ·rw [qo hb'.2] at z;exact .inl z
  ·exact .inr z
 ·cases h3
theorem qnc(i:Nat)(h:PE X e (tDM X.K m)): PE X e (tDM X.K (qbr i m)):=zc h fun σ H Q ⟨F0,H0,F, ρ,d, ρ',r,hf,q⟩=>by
 obtain⟨ds,h1,hf⟩:=g9.mp hf;obtain⟨⟨d', ρ1⟩,h2,h3⟩:=g9.mp hf
 split at h3
 ·rename_i hap
  cases h3;have h1:=q2q h1;obtain⟨a,xs,e1,e2,e3,e4,e5⟩:=r.ow i ds h1;refine⟨F0,H0,_,_,_, ρ1,r.freezeA h1 e1 e2 e3 e4 e5,h2,fun v F' H' s r' rv=>?_⟩;have sF:Same F (upd F a (.lst xs)):=wm e3;have ha:F' a=some (.lst xs):=s a _ qv;exact q v (DL.less F' a) H' (q2t e3 (sF.trans s)) (r.thaw e1 e3 e4 e5 (sF.trans s) ha r' hap.2) (rv.less ha ((e5.mono sF).mono s) hap.1)
 ·cases h3
theorem qkz{st:Stmt}{u:FS}(i:Nat)(h:PS X st (tDS X.K u)): PS X st (tDS X.K (q2x i u)):=jj h fun D σ H ⟨F0,H0,F, ρ,fl, ρ',r,hf,q⟩=>by
 obtain⟨F',s',r'⟩:=qg2 i r;exact⟨F0,H0,F',frz i ρ,fl, ρ',r',hf,yt s' q⟩
end
end DL
namespace DL
open PySem PySem.Spec PyProof.Rows L2
variable[Lam][Pin]
def spN(K:Frag)(ar:Nat)(op:List D->Option (List D)): Sp:=fun vs H Q _=>∃F ds es,SameT F H/\RepL K F ds vs/\ds.length=ar/\op ds=some es/\∀a xs F' H',Grow F H F' H'->F' a=none->H a=none->H' a=some (.lst xs)->RepL K F' es xs->Q (.ref a) H'
def tN(K:Frag)(u:FS)(i:Nat): TS:=fun D σ H=>∃F0 H0 F ρ ρ' es,RS K F0 H0 F H σ ρ /\ u ρ = some (.nx, ρ')/\q22 i ρ'=some es/\∀ σ' F' H' a xs,Same F F'->RS K F0 H0 F' H' σ' ρ'->F' a=none->H0 a=none->H' a=some (.lst xs)->RepL K F' es xs->D.rt (.ref a) H'
def runN(n:Nat)(u:FS)(i:Nat)(ds:List D): Option (List D):=match u (qbh n ds) with
 | some (.nx, ρ')=>q22 i ρ'
 | _=>none
structure CalN(P:Program)(w:World)(K:Frag)(mg:Str->Option Value)(base:Heap)(x:Str)(k:Nat)(ps:List Str)(ar:Nat)(op:List D->Option (List D))(fn:Addr)(fd:FuncData): Prop where
 ok:FnOk P w K mg base CX0 k fn fd ps (spN K ar op)
 mg:mg x=some (.ref fn)
 kp:PySem.W.keepIn K (.ref fn)=true
def q4w(ar:Nat)(op:List D->Option (List D))(fa:FA): FA:=fun ρ =>(fa ρ).bind fun ds=>if ds.length=ar then op ds else none
section
variable{X:Cx}{K:Frag}{st:Stmt}{rest:List Stmt}{u u1 u2:FS}{i:Nat}{pos p px:Pos}{x:Str}
theorem qnd(hv:PE X (.Name x px) (yn i)): PSs X [.Return (some (.Name x px)) pos] (tN K zq i):=q39 (q5f (qai hv)) fun D σ H ⟨F0,H0,F, ρ, ρ',es,r,hu,ho,q⟩=>by
 cases hu;obtain⟨a,xs,e1,e2,e3,e4,e5⟩:=r.ow i es (q2q ho);exact⟨.ref a,e1,q σ F H a xs (.refl _) r e3 e4 e2 e5⟩
theorem qdv(h1:PS X st (tDS K u1))(h2:PSs X rest (tN K u2 i)): PSs X (st :: rest) (tN K (qu u1 u2) i):=by
 intro pins s σ H D I ⟨F0,H0,F, ρ, ρ',es,r,hu,ho,q⟩;obtain⟨⟨fl1, ρ1⟩,hu1,hu⟩:=g9.mp hu;cases fl1 with
 | nx=>
  refine t9 (thn (h1 pins s σ H {D with nx:=fun σ' H'=>tN K u2 i D σ' H'} I ⟨F0,H0,F, ρ,.nx, ρ1,r,hu1,fun σ' F' H' s' r'=>⟨F0,H0,F', ρ1, ρ',es,r',hu,ho,fun σ2 F2 H2 a xs s2=>q σ2 F2 H2 a xs (s'.trans s2)⟩⟩) fun fl s1 q=>?_);cases fl with
  | next=>obtain⟨σ',H',I',q⟩:=q;exact h2 pins s1 σ' H' D I' q
  | brk=>exact q
  | cont=>exact q
  | ret z=>exact q
 | bk=>cases hu
 | ct=>cases hu
 | rt d=>cases hu
theorem qiu{k k' ar:Nat}{fn:Addr}{fd:FuncData}{ps:List Str}{op:List D->Option (List D)}{e:Expr}{es:List Expr}{fa:FA}(C:CalN X.prog X.w X.K X.mg X.base x k ps ar op fn fd)(b:Binds X.K fd ps [])(hr:Room k' X.A)(hk:k<=k')(hg:Gl X x)(ha:PA X (e :: es) (tDA X.K fa))(hdb:(x==("__debug__" : Str))=false:=by decide)
  (he:starEach (e :: es) X.env=(false,eval e X.env) :: starEach es X.env:=by rfl) (hpl:(backTo pos (starEach es X.env)).any (·.1)=false:=by rfl):PE X (.Call (.Name x p) (e :: es) [] pos) (tL X.K (q4w ar op fa)):=
 zc (q36 C.ok (hr.mono hk) hg C.mg C.kp b .nil q2n ha hdb he hpl) fun σ H Q ⟨F0,H0,F, ρ,es,r,hf,q⟩=>by
  obtain⟨ds,h1,h2⟩:=g9.mp hf
  split at h2
  ·rename_i hl
   exact⟨F0,H0,F, ρ,ds,r,h1,fun vs F1 H1 g rl=>⟨F1,ds,es,r.sameT g,by rw [mz];exact rl,hl,h2,fun a xs F' H' g' n1 n2 h rl'=>q a xs F' H' (g.trans g') n1 (g.hh.free n2) h rl'⟩⟩
  ·cases h2
end
section
variable{P:Program}{w:World}{K:Frag}{mg:Str->Option Value}{base:Heap}{x qual:Str}{st:Stmt}{dV:Value}{f:Addr}{fd:FuncData}{N ps:List Str}
theorem Fun2.okN{k n ar k1 i:Nat}{u:FS}(F:Fun2 K x qual st dV f fd)(S:FnScope N ps (qc st))(hn:N.length=n)(ha:ps.length=ar)(hk:k+1=k1)
  (hb:∀(cdv:Value) (A:Around) (outer:List Env) (s:Shared) (H:Hp) (E:XK),Room k (A.deeper (envOfC qual (qc st) s.heap.objs.size f cdv))->PSs (z7 CX0 P w K mg base N qual (qc st) f cdv A outer s H E).nox (qr st) (tN K u i)) :
  FnOk P w K mg base CX0 k1 f fd ps (spN K ar (runN n u i)):=by
 subst hn ha hk;obtain⟨oc,od,kV,doc,pm,an,cdv,ct,osl,rfl,lk,hcd⟩:=F.ex;have hpl:ps.length<=N.length:=by have:=p8 List.length S.pre;rw [p9] at this;lia
 refine q6w lk hcd S (fun vs H Q E h=>?_) fun A outer s H vs Q E hr hsp=>?_
 ·obtain⟨F,ds,_,_,rl,el,_⟩:=h
  rw [<- rl.length];exact el
 ·obtain⟨F1,ds,es,fh,rl,el,hp,q⟩:=hsp
  unfold runN at hp
  split at hp
  ·rename_i ρ' hu
   exact⟨_,(hb cdv A outer s H E hr).nox,F1,H,F1,_, ρ',es,qim fh rl (by lia),hu,hp,fun σ' F' H' a xs s' r' n1 n2 h rl'=>q a xs F' H' r'.g n1 n2 h rl'⟩
  ·cases hp
end
end DL
namespace My
open PySem PySem.Spec PyProof.Rows L2 DL
local macro_rules | `(tactic| walk_at "A")=> `(tactic| ((refine qk8 (hs:=?hs) ?a ?_);(case hs=>exact q7y rfl)))
local macro_rules | `(tactic| walk_at "L")=> `(tactic| first|exact .inl rfl|exact .inr rfl|assumption)
def top(i:Nat): Stmt:=PySem.Challenge.pw_oftentogether_k41_put_and_taken.main.body.getD i (.Pass ⟨0,0,0,0⟩)
def q4x(i j:Nat): Stmt:=match top i with | .ClassDef _ _ _ body _ _ _ _ _ _ _=>body.getD j (.Pass ⟨0,0,0,0⟩)|x=>x
section
variable[Lam]{P:Program}{w:World}{K:Frag}{mg:Str->Option Value}{base:Heap}
abbrev zk:Stmt:=q4x 21 0
noncomputable def yl:List Str:=["self","there"]
theorem q3x:(yl).Nodup:=by decide +kernel
theorem q3y:FnScope yl ["self","there"] (qc zk):=⟨rfl,rfl,rfl,q3x,rfl,by decide +kernel,by decide +kernel⟩
theorem q3z{fa:Addr}{cdv:Value}{A:Around}{outer:List Env}{s:Shared}{H:Hp}{E:XK}{C_OftenError:Addr}(m_OftenError:mg "OftenError" = some (.ref C_OftenError))(sp_OftenError:PySem.W.specialIn K (.ref C_OftenError) "__getattribute__" = some (some (.builtin "type.__getattribute__")))(rd_OftenError:PySem.W.readsIn K C_OftenError (.type "type")=true)(fc_OftenError:PySem.W.findCls K (.ref C_OftenError) (.type "type") "__init__" = some (.val (.builtin "ValueError.__init__"))){C_NotThere:Addr}(ei_NotThere:w6 K C_NotThere fa=true)(ci_NotThere:ClsI K C_NotThere "there"):
  PSs (z7 CX0 P w K mg base yl "NotThere.__init__" (qc zk) fa cdv A outer s H E).nox (qr zk) (tIn C_NotThere "there"):=
 qir (qkw rfl m_OftenError sp_OftenError rd_OftenError fc_OftenError ei_NotThere (pv 0) (pv 1) (by decide) (by decide)) (qkx ci_NotThere (pv 0) (pv 1))
theorem q40{fa:Addr}{dV:Value}{fd:FuncData}(F:Fun2 K "__init__" "NotThere.__init__" zk dV fa fd){C_OftenError:Addr}(m_OftenError:mg "OftenError" = some (.ref C_OftenError))(sp_OftenError:PySem.W.specialIn K (.ref C_OftenError) "__getattribute__" = some (some (.builtin "type.__getattribute__")))(rd_OftenError:PySem.W.readsIn K C_OftenError (.type "type")=true)(fc_OftenError:PySem.W.findCls K (.ref C_OftenError) (.type "type") "__init__" = some (.val (.builtin "ValueError.__init__"))){C_NotThere:Addr}(ei_NotThere:w6 K C_NotThere fa=true)(ci_NotThere:ClsI K C_NotThere "there"): FnOk P w K mg base CX0 1 fa fd ["self","there"] (spI C_NotThere "there"):=
 F.okI (k:=0) q3y rfl rfl rfl fun cdv A outer s H E hr=>q3z m_OftenError sp_OftenError rd_OftenError fc_OftenError ei_NotThere ci_NotThere
abbrev y6:Stmt:=top 2
noncomputable def q2y:List Str:=["thing"]
theorem qbt:(q2y).Nodup:=by decide +kernel
theorem qbu:FnScope q2y ["thing"] (qc y6):=⟨rfl,rfl,rfl,qbt,rfl,by decide +kernel,by decide +kernel⟩
noncomputable def q0s:FS:=(zd (q05 (q0j .int (eV 0)) (q05 (q7x (q0j .bool (eV 0))) (eOp oGe (eV 0) (eC (.int 0))))))
noncomputable def j6:List D->Option D:=zx 1 q0s
theorem q4y{fa:Addr}{cdv:Value}{A:Around}{outer:List Env}{s:Shared}{H:Hp}{E:XK}(n_isinstance:mg "isinstance" = none)(n_int:mg "int" = none)(n_bool:mg "bool" = none)(hr:Room 0 (A.deeper (envOfC "is_number" (qc y6) s.heap.objs.size fa cdv))):
  PSs (z7 CX0 P w K mg base q2y "is_number" (qc y6) fa cdv A outer s H E).nox (qr y6) (tDS K q0s):=by
 unfold q0s;refine(qq ?_);refine(qy ?_);refine(q20 ?_ (q20 ?_ (q4k ?_)));refine(q11 .int rfl n_isinstance rfl n_int DL.boot_int ?_);exact(qa (pv 0));refine(qg0 ?_);refine(q11 .bool rfl n_isinstance rfl n_bool DL.boot_bool ?_);exact(qa (pv 0));refine(q3c qje ?_ qi);exact(qa (pv 0))
theorem qbv{fa:Addr}{dV:Value}{fd:FuncData}(F:Fun2 K "is_number" "is_number" y6 dV fa fd)(n_isinstance:mg "isinstance" = none)(n_int:mg "int" = none)(n_bool:mg "bool" = none): FnOk P w K mg base CX0 1 fa fd ["thing"] (spD K 1 j6):=
 F.okn (k:=0) (n:=1) (ar:=1) (k1:=1) (u:=q0s) qbu rfl rfl rfl fun cdv A outer s H E hr=>(by first|(with_reducible exact q4y n_isinstance n_int n_bool hr)|exact q4y n_isinstance n_int n_bool hr)
abbrev y8:Stmt:=top 3
noncomputable def q2z:List Str:=["thing","lowest","highest"]
theorem qbw:(q2z).Nodup:=by decide +kernel
theorem qbx:FnScope q2z ["thing","lowest","highest"] (qc y8):=⟨rfl,rfl,rfl,qbw,rfl,by decide +kernel,by decide +kernel⟩
noncomputable def w8:FS:=(zd (q05 (qj (qt 1 [] j6) (qb (eV 0) qh)) (q7d oLe oLe (eV 1) (eV 0) (eV 2))))
noncomputable def jo:List D->Option D:=zx 3 w8
theorem q4z{fa:Addr}{cdv:Value}{A:Around}{outer:List Env}{s:Shared}{H:Hp}{E:XK}{a_is_number:Addr}{fd_is_number:FuncData}(c_10:Cal P w K mg base "is_number" 1 ["thing"] 1 j6 a_is_number fd_is_number)(b_10:Binds K fd_is_number ["thing"] [])(hr:Room 1 (A.deeper (envOfC "is_within" (qc y8) s.heap.objs.size fa cdv))):
  PSs (z7 CX0 P w K mg base q2z "is_within" (qc y8) fa cdv A outer s H E).nox (qr y8) (tDS K w8):=by
 unfold w8;refine(qq ?_);refine(qy ?_);refine(q20 ?_ (q4k ?_));refine(za c_10 b_10 hr (by decide) rfl ?_);walk_at "A";exact(qa (pv 0));exact qg;refine(qic qjd qjd ?_ ?_ ?_);exact(qa (pv 1));exact(qa (pv 0));exact(qa (pv 2))
theorem qby{fa:Addr}{dV:Value}{fd:FuncData}(F:Fun2 K "is_within" "is_within" y8 dV fa fd){a_is_number:Addr}{fd_is_number:FuncData}(c_10:Cal P w K mg base "is_number" 1 ["thing"] 1 j6 a_is_number fd_is_number)(b_10:Binds K fd_is_number ["thing"] []): FnOk P w K mg base CX0 2 fa fd ["thing","lowest","highest"] (spD K 3 jo):=
 F.okn (k:=1) (n:=3) (ar:=3) (k1:=2) (u:=w8) qbx rfl rfl rfl fun cdv A outer s H E hr=>(by first|(with_reducible exact q4z c_10 b_10 hr)|exact q4z c_10 b_10 hr)
abbrev zr:Stmt:=q4x 28 0
noncomputable def wt:List Str:=["self","wares","window"]
theorem nd_Store___init__:(wt).Nodup:=by decide +kernel
theorem q5r:FnScope wt ["self","wares","window"] (qc zr):=⟨rfl,rfl,rfl,nd_Store___init__,rfl,by decide +kernel,by decide +kernel⟩
noncomputable def vp:FS:=(qu (sIf (yq (bT (qj (qt 3 [] jo) (qb (eV 1) (qb (eC (.int 0)) (qb (eC (.int 12)) qh)))))) q14 zq) (qu (sIf (q1z (z0 (oIs true) (eV 2) (eC .non)) (yq (bT (qj (qt 3 [] jo) (qb (eV 2) (qb (eC (.int 1)) (qb (eC (.int 1000000000000000)) qh))))))) q14 zq) (qu (q2s "Store" 0 "wares" (eV 1)) (qu (q2s "Store" 0 "window" (eV 2)) (q2s "Store" 0 "runs" (vc qh))))))
noncomputable def j9:Flds->List D->Option (Flds×D):=vo 3 "Store" vp
theorem q5s[Pin]{fa:Addr}{cdv:Value}{A:Around}{outer:List Env}{s:Shared}{H:Hp}{E:XK}{C_Store:Addr}(O_Store:ClsF K "Store" C_Store ["wares","window","runs"]){a_is_within:Addr}{fd_is_within:FuncData}(c_13:Cal P w K mg base "is_within" 2 ["thing","lowest","highest"] 3 jo a_is_within fd_is_within)(b_13:Binds K fd_is_within ["thing","lowest","highest"] [])(g_MOST_WARES:∃t,mg "MOST_WARES" = some (.int 12 t))(g_MOST_WINDOW:∃t,mg "MOST_WINDOW" = some (.int 1000000000000000 t))(hr:Room 2 (A.deeper (envOfC "Store.__init__" (qc zr) s.heap.objs.size fa cdv))):
  PSs (z7 CX0 P w K mg base wt "Store.__init__" (qc zr) fa cdv A outer s H E).nox (qr zr) (tDS K vp):=by
 unfold vp;refine(qp ?_ ?_);refine(j7 ?_ (qq q0k) zf);refine(yr ?_);refine(xk ?_);refine(za c_13 b_13 hr (by decide) rfl ?_);walk_at "A";exact(qa (pv 1));walk_at "A";exact qi;walk_at "A";exact(q3f rfl g_MOST_WARES);exact qg;refine(qp ?_ ?_);refine(j7 ?_ (qq q0k) zf);refine(PW.pt (qas ?_ (qdf ?_)));refine(zi (qb6 rfl) ?_ q1x);exact(qa (pv 2));refine(yr ?_);refine(xk ?_);refine(za c_13 b_13 hr (by decide) rfl ?_);walk_at "A";exact(qa (pv 2));walk_at "A";exact qi;walk_at "A";exact(q3f rfl g_MOST_WINDOW);exact qg;refine(qp ?_ ?_);refine(q4s O_Store (by decide) (pv 0) ?_);exact(qa (pv 1));refine(qp ?_ ?_);refine(q4s O_Store (by decide) (pv 0) ?_);exact(qa (pv 2));refine(qq ?_);refine(q4s O_Store (by decide) (pv 0) ?_);exact(xw qg)
theorem q5t{fa:Addr}{dV:Value}{fd:FuncData}(F:Fun2 K "__init__" "Store.__init__" zr dV fa fd){C_Store:Addr}(O_Store:ClsF K "Store" C_Store ["wares","window","runs"]){a_is_within:Addr}{fd_is_within:FuncData}(c_13:Cal P w K mg base "is_within" 2 ["thing","lowest","highest"] 3 jo a_is_within fd_is_within)(b_13:Binds K fd_is_within ["thing","lowest","highest"] [])(g_MOST_WARES:∃t,mg "MOST_WARES" = some (.int 12 t))(g_MOST_WINDOW:∃t,mg "MOST_WINDOW" = some (.int 1000000000000000 t)): FnOk P w K mg base CX0 3 fa fd ["self","wares","window"] (wq K "Store" 2 j9):=
 F.okOB (c:="Store") (k:=2) (n:=3) (ar:=2) (k1:=3) (u:=vp) q5r rfl rfl rfl fun Pn cdv A outer s H E hr=>(by exact q5s O_Store c_13 b_13 g_MOST_WARES g_MOST_WINDOW hr)
abbrev ki:Stmt:=top 38
noncomputable def q41:List Str:=["_law_found","_law_due","_law_one","_law_other"]
theorem q30:(q41).Nodup:=by decide +kernel
theorem qct:FnScope q41 ["_law_found","_law_due"] (qc ki):=⟨rfl,rfl,rfl,q30,rfl,by decide +kernel,by decide +kernel⟩
noncomputable def we(rc:List D->Option D): FS:=(sIf (yq (bT (qj (qt 2 [] rc) (qb (eV 2) (qb (eV 3) qh))))) (zd (eC (.bl false))) zq)
noncomputable def vq(rc:List D->Option D): FS:=(qu (sIf (bT (q0j .tuple (eV 1))) (qu (sIf (bOr (yq (bT (q0j .tuple (eV 0)))) (z0 qar (qj v3 (qb (eV 0) qh)) (qj v3 (qb (eV 1) qh)))) (zd (eC (.bl false))) zq) (qu (q4n (q80 (qb (eV 0) (qb (eV 1) qh))) (xl 2 (z6 (bN 2) (z6 (bN 3) jx))) (we rc)) (zd (eC (.bl true))))) zq) (zd (q05 (q0j .int (eV 0)) (q05 (q7x (q0j .bool (eV 0))) (eOp oEq (eV 0) (eV 1))))))
noncomputable def F_law_same(n:Nat): List D->Option D:=Nat.rec (fun _=>none) (fun _ rc=>zx 4 (vq rc)) n
noncomputable def zt:List D->Option D:=F_law_same 16
theorem qcu{fa:Addr}{cdv:Value}{A:Around}{outer:List Env}{s:Shared}{H:Hp}{E:XK}{rc:List D->Option D}{kr kk:Nat}(hkr:kr<=kk)(hk0:0<=kk){a__law_same:Addr}{fd__law_same:FuncData}(c_21:Cal P w K mg base "_law_same" kr ["_law_found","_law_due"] 2 rc a__law_same fd__law_same)(b_21:Binds K fd__law_same ["_law_found","_law_due"] [])(n_isinstance:mg "isinstance" = none)(n_tuple:mg "tuple" = none)(n_zip:mg "zip" = none)(n_int:mg "int" = none)(n_bool:mg "bool" = none)(n_len:mg "len" = none)(hr:Room kk (A.deeper (envOfC "_law_same" (qc ki) s.heap.objs.size fa cdv))):
  PSs (z7 CX0 P w K mg base q41 "_law_same" (qc ki) fa cdv A outer s H E).nox (qr ki) (tDS K (vq rc)):=by
 unfold vq we;refine(qp ?_ ?_);refine(j7 ?_ (qp ?_ ?_) zf);refine(xk ?_);refine(q11 .tuple rfl n_isinstance rfl n_tuple DL.boot_tuple ?_);exact(qa (pv 1));refine(j7 ?_ (qq ?_) zf);refine(PW.pt (q5j ?_ (q4j ?_)));refine(yr ?_);refine(xk ?_);refine(q11 .tuple rfl n_isinstance rfl n_tuple DL.boot_tuple ?_);exact(qa (pv 0));refine(zi qfx ?_ ?_);refine(z8 (kz) rfl n_len DL.xa ?_);walk_at "A";exact(qa (pv 0));exact qg;refine(z8 (kz) rfl n_len DL.xa ?_);walk_at "A";exact(qa (pv 1));exact qg;exact(qy vj);refine(qp ?_ ?_);refine(q75 g13 rfl ?_ (q23 rfl (jc (zh q30 rfl (Or.inl rfl) (.inl rfl)) (jc (zh q30 rfl (Or.inl rfl) (.inl rfl)) q10))) (qq ?_));refine(qga rfl n_zip ?_);walk_at "A";exact(qa (pv 0));walk_at "A";exact(qa (pv 1));exact qg;refine(j7 ?_ (qq ?_) zf);refine(yr ?_);refine(xk ?_);refine(za c_21 b_21 hr hkr rfl ?_);walk_at "A";exact(qa (pv 2));walk_at "A";exact(qa (pv 3));exact qg;exact(qy vj);refine(qq ?_);exact(qy vj);refine(qq ?_);refine(qy ?_);refine(q20 ?_ (q20 ?_ (q4k ?_)));refine(q11 .int rfl n_isinstance rfl n_int DL.boot_int ?_);exact(qa (pv 0));refine(qg0 ?_);refine(q11 .bool rfl n_isinstance rfl n_bool DL.boot_bool ?_);exact(qa (pv 0));refine(q3c (q0p hr.units) ?_ ?_);exact(qa (pv 0));exact(qa (pv 1))
theorem qcv{fa:Addr}{dV:Value}{fd:FuncData}(F:Fun2 K "_law_same" "_law_same" ki dV fa fd)(mgf:mg "_law_same" = some (.ref fa))(kpf:PySem.W.keepIn K (.ref fa)=true)(b_21:Binds K fd ["_law_found","_law_due"] [])(n_isinstance:mg "isinstance" = none)(n_tuple:mg "tuple" = none)(n_zip:mg "zip" = none)(n_int:mg "int" = none)(n_bool:mg "bool" = none)(n_len:mg "len" = none)(n:Nat): FnOk P w K mg base CX0 (1+n) fa fd ["_law_found","_law_due"] (spD K 2 (F_law_same n)):=by
 induction n with
 | zero=>exact qgf
 | succ n ih=>exact F.okn (k:=1+n) (n:=4) (ar:=2) (k1:=1+(n+1)) (u:=vq (F_law_same n)) qct rfl rfl rfl fun cdv A outer s H E hr=>(by exact qcu (kr:=1+n) (kk:=1+n) (gv _) (by omega) (Cal.mk ih mgf kpf) b_21 n_isinstance n_tuple n_zip n_int n_bool n_len hr)
abbrev jg:Stmt:=q4x 28 5
noncomputable def q27:List Str:=["self"]
theorem q9n:(q27).Nodup:=by decide +kernel
theorem q9o:FnScope q27 ["self"] (qc jg):=⟨rfl,rfl,rfl,q9n,rfl,by decide +kernel,by decide +kernel⟩
noncomputable def q0b:FS:=(zd (vc (qb (q09 "Store" 0 "wares") (qb (q09 "Store" 0 "runs") qh))))
noncomputable def jh:Flds->List D->Option (Flds×D):=vo 1 "Store" q0b
theorem q9p[Pin]{fa:Addr}{cdv:Value}{A:Around}{outer:List Env}{s:Shared}{H:Hp}{E:XK}{C_Store:Addr}(O_Store:ClsF K "Store" C_Store ["wares","window","runs"])(hr:Room 0 (A.deeper (envOfC "Store.pile" (qc jg) s.heap.objs.size fa cdv))):
  PSs (z7 CX0 P w K mg base q27 "Store.pile" (qc jg) fa cdv A outer s H E).nox (qr jg) (tDS K q0b):=by
 unfold q0b;refine(qq ?_);refine(qy ?_);refine(xw ?_);walk_at "A";exact(w4 O_Store (by decide) (pv 0));walk_at "A";exact(w4 O_Store (by decide) (pv 0));exact qg
theorem q9q{fa:Addr}{dV:Value}{fd:FuncData}(F:Fun2 K "pile" "Store.pile" jg dV fa fd){C_Store:Addr}(O_Store:ClsF K "Store" C_Store ["wares","window","runs"]): FnOk P w K mg base CX0 1 fa fd ["self"] (wq K "Store" 0 jh):=
 F.okOB (c:="Store") (k:=0) (n:=1) (ar:=0) (k1:=1) (u:=q0b) q9o rfl rfl rfl fun Pn cdv A outer s H E hr=>(by exact q9p O_Store hr)
abbrev kj:Stmt:=top 30
noncomputable def q42:List Str:=["_law_script","_law_k"]
theorem qcw:(q42).Nodup:=by decide +kernel
theorem qcx:FnScope q42 ["_law_script","_law_k"] (qc kj):=⟨rfl,rfl,rfl,qcw,rfl,by decide +kernel,by decide +kernel⟩
noncomputable def kl:FS:=(qu (sIf (z0 oLt' (eV 1) (qj v3 (qb (eV 0) qh))) (zd (eOp oIx (eV 0) (eV 1))) zq) (zd (eC (.int 0))))
noncomputable def zg:List D->Option D:=zx 2 kl
theorem q66{fa:Addr}{cdv:Value}{A:Around}{outer:List Env}{s:Shared}{H:Hp}{E:XK}(n_len:mg "len" = none)(hr:Room 0 (A.deeper (envOfC "_law_cell" (qc kj) s.heap.objs.size fa cdv))):
  PSs (z7 CX0 P w K mg base q42 "_law_cell" (qc kj) fa cdv A outer s H E).nox (qr kj) (tDS K kl):=by
 unfold kl;refine(qp ?_ ?_);refine(j7 ?_ (qq ?_) zf);refine(zi q13 ?_ ?_);exact(qa (pv 1));refine(z8 (kz) rfl n_len DL.xa ?_);walk_at "A";exact(qa (pv 0));exact qg;refine(qy ?_);refine(kh ?_ ?_);exact(qa (pv 0));exact(qa (pv 1));refine(qq ?_);exact(qy qi)
theorem qcy{fa:Addr}{dV:Value}{fd:FuncData}(F:Fun2 K "_law_cell" "_law_cell" kj dV fa fd)(n_len:mg "len" = none): FnOk P w K mg base CX0 1 fa fd ["_law_script","_law_k"] (spD K 2 zg):=
 F.okn (k:=0) (n:=2) (ar:=2) (k1:=1) (u:=kl) qcx rfl rfl rfl fun cdv A outer s H E hr=>(by first|(with_reducible exact q66 n_len hr)|exact q66 n_len hr)
abbrev y9:Stmt:=top 31
noncomputable def q31:List Str:=["_law_cell_here","_law_k","_law_first","_law_second"]
theorem q28:(q31).Nodup:=by decide +kernel
theorem qbz:FnScope q31 ["_law_cell_here","_law_k"] (qc y9):=⟨rfl,rfl,rfl,q28,rfl,by decide +kernel,by decide +kernel⟩
noncomputable def w9:FS:=(qu (zy 2 (eOp oMod (eOp jy (eOp jy (eOp jf (eOp oMod (eV 0) (eC (.int 2147483629))) (eC (.int 48271))) (eOp jf (eOp jf (eV 1) (eV 1)) (eC (.int 7919)))) (eC (.int 104729))) (eC (.int 2147483647)))) (qu (zy 3 (eOp oMod (eOp jf (eV 2) (eV 2)) (eC (.int 2147483629)))) (zd (eOp oMod (eOp jf (eOp oMod (eOp jy (eOp jy (eOp jf (eV 3) (eC (.int 69621))) (eOp jf (eV 1) (eC (.int 40692)))) (eC (.int 7))) (eC (.int 2147483587))) (eV 3)) (eC (.int 2147483579))))))
noncomputable def jd:List D->Option D:=zx 4 w9
theorem q50{fa:Addr}{cdv:Value}{A:Around}{outer:List Env}{s:Shared}{H:Hp}{E:XK}(hr:Room 0 (A.deeper (envOfC "_law_mixed" (qc y9) s.heap.objs.size fa cdv))):
  PSs (z7 CX0 P w K mg base q31 "_law_mixed" (qc y9) fa cdv A outer s H E).nox (qr y9) (tDS K w9):=by
 unfold w9;refine(qp ?_ ?_);refine(j0 (i:=2) ?_ ?_ ?_ ?_ ?_ ?_);exact q28;exact rfl;exact(Or.inl rfl);refine(qs j5 ?_ qi);refine(qs xi ?_ qi);refine(qs xi ?_ ?_);refine(qs k6 ?_ qi);refine(qs j5 ?_ qi);exact(qa (pv 0));refine(qs k6 ?_ qi);refine(qs k6 ?_ ?_);exact(qa (pv 1));exact(qa (pv 1));exact rfl;walk_at "L";refine(qp ?_ ?_);refine(j0 (i:=3) ?_ ?_ ?_ ?_ ?_ ?_);exact q28;exact rfl;exact(Or.inl rfl);refine(qs j5 ?_ qi);refine(qs k6 ?_ ?_);exact(qa (pv 2));exact(qa (pv 2));exact rfl;walk_at "L";refine(qq ?_);refine(qy ?_);refine(qs j5 ?_ qi);refine(qs k6 ?_ ?_);refine(qs j5 ?_ qi);refine(qs xi ?_ qi);refine(qs xi ?_ ?_);refine(qs k6 ?_ qi);exact(qa (pv 3));refine(qs k6 ?_ qi);exact(qa (pv 1));exact(qa (pv 3))
theorem qc0{fa:Addr}{dV:Value}{fd:FuncData}(F:Fun2 K "_law_mixed" "_law_mixed" y9 dV fa fd): FnOk P w K mg base CX0 1 fa fd ["_law_cell_here","_law_k"] (spD K 2 jd):=
 F.okn (k:=0) (n:=4) (ar:=2) (k1:=1) (u:=w9) qbz rfl rfl rfl fun cdv A outer s H E hr=>(by first|(with_reducible exact q50  hr)|exact q50  hr)
abbrev jl:Stmt:=top 32
noncomputable def wu:List Str:=["_law_script"]
theorem q5u:(wu).Nodup:=by decide +kernel
theorem q5v:FnScope wu ["_law_script"] (qc jl):=⟨rfl,rfl,rfl,q5u,rfl,by decide +kernel,by decide +kernel⟩
noncomputable def jm:FS:=(qu (sIf (z0 oEq (eOp oMod (qj (qt 2 [] zg) (qb (eV 0) (qb (eC (.int 0)) qh))) (eC (.int 2))) (eC (.int 0))) (zd (qj oMax (qb (eC (.int 0)) (qb (qj oMin (qb (eOp oSub (qj v3 (qb (eV 0) qh)) (eC (.int 1))) (qb (eC (.int 62)) qh))) qh)))) zq) (zd (eOp jy (eC (.int 5)) (eOp oMod (qj (qt 2 [] jd) (qb (qj (qt 2 [] zg) (qb (eV 0) (qb (eC (.int 0)) qh))) (qb (eC (.int 3)) qh))) (eC (.int 16))))))
noncomputable def ja:List D->Option D:=zx 1 jm
theorem q1d{fa:Addr}{cdv:Value}{A:Around}{outer:List Env}{s:Shared}{H:Hp}{E:XK}{a__law_cell:Addr}{fd__law_cell:FuncData}(c_14:Cal P w K mg base "_law_cell" 1 ["_law_script","_law_k"] 2 zg a__law_cell fd__law_cell)(b_14:Binds K fd__law_cell ["_law_script","_law_k"] []){a__law_mixed:Addr}{fd__law_mixed:FuncData}(c_18:Cal P w K mg base "_law_mixed" 1 ["_law_cell_here","_law_k"] 2 jd a__law_mixed fd__law_mixed)(b_18:Binds K fd__law_mixed ["_law_cell_here","_law_k"] [])(n_max:mg "max" = none)(n_min:mg "min" = none)(n_len:mg "len" = none)(hr:Room 1 (A.deeper (envOfC "_law_many_deeds" (qc jl) s.heap.objs.size fa cdv))):
  PSs (z7 CX0 P w K mg base wu "_law_many_deeds" (qc jl) fa cdv A outer s H E).nox (qr jl) (tDS K jm):=by
 unfold jm;refine(qp ?_ ?_);refine(j7 ?_ (qq ?_) zf);refine(zi (q0p hr.units) ?_ qi);refine(qs j5 ?_ qi);refine(za c_14 b_14 hr (by decide) rfl ?_);walk_at "A";exact(qa (pv 0));walk_at "A";exact qi;exact qg;refine(qy ?_);refine(z8 (qb1 rfl) rfl n_max DL.boot_max ?_);walk_at "A";exact qi;walk_at "A";refine(z8 (q4q rfl) rfl n_min DL.boot_min ?_);walk_at "A";refine(qs q3b ?_ qi);refine(z8 (kz) rfl n_len DL.xa ?_);walk_at "A";exact(qa (pv 0));exact qg;walk_at "A";exact qi;exact qg;exact qg;refine(qq ?_);refine(qy ?_);refine(qs xi qi ?_);refine(qs j5 ?_ qi);refine(za c_18 b_18 hr (by decide) rfl ?_);walk_at "A";refine(za c_14 b_14 hr (by decide) rfl ?_);walk_at "A";exact(qa (pv 0));walk_at "A";exact qi;exact qg;walk_at "A";exact qi;exact qg
theorem q5w{fa:Addr}{dV:Value}{fd:FuncData}(F:Fun2 K "_law_many_deeds" "_law_many_deeds" jl dV fa fd){a__law_cell:Addr}{fd__law_cell:FuncData}(c_14:Cal P w K mg base "_law_cell" 1 ["_law_script","_law_k"] 2 zg a__law_cell fd__law_cell)(b_14:Binds K fd__law_cell ["_law_script","_law_k"] []){a__law_mixed:Addr}{fd__law_mixed:FuncData}(c_18:Cal P w K mg base "_law_mixed" 1 ["_law_cell_here","_law_k"] 2 jd a__law_mixed fd__law_mixed)(b_18:Binds K fd__law_mixed ["_law_cell_here","_law_k"] [])(n_max:mg "max" = none)(n_min:mg "min" = none)(n_len:mg "len" = none): FnOk P w K mg base CX0 2 fa fd ["_law_script"] (spD K 1 ja):=
 F.okn (k:=1) (n:=1) (ar:=1) (k1:=2) (u:=jm) q5v rfl rfl rfl fun cdv A outer s H E hr=>(by first|(with_reducible exact q1d c_14 b_14 c_18 b_18 n_max n_min n_len hr)|exact q1d c_14 b_14 c_18 b_18 n_max n_min n_len hr)
abbrev ve:Stmt:=top 33
noncomputable def q29:List Str:=["_law_script","_law_k"]
theorem q9r:(q29).Nodup:=by decide +kernel
theorem q9s:FnScope q29 ["_law_script","_law_k"] (qc ve):=⟨rfl,rfl,rfl,q9r,rfl,by decide +kernel,by decide +kernel⟩
noncomputable def q0c:FS:=(qu (sIf (z0 oEq (eOp oMod (qj (qt 2 [] zg) (qb (eV 0) (qb (eC (.int 0)) qh))) (eC (.int 2))) (eC (.int 0))) (zd (eOp oMod (qj (qt 2 [] zg) (qb (eV 0) (qb (eOp jy (eC (.int 1)) (eV 1)) qh))) (eOp oPow (eC (.int 10)) (eC (.int 60))))) zq) (zd (eOp jy (eOp jf (qj (qt 2 [] jd) (qb (qj (qt 2 [] zg) (qb (eV 0) (qb (eOp jy (eC (.int 1)) (eOp oMod (eV 1) (qj oMax (qb (eC (.int 1)) (qb (eOp oSub (qj v3 (qb (eV 0) qh)) (eC (.int 1))) qh))))) qh))) (qb (eOp jy (eV 1) (eC (.int 5))) qh))) (eC (.int 2147483647))) (qj (qt 2 [] jd) (qb (eV 1) (qb (eC (.int 9)) qh))))))
noncomputable def k9:List D->Option D:=zx 2 q0c
theorem q4a{fa:Addr}{cdv:Value}{A:Around}{outer:List Env}{s:Shared}{H:Hp}{E:XK}{a__law_mixed:Addr}{fd__law_mixed:FuncData}(c_18:Cal P w K mg base "_law_mixed" 1 ["_law_cell_here","_law_k"] 2 jd a__law_mixed fd__law_mixed)(b_18:Binds K fd__law_mixed ["_law_cell_here","_law_k"] []){a__law_cell:Addr}{fd__law_cell:FuncData}(c_14:Cal P w K mg base "_law_cell" 1 ["_law_script","_law_k"] 2 zg a__law_cell fd__law_cell)(b_14:Binds K fd__law_cell ["_law_script","_law_k"] [])(n_max:mg "max" = none)(n_len:mg "len" = none)(hr:Room 1 (A.deeper (envOfC "_law_number" (qc ve) s.heap.objs.size fa cdv))):
  PSs (z7 CX0 P w K mg base q29 "_law_number" (qc ve) fa cdv A outer s H E).nox (qr ve) (tDS K q0c):=by
 unfold q0c;refine(qp ?_ ?_);refine(j7 ?_ (qq ?_) zf);refine(zi (q0p hr.units) ?_ qi);refine(qs j5 ?_ qi);refine(za c_14 b_14 hr (by decide) rfl ?_);walk_at "A";exact(qa (pv 0));walk_at "A";exact qi;exact qg;refine(qy ?_);refine(qs j5 ?_ ?_);refine(za c_14 b_14 hr (by decide) rfl ?_);walk_at "A";exact(qa (pv 0));walk_at "A";refine(qs xi qi ?_);exact(qa (pv 1));exact qg;exact(qs qaq qi qi);refine(qq ?_);refine(qy ?_);refine(qs xi ?_ ?_);refine(qs k6 ?_ qi);refine(za c_18 b_18 hr (by decide) rfl ?_);walk_at "A";refine(za c_14 b_14 hr (by decide) rfl ?_);walk_at "A";exact(qa (pv 0));walk_at "A";refine(qs xi qi ?_);refine(qs j5 ?_ ?_);exact(qa (pv 1));refine(z8 (qb1 rfl) rfl n_max DL.boot_max ?_);walk_at "A";exact qi;walk_at "A";refine(qs q3b ?_ qi);refine(z8 (kz) rfl n_len DL.xa ?_);walk_at "A";exact(qa (pv 0));exact qg;exact qg;exact qg;walk_at "A";refine(qs xi ?_ qi);exact(qa (pv 1));exact qg;refine(za c_18 b_18 hr (by decide) rfl ?_);walk_at "A";exact(qa (pv 1));walk_at "A";exact qi;exact qg
theorem q9t{fa:Addr}{dV:Value}{fd:FuncData}(F:Fun2 K "_law_number" "_law_number" ve dV fa fd){a__law_mixed:Addr}{fd__law_mixed:FuncData}(c_18:Cal P w K mg base "_law_mixed" 1 ["_law_cell_here","_law_k"] 2 jd a__law_mixed fd__law_mixed)(b_18:Binds K fd__law_mixed ["_law_cell_here","_law_k"] []){a__law_cell:Addr}{fd__law_cell:FuncData}(c_14:Cal P w K mg base "_law_cell" 1 ["_law_script","_law_k"] 2 zg a__law_cell fd__law_cell)(b_14:Binds K fd__law_cell ["_law_script","_law_k"] [])(n_max:mg "max" = none)(n_len:mg "len" = none): FnOk P w K mg base CX0 2 fa fd ["_law_script","_law_k"] (spD K 2 k9):=
 F.okn (k:=1) (n:=2) (ar:=2) (k1:=2) (u:=q0c) q9s rfl rfl rfl fun cdv A outer s H E hr=>(by first|(with_reducible exact q4a c_18 b_18 c_14 b_14 n_max n_len hr)|exact q4a c_18 b_18 c_14 b_14 n_max n_len hr)
abbrev q02:Stmt:=top 34
noncomputable def q51:List Str:=["_law_mark","_law_wares"]
theorem qex:(q51).Nodup:=by decide +kernel
theorem qey:FnScope q51 ["_law_mark","_law_wares"] (qc q02):=⟨rfl,rfl,rfl,qex,rfl,by decide +kernel,by decide +kernel⟩
theorem qc1:(["_law_ware","_law_mark"]:List Str).Nodup:=by decide +kernel
noncomputable def q2u:FS:=(zd (qj q08 (qb (eL (xp (iR1 (qb (eV 1) qh)) [none,some 0] (bN 0) (z0 oEq (eOp oMod (eOp oDivB (eV 1) (eOp oIx (eL (wo (qb (eC (.int 1)) (qb (eC (.int 2)) (qb (eC (.int 4)) (qb (eC (.int 8)) (qb (eC (.int 16)) (qb (eC (.int 32)) qh)))))))) (eV 0))) (eC (.int 2))) (eC (.int 1))) (eV 0))) qh)))
noncomputable def xx:List D->Option D:=zx 2 q2u
theorem q7g{fa:Addr}{cdv:Value}{A:Around}{outer:List Env}{s:Shared}{H:Hp}{E:XK}(n_tuple:mg "tuple" = none)(n_range:mg "range" = none)(hr:Room 0 (A.deeper (envOfC "_law_set" (qc q02) s.heap.objs.size fa cdv))):
  PSs (z7 CX0 P w K mg base q51 "_law_set" (qc q02) fa cdv A outer s H E).nox (qr q02) (tDS K q2u):=by
 unfold q2u;refine(qq ?_);refine(qy ?_);refine(q2p (q3s) rfl n_tuple DL.boot_tuple ?_);walk_at "A";refine(q06 ?_);refine(kf (N':=["_law_ware","_law_mark"]) (cap:=[none,some 0]) rfl (vk rfl rfl) (kg rfl) ?_ (fun _ _ _ _ _=>(zh qc1 rfl (Or.inl rfl) (.inr rfl))) (fun _ _ _ _ _=>(q3d ?_)) (fun _ _ _ _ _=>?_));refine(q8z rfl n_range ?_);walk_at "A";exact(qa (pv 1));exact qg;refine(zi (q0p hr.units) ?_ qi);refine(qs j5 ?_ qi);refine(qs qdo ?_ ?_);exact(qa (pv 1));refine(kh ?_ ?_);refine(q06 ?_);refine(q0z ?_);walk_at "A";exact qi;walk_at "A";exact qi;walk_at "A";exact qi;walk_at "A";exact qi;walk_at "A";exact qi;walk_at "A";exact qi;exact qg;exact(qa (pv 0));exact(qa (pv 0));exact qg
theorem qez{fa:Addr}{dV:Value}{fd:FuncData}(F:Fun2 K "_law_set" "_law_set" q02 dV fa fd)(n_tuple:mg "tuple" = none)(n_range:mg "range" = none): FnOk P w K mg base CX0 1 fa fd ["_law_mark","_law_wares"] (spD K 2 xx):=
 F.okn (k:=0) (n:=2) (ar:=2) (k1:=1) (u:=q2u) qey rfl rfl rfl fun cdv A outer s H E hr=>(by first|(with_reducible exact q7g n_tuple n_range hr)|exact q7g n_tuple n_range hr)
abbrev ya:Stmt:=top 35
noncomputable def q32:List Str:=["_law_runs","_law_basket"]
theorem qc2:(q32).Nodup:=by decide +kernel
theorem qc3:FnScope q32 ["_law_runs","_law_basket"] (qc ya):=⟨rfl,rfl,rfl,qc2,rfl,by decide +kernel,by decide +kernel⟩
theorem q3h:(["_law_many","_law_other","_law_basket"]:List Str).Nodup:=by decide +kernel
noncomputable def q0t:FS:=(zd (qj q4p (qb (eL (xp (yu (eV 0)) [none,none,some 1] (xl 2 (z6 (bN 0) (z6 (bN 1) jx))) (z0 oEq (eV 1) (eV 2)) (eV 0))) qh)))
noncomputable def jq:List D->Option D:=zx 2 q0t
theorem q52{fa:Addr}{cdv:Value}{A:Around}{outer:List Env}{s:Shared}{H:Hp}{E:XK}(n_sum:mg "sum" = none)(hr:Room 0 (A.deeper (envOfC "_law_there" (qc ya) s.heap.objs.size fa cdv))):
  PSs (z7 CX0 P w K mg base q32 "_law_there" (qc ya) fa cdv A outer s H E).nox (qr ya) (tDS K q0t):=by
 unfold q0t;refine(qq ?_);refine(qy ?_);refine(z8 (q7b rfl) rfl n_sum DL.boot_sum ?_);walk_at "A";refine(q06 ?_);refine(kf (N':=["_law_many","_law_other","_law_basket"]) (cap:=[none,none,some 1]) rfl (vk rfl rfl) (q2r (x9 rfl (x9 rfl q1f))) ?_ (fun _ _ _ _ _=>(q23 rfl (jc (zh q3h rfl (Or.inl rfl) (.inr rfl)) (jc (zh q3h rfl (Or.inl rfl) (.inr rfl)) q10)))) (fun _ _ _ _ _=>(q3d ?_)) (fun _ _ _ _ _=>?_));refine(ky ?_);exact(qa (pv 0));refine(zi (q0p hr.units) ?_ ?_);exact(qa (pv 1));exact(qa (pv 2));exact(qa (pv 0));exact qg
theorem qc4{fa:Addr}{dV:Value}{fd:FuncData}(F:Fun2 K "_law_there" "_law_there" ya dV fa fd)(n_sum:mg "sum" = none): FnOk P w K mg base CX0 1 fa fd ["_law_runs","_law_basket"] (spD K 2 jq):=
 F.okn (k:=0) (n:=2) (ar:=2) (k1:=1) (u:=q0t) qc3 rfl rfl rfl fun cdv A outer s H E hr=>(by first|(with_reducible exact q52 n_sum hr)|exact q52 n_sum hr)
abbrev km:Stmt:=top 36
noncomputable def q43:List Str:=["_law_number_here","_law_wares","_law_runs","_law_basket","_law_rest","_law_many"]
theorem v5:(q43).Nodup:=by decide +kernel
theorem qcz:FnScope q43 ["_law_number_here","_law_wares","_law_runs"] (qc km):=⟨rfl,rfl,rfl,v5,rfl,by decide +kernel,by decide +kernel⟩
noncomputable def q1g:FS:=(qu (zy 3 (qj (qt 2 [] xx) (qb (eOp oMod (eOp oDiv (eV 0) (eC (.int 8))) (eC (.int 64))) (qb (eV 1) qh)))) (qu (zy 4 (eOp oDiv (eV 0) (eC (.int 2048)))) (qu (zy 5 (eOp jy (eC (.int 1)) (eOp oMod (eV 4) (eOp oIx (eL (wo (qb (eC (.int 9)) (qb (eOp oPow (eC (.int 10)) (eC (.int 12))) qh)))) (eOp oMod (eOp oDiv (eV 0) (eC (.int 512))) (eC (.int 2))))))) (qu (sIf (q1z (z0 oGt (eOp oMod (eV 0) (eC (.int 8))) (eC (.int 4))) (q1z (z0 oGt (eOp oMod (eOp oDiv (eV 0) (eC (.int 512))) (eC (.int 4))) (eC (.int 0))) (z0 oGt (qj v3 (qb (eV 2) qh)) (eC (.int 0))))) (qu (zy 3 (eOp oIx (eOp oIx (eV 2) (eOp oMod (eV 4) (qj v3 (qb (eV 2) qh)))) (eC (.int 1)))) (qu (zy 5 (eOp jy (eC (.int 1)) (eOp oMod (eOp oDivB (eV 4) (qj v3 (qb (eV 2) qh))) (eOp jy (qj (qt 2 [] jq) (qb (eV 2) (qb (eV 3) qh))) (eC (.int 1)))))) (zy 5 (qj oMin (qb (eV 5) (qb (eOp oPow (eC (.int 10)) (eC (.int 12))) qh)))))) zq) (zd (eL (wo (qb (eOp oGt (eOp oMod (eV 0) (eC (.int 8))) (eC (.int 4))) (qb (eV 5) (qb (eV 3) qh))))))))))
noncomputable def q0d:List D->Option D:=zx 6 q1g
theorem q67{fa:Addr}{cdv:Value}{A:Around}{outer:List Env}{s:Shared}{H:Hp}{E:XK}{a__law_set:Addr}{fd__law_set:FuncData}(c_22:Cal P w K mg base "_law_set" 1 ["_law_mark","_law_wares"] 2 xx a__law_set fd__law_set)(b_22:Binds K fd__law_set ["_law_mark","_law_wares"] []){a__law_there:Addr}{fd__law_there:FuncData}(c_24:Cal P w K mg base "_law_there" 1 ["_law_runs","_law_basket"] 2 jq a__law_there fd__law_there)(b_24:Binds K fd__law_there ["_law_runs","_law_basket"] [])(n_min:mg "min" = none)(n_len:mg "len" = none)(hr:Room 1 (A.deeper (envOfC "_law_deed" (qc km) s.heap.objs.size fa cdv))):
  PSs (z7 CX0 P w K mg base q43 "_law_deed" (qc km) fa cdv A outer s H E).nox (qr km) (tDS K q1g):=by
 unfold q1g;refine(qp ?_ ?_);refine(j0 (i:=3) ?_ ?_ ?_ ?_ ?_ ?_);exact v5;exact rfl;exact(Or.inl rfl);refine(za c_22 b_22 hr (by decide) rfl ?_);walk_at "A";refine(qs j5 ?_ qi);refine(qs q1y ?_ qi);exact(qa (pv 0));walk_at "A";exact(qa (pv 1));exact qg;exact rfl;walk_at "L";refine(qp ?_ ?_);refine(j0 (i:=4) ?_ ?_ ?_ ?_ ?_ ?_);exact v5;exact rfl;exact(Or.inl rfl);refine(qs q1y ?_ qi);exact(qa (pv 0));exact rfl;walk_at "L";refine(qp ?_ ?_);refine(j0 (i:=5) ?_ ?_ ?_ ?_ ?_ ?_);exact v5;exact rfl;exact(Or.inl rfl);refine(qs xi qi ?_);refine(qs j5 ?_ ?_);exact(qa (pv 4));refine(kh ?_ ?_);refine(q06 ?_);refine(q0z ?_);walk_at "A";exact qi;walk_at "A";exact(qs qaq qi qi);exact qg;refine(qs j5 ?_ qi);refine(qs q1y ?_ qi);exact(qa (pv 0));exact rfl;walk_at "L";refine(qp ?_ ?_);refine(j7 ?_ (qp ?_ ?_) zf);refine(PW.pt (qas ?_ (qas ?_ (qdf ?_))));refine(zi q5h ?_ qi);refine(qs j5 ?_ qi);exact(qa (pv 0));refine(zi q5h ?_ qi);refine(qs j5 ?_ qi);refine(qs q1y ?_ qi);exact(qa (pv 0));refine(zi q5h ?_ qi);refine(z8 (kz) rfl n_len DL.xa ?_);walk_at "A";exact(qa (pv 2));exact qg;refine(j0 (i:=3) ?_ ?_ ?_ ?_ ?_ ?_);exact v5;exact rfl;exact(Or.inl rfl);refine(kh ?_ qi);refine(kh ?_ ?_);exact(qa (pv 2));refine(qs j5 ?_ ?_);exact(qa (pv 4));refine(z8 (kz) rfl n_len DL.xa ?_);walk_at "A";exact(qa (pv 2));exact qg;exact rfl;walk_at "L";refine(qp ?_ ?_);refine(j0 (i:=5) ?_ ?_ ?_ ?_ ?_ ?_);exact v5;exact rfl;exact(Or.inl rfl);refine(qs xi qi ?_);refine(qs j5 ?_ ?_);refine(qs qdo ?_ ?_);exact(qa (pv 4));refine(z8 (kz) rfl n_len DL.xa ?_);walk_at "A";exact(qa (pv 2));exact qg;refine(qs xi ?_ qi);refine(za c_24 b_24 hr (by decide) rfl ?_);walk_at "A";exact(qa (pv 2));walk_at "A";exact(qa (pv 3));exact qg;exact rfl;walk_at "L";refine(qq ?_);refine(j0 (i:=5) ?_ ?_ ?_ ?_ ?_ ?_);exact v5;exact rfl;exact(Or.inl rfl);refine(z8 (q4q rfl) rfl n_min DL.boot_min ?_);walk_at "A";exact(qa (pv 5));walk_at "A";exact(qs qaq qi qi);exact qg;exact rfl;walk_at "L";refine(qq ?_);refine(qy ?_);refine(q06 ?_);refine(q0z ?_);walk_at "A";refine(q3c q5h ?_ qi);refine(qs j5 ?_ qi);exact(qa (pv 0));walk_at "A";exact(qa (pv 5));walk_at "A";exact(qa (pv 3));exact qg
theorem qd0{fa:Addr}{dV:Value}{fd:FuncData}(F:Fun2 K "_law_deed" "_law_deed" km dV fa fd){a__law_set:Addr}{fd__law_set:FuncData}(c_22:Cal P w K mg base "_law_set" 1 ["_law_mark","_law_wares"] 2 xx a__law_set fd__law_set)(b_22:Binds K fd__law_set ["_law_mark","_law_wares"] []){a__law_there:Addr}{fd__law_there:FuncData}(c_24:Cal P w K mg base "_law_there" 1 ["_law_runs","_law_basket"] 2 jq a__law_there fd__law_there)(b_24:Binds K fd__law_there ["_law_runs","_law_basket"] [])(n_min:mg "min" = none)(n_len:mg "len" = none): FnOk P w K mg base CX0 2 fa fd ["_law_number_here","_law_wares","_law_runs"] (spD K 3 q0d):=
 F.okn (k:=1) (n:=6) (ar:=3) (k1:=2) (u:=q1g) qcz rfl rfl rfl fun cdv A outer s H E hr=>(by first|(with_reducible exact q67 c_22 b_22 c_24 b_24 n_min n_len hr)|exact q67 c_22 b_22 c_24 b_24 n_min n_len hr)
abbrev vf:Stmt:=top 7
noncomputable def q2a:List Str:=["one","other"]
theorem q9u:(q2a).Nodup:=by decide +kernel
theorem q9v:FnScope q2a ["one","other"] (qc vf):=⟨rfl,rfl,rfl,q9u,rfl,by decide +kernel,by decide +kernel⟩
theorem q7h:(["ware","other"]:List Str).Nodup:=by decide +kernel
noncomputable def q0e:FS:=(zd (qj q6f (qb (eL (xp (yu (eV 0)) [none,some 1] (bN 0) q07 (eOp (oIn false) (eV 0) (eV 1)))) qh)))
noncomputable def vg:List D->Option D:=zx 2 q0e
theorem q4b{fa:Addr}{cdv:Value}{A:Around}{outer:List Env}{s:Shared}{H:Hp}{E:XK}(n_all:mg "all" = none)(hr:Room 0 (A.deeper (envOfC "lies_below" (qc vf) s.heap.objs.size fa cdv))):
  PSs (z7 CX0 P w K mg base q2a "lies_below" (qc vf) fa cdv A outer s H E).nox (qr vf) (tDS K q0e):=by
 unfold q0e;refine(qq ?_);refine(qy ?_);refine(z8 (qaz rfl) rfl n_all DL.boot_all ?_);walk_at "A";refine(q06 ?_);refine(kf (N':=["ware","other"]) (cap:=[none,some 1]) rfl (vk rfl rfl) (kg rfl) ?_ (fun _ _ _ _ _=>(zh q7h rfl (Or.inl rfl) (.inr rfl))) (fun _ _ _ _ _=>q77) (fun _ _ _ _ _=>?_));refine(ky ?_);exact(qa (pv 0));refine(q3c qos ?_ ?_);exact(qa (pv 0));exact(qa (pv 1));exact qg
theorem q9w{fa:Addr}{dV:Value}{fd:FuncData}(F:Fun2 K "lies_below" "lies_below" vf dV fa fd)(n_all:mg "all" = none): FnOk P w K mg base CX0 1 fa fd ["one","other"] (spD K 2 vg):=
 F.okn (k:=0) (n:=2) (ar:=2) (k1:=1) (u:=q0e) q9v rfl rfl rfl fun cdv A outer s H E hr=>(by first|(with_reducible exact q4b n_all hr)|exact q4b n_all hr)
abbrev q1n:Stmt:=top 12
noncomputable def q87:List Str:=["pile","some"]
theorem qiv:(q87).Nodup:=by decide +kernel
theorem qiw:FnScope q87 ["pile","some"] (qc q1n):=⟨rfl,rfl,rfl,qiv,rfl,by decide +kernel,by decide +kernel⟩
theorem q7i:(["many","basket","some"]:List Str).Nodup:=by decide +kernel
noncomputable def q5n:FS:=(zd (qj q4p (qb (eL (xp (yu (eOp oIx (eV 0) (eC (.int 1)))) [none,none,some 1] (xl 2 (z6 (bN 0) (z6 (bN 1) jx))) (bT (qj (qt 2 [] vg) (qb (eV 2) (qb (eV 1) qh)))) (eV 0))) qh)))
noncomputable def q3i:List D->Option D:=zx 2 q5n
theorem qc5{fa:Addr}{cdv:Value}{A:Around}{outer:List Env}{s:Shared}{H:Hp}{E:XK}{a_lies_below:Addr}{fd_lies_below:FuncData}(c_25:Cal P w K mg base "lies_below" 1 ["one","other"] 2 vg a_lies_below fd_lies_below)(b_25:Binds K fd_lies_below ["one","other"] [])(n_sum:mg "sum" = none)(hr:Room 1 (A.deeper (envOfC "count" (qc q1n) s.heap.objs.size fa cdv))):
  PSs (z7 CX0 P w K mg base q87 "count" (qc q1n) fa cdv A outer s H E).nox (qr q1n) (tDS K q5n):=by
 unfold q5n;refine(qq ?_);refine(qy ?_);refine(z8 (q7b rfl) rfl n_sum DL.boot_sum ?_);walk_at "A";refine(q06 ?_);refine(kf (N':=["many","basket","some"]) (cap:=[none,none,some 1]) rfl (vk rfl rfl) (q2r (x9 rfl (x9 rfl q1f))) ?_ (fun _ _ _ _ _=>(q23 rfl (jc (zh q7i rfl (Or.inl rfl) (.inr rfl)) (jc (zh q7i rfl (Or.inl rfl) (.inr rfl)) q10)))) (fun _ _ _ _ _=>(q3d ?_)) (fun _ _ _ _ _=>?_));refine(ky ?_);refine(kh ?_ qi);exact(qa (pv 0));refine(xk ?_);refine(za c_25 b_25 hr (by decide) rfl ?_);walk_at "A";exact(qa (pv 2));walk_at "A";exact(qa (pv 1));exact qg;exact(qa (pv 0));exact qg
theorem qix{fa:Addr}{dV:Value}{fd:FuncData}(F:Fun2 K "count" "count" q1n dV fa fd){a_lies_below:Addr}{fd_lies_below:FuncData}(c_25:Cal P w K mg base "lies_below" 1 ["one","other"] 2 vg a_lies_below fd_lies_below)(b_25:Binds K fd_lies_below ["one","other"] [])(n_sum:mg "sum" = none): FnOk P w K mg base CX0 2 fa fd ["pile","some"] (spD K 2 q3i):=
 F.okn (k:=1) (n:=2) (ar:=2) (k1:=2) (u:=q5n) qiw rfl rfl rfl fun cdv A outer s H E hr=>(by first|(with_reducible exact qc5 c_25 b_25 n_sum hr)|exact qc5 c_25 b_25 n_sum hr)
abbrev j8:Stmt:=q4x 28 6
noncomputable def q19:List Str:=["self","some"]
theorem q88:(q19).Nodup:=by decide +kernel
theorem q89:FnScope q19 ["self","some"] (qc j8):=⟨rfl,rfl,rfl,q88,rfl,by decide +kernel,by decide +kernel⟩
noncomputable def wg:FS:=(q7f (q0a (qt 2 [] q3i) (k8 (yk "Store" "pile" 0 0 jh qh) (amP (qb (eV 1) qh)))))
noncomputable def vz:Flds->List D->Option (Flds×D):=vo 2 "Store" wg
theorem q8a[Pin]{fa:Addr}{cdv:Value}{A:Around}{outer:List Env}{s:Shared}{H:Hp}{E:XK}{C_Store:Addr}(O_Store:ClsF K "Store" C_Store ["wares","window","runs"]){a_count:Addr}{fd_count:FuncData}(c_9:Cal P w K mg base "count" 2 ["pile","some"] 2 q3i a_count fd_count)(b_9:Binds K fd_count ["pile","some"] []){a_Store_pile:Addr}{fd_Store_pile:FuncData}(c_4:CalF P w K mg base "Store" "pile" C_Store 1 ["self"] 0 jh a_Store_pile fd_Store_pile)(b_4:Binds K fd_Store_pile ["self"] [])(ca_count_piles:mg "count_piles" = some (.ref a_count))(hr:Room 2 (A.deeper (envOfC "Store.count" (qc j8) s.heap.objs.size fa cdv))):
  PSs (z7 CX0 P w K mg base q19 "Store.count" (qc j8) fa cdv A outer s H E).nox (qr j8) (tDS K wg):=by
 unfold wg;refine(qq ?_);refine(qdt ?_);refine(q4t (c_9.as ca_count_piles) b_9 hr (by decide) rfl (q0m ?_ ?_));exact(q82 O_Store c_4 b_4 hr (by decide) (pv 0));refine(q1m ?_);walk_at "A";exact(qa (pv 1));exact qg
theorem q8b{fa:Addr}{dV:Value}{fd:FuncData}(F:Fun2 K "count" "Store.count" j8 dV fa fd){C_Store:Addr}(O_Store:ClsF K "Store" C_Store ["wares","window","runs"]){a_count:Addr}{fd_count:FuncData}(c_9:Cal P w K mg base "count" 2 ["pile","some"] 2 q3i a_count fd_count)(b_9:Binds K fd_count ["pile","some"] []){a_Store_pile:Addr}{fd_Store_pile:FuncData}(c_4:CalF P w K mg base "Store" "pile" C_Store 1 ["self"] 0 jh a_Store_pile fd_Store_pile)(b_4:Binds K fd_Store_pile ["self"] [])(ca_count_piles:mg "count_piles" = some (.ref a_count)): FnOk P w K mg base CX0 3 fa fd ["self","some"] (wq K "Store" 1 vz):=
 F.okOB (c:="Store") (k:=2) (n:=2) (ar:=1) (k1:=3) (u:=wg) q89 rfl rfl rfl fun Pn cdv A outer s H E hr=>(by exact q8a O_Store c_9 b_9 c_4 b_4 ca_count_piles hr)
abbrev xr:Stmt:=top 40
noncomputable def q1a:List Str:=["_law_store","_law_runs","_law_some","_law_due"]
theorem q3j:(q1a).Nodup:=by decide +kernel
theorem q8c:FnScope q1a ["_law_store","_law_runs","_law_some"] (qc xr):=⟨rfl,rfl,rfl,q3j,rfl,by decide +kernel,by decide +kernel⟩
theorem q2b:(["_law_many","_law_basket","_law_some"]:List Str).Nodup:=by decide +kernel
theorem q6k:(["_law_ware","_law_basket"]:List Str).Nodup:=by decide +kernel
noncomputable def wj:FS:=(qu (zy 3 (qj q4p (qb (eL (xp (yu (eV 1)) [none,none,some 2] (xl 2 (z6 (bN 0) (z6 (bN 1) jx))) (z0 oEq (eL (xp (yu (eV 2)) [none,some 1] (bN 0) (z0 (oIn true) (eV 0) (eV 1)) (eV 0))) (eL (wo qh))) (eV 0))) qh))) (q7f (q0a (qt 2 [] zt) (k8 (yk "Store" "count" 0 1 vz (qb (eV 2) qh)) (amP (qb (eV 3) qh))))))
noncomputable def xt:Flds->List D->Option (Flds×D):=vo 4 "Store" wj
theorem q8d[Pin]{fa:Addr}{cdv:Value}{A:Around}{outer:List Env}{s:Shared}{H:Hp}{E:XK}{C_Store:Addr}(O_Store:ClsF K "Store" C_Store ["wares","window","runs"]){a__law_same:Addr}{fd__law_same:FuncData}(c_21:Cal P w K mg base "_law_same" 17 ["_law_found","_law_due"] 2 zt a__law_same fd__law_same)(b_21:Binds K fd__law_same ["_law_found","_law_due"] []){a_Store_count:Addr}{fd_Store_count:FuncData}(c_3:CalF P w K mg base "Store" "count" C_Store 3 ["self","some"] 1 vz a_Store_count fd_Store_count)(b_3:Binds K fd_Store_count ["self","some"] [])(n_sum:mg "sum" = none)(hr:Room 17 (A.deeper (envOfC "_law_counted" (qc xr) s.heap.objs.size fa cdv))):
  PSs (z7 CX0 P w K mg base q1a "_law_counted" (qc xr) fa cdv A outer s H E).nox (qr xr) (tDS K wj):=by
 unfold wj;refine(qp ?_ ?_);refine(j0 (i:=3) ?_ ?_ ?_ ?_ ?_ ?_);exact q3j;exact rfl;exact(Or.inl rfl);refine(z8 (q7b rfl) rfl n_sum DL.boot_sum ?_);walk_at "A";refine(q06 ?_);refine(qij (N':=["_law_many","_law_basket","_law_some"]) (cap:=[none,none,some 2]) rfl (qge rfl rfl) (q2r (x9 rfl (x9 rfl q1f))) ?_ (fun _ _ _ _ _=>(q23 rfl (jc (zh q2b rfl (Or.inl rfl) (.inr rfl)) (jc (zh q2b rfl (Or.inr rfl) (.inl rfl)) q10)))) (fun _ _ _ _ _=>(q3d ?_)) (fun _ _ _ _ _=>?_));refine(ky ?_);exact(qa (pv 1));refine(zi (q0p hr.units) ?_ ?_);refine(q06 ?_);refine(kf (N':=["_law_ware","_law_basket"]) (cap:=[none,some 1]) rfl (vk rfl rfl) (kg rfl) ?_ (fun _ _ _ _ _=>(zh q6k rfl (Or.inl rfl) (.inr rfl))) (fun _ _ _ _ _=>(q3d ?_)) (fun _ _ _ _ _=>?_));refine(ky ?_);exact(qa (pv 2));refine(zi qi7 ?_ ?_);exact(qa (pv 0));exact(qa (pv 1));exact(qa (pv 0));refine(q06 ?_);exact(q0z qg);exact(qa (pv 0));exact qg;exact rfl;walk_at "L";refine(qq ?_);refine(qdt ?_);refine(q4t c_21 b_21 hr (by decide) rfl (q0m ?_ ?_));refine(q15 O_Store c_3 b_3 hr (by decide) (pv 0) ?_);walk_at "A";exact(qa (pv 2));exact qg;refine(q1m ?_);walk_at "A";exact(qa (pv 3));exact qg
theorem q8e{fa:Addr}{dV:Value}{fd:FuncData}(F:Fun2 K "_law_counted" "_law_counted" xr dV fa fd){C_Store:Addr}(O_Store:ClsF K "Store" C_Store ["wares","window","runs"]){a__law_same:Addr}{fd__law_same:FuncData}(c_21:Cal P w K mg base "_law_same" 17 ["_law_found","_law_due"] 2 zt a__law_same fd__law_same)(b_21:Binds K fd__law_same ["_law_found","_law_due"] []){a_Store_count:Addr}{fd_Store_count:FuncData}(c_3:CalF P w K mg base "Store" "count" C_Store 3 ["self","some"] 1 vz a_Store_count fd_Store_count)(b_3:Binds K fd_Store_count ["self","some"] [])(n_sum:mg "sum" = none): FnOk P w K mg base CX0 18 fa fd ["_law_store","_law_runs","_law_some"] (wq K "Store" 2 xt):=
 F.okOB (c:="Store") (k:=17) (n:=4) (ar:=2) (k1:=18) (u:=wj) q8c rfl rfl rfl fun Pn cdv A outer s H E hr=>(by exact q8d O_Store c_21 b_21 c_3 b_3 n_sum hr)
abbrev vt:Stmt:=top 6
noncomputable def q6l:List Str:=["thing","wares","bound"]
theorem nd_is_set:(q6l).Nodup:=by decide +kernel
theorem qgp:FnScope q6l ["thing","wares"] (qc vt):=⟨rfl,rfl,rfl,nd_is_set,rfl,by decide +kernel,by decide +kernel⟩
theorem qd1:(["ware","bound"]:List Str).Nodup:=by decide +kernel
theorem q68:(["lower","higher"]:List Str).Nodup:=by decide +kernel
noncomputable def q44:FS:=(qu (sIf (yq (bT (q0j .tuple (eV 0)))) (zd (eC (.bl false))) zq) (qu (zy 2 (qj oMin (qb (eV 1) (qb (eC (.int 12)) qh)))) (qu (sIf (yq (bT (qj q6f (qb (eL (xp (yu (eV 0)) [none,some 2] (bN 0) q07 (q05 (qj (qt 1 [] j6) (qb (eV 0) qh)) (eOp oLt' (eV 0) (eV 1))))) qh)))) (zd (eC (.bl false))) zq) (zd (qj q6f (qb (eL (xp (q80 (qb (eV 0) (qb (eSl (eV 0) (oAt (eC (.int 1))) oNo) qh))) [none,none] (xl 2 (z6 (bN 0) (z6 (bN 1) jx))) q07 (eOp oLt' (eV 0) (eV 1)))) qh))))))
noncomputable def q2c:List D->Option D:=zx 3 q44
theorem q98{fa:Addr}{cdv:Value}{A:Around}{outer:List Env}{s:Shared}{H:Hp}{E:XK}{a_is_number:Addr}{fd_is_number:FuncData}(c_10:Cal P w K mg base "is_number" 1 ["thing"] 1 j6 a_is_number fd_is_number)(b_10:Binds K fd_is_number ["thing"] [])(n_min:mg "min" = none)(n_all:mg "all" = none)(n_isinstance:mg "isinstance" = none)(n_tuple:mg "tuple" = none)(n_zip:mg "zip" = none)(g_MOST_WARES:∃t,mg "MOST_WARES" = some (.int 12 t))(hr:Room 1 (A.deeper (envOfC "is_set" (qc vt) s.heap.objs.size fa cdv))):
  PSs (z7 CX0 P w K mg base q6l "is_set" (qc vt) fa cdv A outer s H E).nox (qr vt) (tDS K q44):=by
 unfold q44;refine(qp ?_ ?_);refine(j7 ?_ (qq ?_) zf);refine(yr ?_);refine(xk ?_);refine(q11 .tuple rfl n_isinstance rfl n_tuple DL.boot_tuple ?_);exact(qa (pv 0));exact(qy vj);refine(qp ?_ ?_);refine(j0 (i:=2) ?_ ?_ ?_ ?_ ?_ ?_);exact nd_is_set;exact rfl;exact(Or.inr rfl);refine(z8 (q4q rfl) rfl n_min DL.boot_min ?_);walk_at "A";exact(qa (pv 1));walk_at "A";exact(q3f rfl g_MOST_WARES);exact qg;exact rfl;walk_at "L";refine(qp ?_ ?_);refine(j7 ?_ (qq ?_) zf);refine(yr ?_);refine(xk ?_);refine(z8 (qaz rfl) rfl n_all DL.boot_all ?_);walk_at "A";refine(q06 ?_);refine(kf (N':=["ware","bound"]) (cap:=[none,some 2]) rfl (vk rfl rfl) (kg rfl) ?_ (fun _ _ _ _ _=>(zh qd1 rfl (Or.inl rfl) (.inr rfl))) (fun _ _ _ _ _=>q77) (fun _ _ _ _ _=>?_));refine(ky ?_);exact(qa (pv 0));refine(q20 ?_ (q4k ?_));refine(za c_10 b_10 hr (by decide) rfl ?_);walk_at "A";exact(qa (pv 0));exact qg;refine(q3c q13 ?_ ?_);exact(qa (pv 0));exact(qa (pv 1));exact qg;exact(qy vj);refine(qq ?_);refine(qy ?_);refine(z8 (qaz rfl) rfl n_all DL.boot_all ?_);walk_at "A";refine(q06 ?_);refine(kf (N':=["lower","higher"]) (cap:=[none,none]) rfl (vk rfl rfl) (q2r (x9 rfl (x9 rfl q1f))) ?_ (fun _ _ _ _ _=>(q23 rfl (jc (zh q68 rfl (Or.inl rfl) (.inr rfl)) (jc (zh q68 rfl (Or.inl rfl) (.inr rfl)) q10)))) (fun _ _ _ _ _=>q77) (fun _ _ _ _ _=>?_));refine(qga rfl n_zip ?_);walk_at "A";exact(qa (pv 0));walk_at "A";refine(qi6 ?_ (qi5 qi) qi4);exact(qa (pv 0));exact qg;refine(q3c q13 ?_ ?_);exact(qa (pv 0));exact(qa (pv 1));exact qg
theorem qgq{fa:Addr}{dV:Value}{fd:FuncData}(F:Fun2 K "is_set" "is_set" vt dV fa fd){a_is_number:Addr}{fd_is_number:FuncData}(c_10:Cal P w K mg base "is_number" 1 ["thing"] 1 j6 a_is_number fd_is_number)(b_10:Binds K fd_is_number ["thing"] [])(n_min:mg "min" = none)(n_all:mg "all" = none)(n_isinstance:mg "isinstance" = none)(n_tuple:mg "tuple" = none)(n_zip:mg "zip" = none)(g_MOST_WARES:∃t,mg "MOST_WARES" = some (.int 12 t)): FnOk P w K mg base CX0 2 fa fd ["thing","wares"] (spD K 2 q2c):=
 F.okn (k:=1) (n:=3) (ar:=2) (k1:=2) (u:=q44) qgp rfl rfl rfl fun cdv A outer s H E hr=>(by first|(with_reducible exact q98 c_10 b_10 n_min n_all n_isinstance n_tuple n_zip g_MOST_WARES hr)|exact q98 c_10 b_10 n_min n_all n_isinstance n_tuple n_zip g_MOST_WARES hr)
abbrev q0n:Stmt:=top 11
noncomputable def q6m:List Str:=["thing","wares"]
theorem qgr:(q6m).Nodup:=by decide +kernel
theorem qgs:FnScope q6m ["thing","wares"] (qc q0n):=⟨rfl,rfl,rfl,qgr,rfl,by decide +kernel,by decide +kernel⟩
noncomputable def q2d:FS:=(qu (sIf (bOr (yq (bT (q0j .tuple (eV 0)))) (z0 qar (qj v3 (qb (eV 0) qh)) (eC (.int 2)))) (zd (eC (.bl false))) zq) (zd (q05 (qj (qt 3 [] jo) (qb (eOp oIx (eV 0) (eC (.int 0))) (qb (eC (.int 1)) (qb (eC (.int 1000000000000)) qh)))) (qj (qt 2 [] q2c) (qb (eOp oIx (eV 0) (eC (.int 1))) (qb (eV 1) qh))))))
noncomputable def q2e:List D->Option D:=zx 2 q2d
theorem q99{fa:Addr}{cdv:Value}{A:Around}{outer:List Env}{s:Shared}{H:Hp}{E:XK}{a_is_within:Addr}{fd_is_within:FuncData}(c_13:Cal P w K mg base "is_within" 2 ["thing","lowest","highest"] 3 jo a_is_within fd_is_within)(b_13:Binds K fd_is_within ["thing","lowest","highest"] []){a_is_set:Addr}{fd_is_set:FuncData}(c_12:Cal P w K mg base "is_set" 2 ["thing","wares"] 2 q2c a_is_set fd_is_set)(b_12:Binds K fd_is_set ["thing","wares"] [])(n_isinstance:mg "isinstance" = none)(n_tuple:mg "tuple" = none)(n_len:mg "len" = none)(g_MOST_MANY:∃t,mg "MOST_MANY" = some (.int 1000000000000 t))(hr:Room 2 (A.deeper (envOfC "is_run" (qc q0n) s.heap.objs.size fa cdv))):
  PSs (z7 CX0 P w K mg base q6m "is_run" (qc q0n) fa cdv A outer s H E).nox (qr q0n) (tDS K q2d):=by
 unfold q2d;refine(qp ?_ ?_);refine(j7 ?_ (qq ?_) zf);refine(PW.pt (q5j ?_ (q4j ?_)));refine(yr ?_);refine(xk ?_);refine(q11 .tuple rfl n_isinstance rfl n_tuple DL.boot_tuple ?_);exact(qa (pv 0));refine(zi qfx ?_ qi);refine(z8 (kz) rfl n_len DL.xa ?_);walk_at "A";exact(qa (pv 0));exact qg;exact(qy vj);refine(qq ?_);refine(qy ?_);refine(q20 ?_ (q4k ?_));refine(za c_13 b_13 hr (by decide) rfl ?_);walk_at "A";refine(kh ?_ qi);exact(qa (pv 0));walk_at "A";exact qi;walk_at "A";exact(q3f rfl g_MOST_MANY);exact qg;refine(za c_12 b_12 hr (by decide) rfl ?_);walk_at "A";refine(kh ?_ qi);exact(qa (pv 0));walk_at "A";exact(qa (pv 1));exact qg
theorem qgt{fa:Addr}{dV:Value}{fd:FuncData}(F:Fun2 K "is_run" "is_run" q0n dV fa fd){a_is_within:Addr}{fd_is_within:FuncData}(c_13:Cal P w K mg base "is_within" 2 ["thing","lowest","highest"] 3 jo a_is_within fd_is_within)(b_13:Binds K fd_is_within ["thing","lowest","highest"] []){a_is_set:Addr}{fd_is_set:FuncData}(c_12:Cal P w K mg base "is_set" 2 ["thing","wares"] 2 q2c a_is_set fd_is_set)(b_12:Binds K fd_is_set ["thing","wares"] [])(n_isinstance:mg "isinstance" = none)(n_tuple:mg "tuple" = none)(n_len:mg "len" = none)(g_MOST_MANY:∃t,mg "MOST_MANY" = some (.int 1000000000000 t)): FnOk P w K mg base CX0 3 fa fd ["thing","wares"] (spD K 2 q2e):=
 F.okn (k:=2) (n:=2) (ar:=2) (k1:=3) (u:=q2d) qgs rfl rfl rfl fun cdv A outer s H E hr=>(by first|(with_reducible exact q99 c_13 b_13 c_12 b_12 n_isinstance n_tuple n_len g_MOST_MANY hr)|exact q99 c_13 b_13 c_12 b_12 n_isinstance n_tuple n_len g_MOST_MANY hr)
abbrev zl:Stmt:=q4x 28 3
noncomputable def kv:List Str:=["self","many","basket"]
theorem q53:(kv).Nodup:=by decide +kernel
theorem q54:FnScope kv ["self","many","basket"] (qc zl):=⟨rfl,rfl,rfl,q53,rfl,by decide +kernel,by decide +kernel⟩
noncomputable def v8:FS:=(sIf (yq (bT (qj (qt 2 [] q2e) (qb (vc (qb (eV 1) (qb (eV 2) qh))) (qb (q09 "Store" 0 "wares") qh))))) q14 zq)
noncomputable def zb:Flds->List D->Option (Flds×D):=vo 3 "Store" v8
theorem q55[Pin]{fa:Addr}{cdv:Value}{A:Around}{outer:List Env}{s:Shared}{H:Hp}{E:XK}{C_Store:Addr}(O_Store:ClsF K "Store" C_Store ["wares","window","runs"]){a_is_run:Addr}{fd_is_run:FuncData}(c_11:Cal P w K mg base "is_run" 3 ["thing","wares"] 2 q2e a_is_run fd_is_run)(b_11:Binds K fd_is_run ["thing","wares"] [])(hr:Room 3 (A.deeper (envOfC "Store.check_run" (qc zl) s.heap.objs.size fa cdv))):
  PSs (z7 CX0 P w K mg base kv "Store.check_run" (qc zl) fa cdv A outer s H E).nox (qr zl) (tDS K v8):=by
 unfold v8;refine(qq ?_);refine(j7 ?_ (qq q0k) zf);refine(yr ?_);refine(xk ?_);refine(za c_11 b_11 hr (by decide) rfl ?_);walk_at "A";refine(xw ?_);walk_at "A";exact(qa (pv 1));walk_at "A";exact(qa (pv 2));exact qg;walk_at "A";exact(w4 O_Store (by decide) (pv 0));exact qg
theorem q56{fa:Addr}{dV:Value}{fd:FuncData}(F:Fun2 K "check_run" "Store.check_run" zl dV fa fd){C_Store:Addr}(O_Store:ClsF K "Store" C_Store ["wares","window","runs"]){a_is_run:Addr}{fd_is_run:FuncData}(c_11:Cal P w K mg base "is_run" 3 ["thing","wares"] 2 q2e a_is_run fd_is_run)(b_11:Binds K fd_is_run ["thing","wares"] []): FnOk P w K mg base CX0 4 fa fd ["self","many","basket"] (wq K "Store" 2 zb):=
 F.okOB (c:="Store") (k:=3) (n:=3) (ar:=2) (k1:=4) (u:=v8) q54 rfl rfl rfl fun Pn cdv A outer s H E hr=>(by exact q55 O_Store c_11 b_11 hr)
abbrev vv:Stmt:=top 27
noncomputable def q6n:List Str:=["runs","number","chosen","gone","kept","left","many","basket","going"]
theorem nd_parted:(q6n).Nodup:=by decide +kernel
theorem qgu:FnScope q6n ["runs","number","chosen"] (qc vv):=⟨rfl,rfl,rfl,nd_parted,rfl,by decide +kernel,by decide +kernel⟩
noncomputable def q0u:FS:=(qu (zy 8 (eIf (bOr (z0 (oIs false) (eV 2) (eC .non)) (z0 oEq (eV 7) (eV 2))) (qj oMin (qb (eV 6) (qb (eV 5) qh))) (eC (.int 0)))) (qu (zy 5 (eOp oSub (eV 5) (eV 8))) (qu (sIf (z0 oGt (eV 8) (eC (.int 0))) (q4m 3 (vc (qb (eV 8) (qb (eV 7) qh)))) zq) (sIf (z0 oLt' (eV 8) (eV 6)) (q4m 4 (vc (qb (eOp oSub (eV 6) (eV 8)) (qb (eV 7) qh)))) zq))))
noncomputable def q45:FS:=(qu (q21 3 (wo qh)) (qu (q21 4 (wo qh)) (qu (zy 5 (eV 1)) (qu (q4n (yu (eV 0)) (xl 2 (z6 (bN 6) (z6 (bN 7) jx))) q0u) (q2x 4 (q2x 3 (zd (vc (qb (qj q08 (qb (eV 3) qh)) (qb (qj q08 (qb (eV 4) qh)) qh))))))))))
noncomputable def v7:List D->Option D:=zx 9 q45
theorem q9a{fa:Addr}{cdv:Value}{A:Around}{outer:List Env}{s:Shared}{H:Hp}{E:XK}(n_tuple:mg "tuple" = none)(n_min:mg "min" = none)(hr:Room 0 (A.deeper (envOfC "parted" (qc vv) s.heap.objs.size fa cdv))):
  PSs (z7 CX0 P w K mg base q6n "parted" (qc vv) fa cdv A outer s H E).nox (qr vv) (tDS K q45):=by
 unfold q45 q0u;refine(qp ?_ ?_);exact(q4l (i:=3) nd_parted rfl (Or.inl rfl) (q0z qg));refine(qp ?_ ?_);exact(q4l (i:=4) nd_parted rfl (Or.inl rfl) (q0z qg));refine(qp ?_ ?_);refine(j0 (i:=5) ?_ ?_ ?_ ?_ ?_ ?_);exact nd_parted;exact rfl;exact(Or.inl rfl);exact(qa (pv 1));exact rfl;walk_at "L";refine(qp ?_ ?_);refine(q75 g13 rfl ?_ (q23 rfl (jc (zh nd_parted rfl (Or.inl rfl) (.inl rfl)) (jc (zh nd_parted rfl (Or.inl rfl) (.inl rfl)) q10))) (qp ?_ ?_));refine(ky ?_);exact(qa (pv 0));refine(j0 (i:=8) ?_ ?_ ?_ ?_ ?_ ?_);exact nd_parted;exact rfl;exact(Or.inl rfl);refine(qjf ?_ ?_ qi);refine(PW.pt (q5j ?_ (q4j ?_)));refine(zi (qem rfl) ?_ q1x);exact(qa (pv 2));refine(zi (q0p hr.units) ?_ ?_);exact(qa (pv 7));exact(qa (pv 2));refine(z8 (q4q rfl) rfl n_min DL.boot_min ?_);walk_at "A";exact(qa (pv 6));walk_at "A";exact(qa (pv 5));exact qg;exact rfl;walk_at "L";refine(qp ?_ ?_);refine(qkk (i:=5) nd_parted rfl (Or.inl rfl) ?_);exact(qa (pv 8));refine(qp ?_ ?_);refine(j7 ?_ (qq ?_) zf);refine(zi q5h ?_ qi);exact(qa (pv 8));refine(q73 (pv 3) ?_);refine(xw ?_);walk_at "A";exact(qa (pv 8));walk_at "A";exact(qa (pv 7));exact qg;refine(qq ?_);refine(j7 ?_ (qq ?_) zf);refine(zi q13 ?_ ?_);exact(qa (pv 8));exact(qa (pv 6));refine(q73 (pv 4) ?_);refine(xw ?_);walk_at "A";refine(qs q3b ?_ ?_);exact(qa (pv 6));exact(qa (pv 8));walk_at "A";exact(qa (pv 7));exact qg;refine(qat 4 (qat 3 (qq ?_)));refine(qy ?_);refine(xw ?_);walk_at "A";refine(q2p (q3s) rfl n_tuple DL.boot_tuple ?_);walk_at "A";exact(qa (pv 3));exact qg;walk_at "A";refine(q2p (q3s) rfl n_tuple DL.boot_tuple ?_);walk_at "A";exact(qa (pv 4));exact qg;exact qg
theorem qgv{fa:Addr}{dV:Value}{fd:FuncData}(F:Fun2 K "parted" "parted" vv dV fa fd)(n_tuple:mg "tuple" = none)(n_min:mg "min" = none): FnOk P w K mg base CX0 1 fa fd ["runs","number","chosen"] (spD K 3 v7):=
 F.okn (k:=0) (n:=9) (ar:=3) (k1:=1) (u:=q45) qgu rfl rfl rfl fun cdv A outer s H E hr=>(by first|(with_reducible exact q9a n_tuple n_min hr)|exact q9a n_tuple n_min hr)
abbrev vh:Stmt:=top 25
noncomputable def q2f:List Str:=["runs"]
theorem q9x:(q2f).Nodup:=by decide +kernel
theorem q9y:FnScope q2f ["runs"] (qc vh):=⟨rfl,rfl,rfl,q9x,rfl,by decide +kernel,by decide +kernel⟩
theorem q7j:(["run"]:List Str).Nodup:=by decide +kernel
noncomputable def q0f:FS:=(zd (qj q4p (qb (eL (xp (yu (eV 0)) [none] (bN 0) q07 (eOp oIx (eV 0) (eC (.int 0))))) qh)))
noncomputable def j3:List D->Option D:=zx 1 q0f
theorem q4c{fa:Addr}{cdv:Value}{A:Around}{outer:List Env}{s:Shared}{H:Hp}{E:XK}(n_sum:mg "sum" = none)(hr:Room 0 (A.deeper (envOfC "baskets_of" (qc vh) s.heap.objs.size fa cdv))):
  PSs (z7 CX0 P w K mg base q2f "baskets_of" (qc vh) fa cdv A outer s H E).nox (qr vh) (tDS K q0f):=by
 unfold q0f;refine(qq ?_);refine(qy ?_);refine(z8 (q7b rfl) rfl n_sum DL.boot_sum ?_);walk_at "A";refine(q06 ?_);refine(kf (N':=["run"]) (cap:=[none]) rfl (vk rfl rfl) (kg rfl) ?_ (fun _ _ _ _ _=>(zh q7j rfl (Or.inl rfl) (.inr rfl))) (fun _ _ _ _ _=>q77) (fun _ _ _ _ _=>?_));refine(ky ?_);exact(qa (pv 0));refine(kh ?_ qi);exact(qa (pv 0));exact qg
theorem q9z{fa:Addr}{dV:Value}{fd:FuncData}(F:Fun2 K "baskets_of" "baskets_of" vh dV fa fd)(n_sum:mg "sum" = none): FnOk P w K mg base CX0 1 fa fd ["runs"] (spD K 1 j3):=
 F.okn (k:=0) (n:=1) (ar:=1) (k1:=1) (u:=q0f) q9y rfl rfl rfl fun cdv A outer s H E hr=>(by first|(with_reducible exact q4c n_sum hr)|exact q4c n_sum hr)
abbrev zu:Stmt:=q4x 28 4
noncomputable def wx:List Str:=["self","runs"]
theorem q5x:(wx).Nodup:=by decide +kernel
theorem q5y:FnScope wx ["self","runs"] (qc zu):=⟨rfl,rfl,rfl,q5x,rfl,by decide +kernel,by decide +kernel⟩
noncomputable def vw:FS:=(zd (eIf (z0 (oIs false) (q09 "Store" 0 "window") (eC .non)) (eC (.int 0)) (qj oMax (qb (eC (.int 0)) (qb (eOp oSub (qj (qt 1 [] j3) (qb (eV 1) qh)) (q09 "Store" 0 "window")) qh)))))
noncomputable def xm:Flds->List D->Option (Flds×D):=vo 2 "Store" vw
theorem q5z[Pin]{fa:Addr}{cdv:Value}{A:Around}{outer:List Env}{s:Shared}{H:Hp}{E:XK}{C_Store:Addr}(O_Store:ClsF K "Store" C_Store ["wares","window","runs"]){a_baskets_of:Addr}{fd_baskets_of:FuncData}(c_8:Cal P w K mg base "baskets_of" 1 ["runs"] 1 j3 a_baskets_of fd_baskets_of)(b_8:Binds K fd_baskets_of ["runs"] [])(n_max:mg "max" = none)(hr:Room 1 (A.deeper (envOfC "Store.too_many" (qc zu) s.heap.objs.size fa cdv))):
  PSs (z7 CX0 P w K mg base wx "Store.too_many" (qc zu) fa cdv A outer s H E).nox (qr zu) (tDS K vw):=by
 unfold vw;refine(qq ?_);refine(qy ?_);refine(qjf ?_ qi ?_);refine(zi (qem rfl) ?_ q1x);exact(w4 O_Store (by decide) (pv 0));refine(z8 (qb1 rfl) rfl n_max DL.boot_max ?_);walk_at "A";exact qi;walk_at "A";refine(qs q3b ?_ ?_);refine(za c_8 b_8 hr (by decide) rfl ?_);walk_at "A";exact(qa (pv 1));exact qg;exact(w4 O_Store (by decide) (pv 0));exact qg
theorem q60{fa:Addr}{dV:Value}{fd:FuncData}(F:Fun2 K "too_many" "Store.too_many" zu dV fa fd){C_Store:Addr}(O_Store:ClsF K "Store" C_Store ["wares","window","runs"]){a_baskets_of:Addr}{fd_baskets_of:FuncData}(c_8:Cal P w K mg base "baskets_of" 1 ["runs"] 1 j3 a_baskets_of fd_baskets_of)(b_8:Binds K fd_baskets_of ["runs"] [])(n_max:mg "max" = none): FnOk P w K mg base CX0 2 fa fd ["self","runs"] (wq K "Store" 1 xm):=
 F.okOB (c:="Store") (k:=1) (n:=2) (ar:=1) (k1:=2) (u:=vw) q5y rfl rfl rfl fun Pn cdv A outer s H E hr=>(by exact q5z O_Store c_8 b_8 n_max hr)
abbrev jr:Stmt:=q4x 28 1
noncomputable def q33:List Str:=["self","many","basket","runs","halves"]
theorem q2g:(q33).Nodup:=by decide +kernel
theorem qc6:FnScope q33 ["self","many","basket"] (qc jr):=⟨rfl,rfl,rfl,q2g,rfl,by decide +kernel,by decide +kernel⟩
noncomputable def q0v:FS:=(qu (q25 (yk "Store" "check_run" 0 2 zb (qb (eV 1) (qb (eV 2) qh)))) (qu (sIf (z0 oGe (qj v3 (qb (q09 "Store" 0 "runs") qh)) (eC (.int 200))) q14 zq) (qu (zy 3 (eOp jy (q09 "Store" 0 "runs") (vc (qb (vc (qb (eV 1) (qb (eV 2) qh))) qh)))) (qu (qa8 4 (q0a (qt 3 [.non] v7) (k8 (mP (eV 3)) (k8 (yk "Store" "too_many" 0 1 xm (qb (eV 3) qh)) (amP qh))))) (qu (q2s "Store" 0 "runs" (eOp oIx (eV 4) (eC (.int 1)))) (zd (eOp oIx (eV 4) (eC (.int 0)))))))))
noncomputable def yb:Flds->List D->Option (Flds×D):=vo 5 "Store" q0v
theorem qc7[Pin]{fa:Addr}{cdv:Value}{A:Around}{outer:List Env}{s:Shared}{H:Hp}{E:XK}{C_Store:Addr}(O_Store:ClsF K "Store" C_Store ["wares","window","runs"]){a_Store_check_run:Addr}{fd_Store_check_run:FuncData}(c_2:CalF P w K mg base "Store" "check_run" C_Store 4 ["self","many","basket"] 2 zb a_Store_check_run fd_Store_check_run)(b_2:Binds K fd_Store_check_run ["self","many","basket"] []){a_parted:Addr}{fd_parted:FuncData}(c_26:Cal P w K mg base "parted" 1 ["runs","number","chosen"] 3 v7 a_parted fd_parted){dvs_parted_1:List V}{dv_l_parted_1:List Value}(bd_parted_1:Binds K fd_parted ["runs","number","chosen"] dv_l_parted_1)(dv_parted_1:Vals dvs_parted_1 dv_l_parted_1)(dd_parted_1:∀ {H:Hp},RepL K H [.non] dvs_parted_1){a_Store_too_many:Addr}{fd_Store_too_many:FuncData}(c_7:CalF P w K mg base "Store" "too_many" C_Store 2 ["self","runs"] 1 xm a_Store_too_many fd_Store_too_many)(b_7:Binds K fd_Store_too_many ["self","runs"] [])(n_len:mg "len" = none)(g_MOST_RUNS:∃t,mg "MOST_RUNS" = some (.int 200 t))(hr:Room 4 (A.deeper (envOfC "Store.put" (qc jr) s.heap.objs.size fa cdv))):
  PSs (z7 CX0 P w K mg base q33 "Store.put" (qc jr) fa cdv A outer s H E).nox (qr jr) (tDS K q0v):=by
 unfold q0v;refine(qp ?_ ?_);refine(q3v ?_);refine(q15 O_Store c_2 b_2 hr (by decide) (pv 0) ?_);walk_at "A";exact(qa (pv 1));walk_at "A";exact(qa (pv 2));exact qg;refine(qp ?_ ?_);refine(j7 ?_ (qq q0k) zf);refine(zi qje ?_ ?_);refine(z8 (kz) rfl n_len DL.xa ?_);walk_at "A";exact(w4 O_Store (by decide) (pv 0));exact qg;exact(q3f rfl g_MOST_RUNS);refine(qp ?_ ?_);refine(j0 (i:=3) ?_ ?_ ?_ ?_ ?_ ?_);exact q2g;exact rfl;exact(Or.inl rfl);refine(qs xi ?_ ?_);exact(w4 O_Store (by decide) (pv 0));refine(xw ?_);walk_at "A";refine(xw ?_);walk_at "A";exact(qa (pv 1));walk_at "A";exact(qa (pv 2));exact qg;exact qg;exact rfl;walk_at "L";refine(qp ?_ ?_);refine(qkm (i:=4) q2g rfl (Or.inl rfl) ?_);refine(qkl c_26 bd_parted_1 dv_parted_1 (fun _=>dd_parted_1) hr (by decide) rfl (q0m ?_ ?_));refine(qdr ?_);exact(qa (pv 3));refine(q0m ?_ ?_);refine(q15 O_Store c_7 b_7 hr (by decide) (pv 0) ?_);walk_at "A";exact(qa (pv 3));exact qg;exact(q1m qg);refine(qp ?_ ?_);refine(q4s O_Store (by decide) (pv 0) ?_);refine(kh ?_ qi);exact(qa (pv 4));refine(qq ?_);refine(qy ?_);refine(kh ?_ qi);exact(qa (pv 4))
theorem qc8{fa:Addr}{dV:Value}{fd:FuncData}(F:Fun2 K "put" "Store.put" jr dV fa fd){C_Store:Addr}(O_Store:ClsF K "Store" C_Store ["wares","window","runs"]){a_Store_check_run:Addr}{fd_Store_check_run:FuncData}(c_2:CalF P w K mg base "Store" "check_run" C_Store 4 ["self","many","basket"] 2 zb a_Store_check_run fd_Store_check_run)(b_2:Binds K fd_Store_check_run ["self","many","basket"] []){a_parted:Addr}{fd_parted:FuncData}(c_26:Cal P w K mg base "parted" 1 ["runs","number","chosen"] 3 v7 a_parted fd_parted){dvs_parted_1:List V}{dv_l_parted_1:List Value}(bd_parted_1:Binds K fd_parted ["runs","number","chosen"] dv_l_parted_1)(dv_parted_1:Vals dvs_parted_1 dv_l_parted_1)(dd_parted_1:∀ {H:Hp},RepL K H [.non] dvs_parted_1){a_Store_too_many:Addr}{fd_Store_too_many:FuncData}(c_7:CalF P w K mg base "Store" "too_many" C_Store 2 ["self","runs"] 1 xm a_Store_too_many fd_Store_too_many)(b_7:Binds K fd_Store_too_many ["self","runs"] [])(n_len:mg "len" = none)(g_MOST_RUNS:∃t,mg "MOST_RUNS" = some (.int 200 t)): FnOk P w K mg base CX0 5 fa fd ["self","many","basket"] (wq K "Store" 2 yb):=
 F.okOB (c:="Store") (k:=4) (n:=5) (ar:=2) (k1:=5) (u:=q0v) qc6 rfl rfl rfl fun Pn cdv A outer s H E hr=>(by exact qc7 O_Store c_2 b_2 c_26 bd_parted_1 dv_parted_1 dd_parted_1 c_7 b_7 n_len g_MOST_RUNS hr)
abbrev yc:Stmt:=top 26
noncomputable def q34:List Str:=["runs","basket"]
theorem qc9:(q34).Nodup:=by decide +kernel
theorem qca:FnScope q34 ["runs","basket"] (qc yc):=⟨rfl,rfl,rfl,qc9,rfl,by decide +kernel,by decide +kernel⟩
theorem q8f:(["run","basket"]:List Str).Nodup:=by decide +kernel
noncomputable def q0w:FS:=(zd (eL (xp (yu (eV 0)) [none,some 1] (bN 0) (z0 oEq (eOp oIx (eV 0) (eC (.int 1))) (eV 1)) (eV 0))))
noncomputable def xg:List D->Option D:=zx 2 q0w
theorem q57{fa:Addr}{cdv:Value}{A:Around}{outer:List Env}{s:Shared}{H:Hp}{E:XK}(hr:Room 0 (A.deeper (envOfC "runs_like" (qc yc) s.heap.objs.size fa cdv))):
  PSs (z7 CX0 P w K mg base q34 "runs_like" (qc yc) fa cdv A outer s H E).nox (qr yc) (tDS K q0w):=by
 unfold q0w;refine(qq ?_);refine(qy ?_);refine(q06 ?_);refine(kf (N':=["run","basket"]) (cap:=[none,some 1]) rfl (vk rfl rfl) (kg rfl) ?_ (fun _ _ _ _ _=>(zh q8f rfl (Or.inl rfl) (.inr rfl))) (fun _ _ _ _ _=>(q3d ?_)) (fun _ _ _ _ _=>?_));refine(ky ?_);exact(qa (pv 0));refine(zi (q0p hr.units) ?_ ?_);refine(kh ?_ qi);exact(qa (pv 0));exact(qa (pv 1));exact(qa (pv 0))
theorem qcb{fa:Addr}{dV:Value}{fd:FuncData}(F:Fun2 K "runs_like" "runs_like" yc dV fa fd): FnOk P w K mg base CX0 1 fa fd ["runs","basket"] (spD K 2 xg):=
 F.okn (k:=0) (n:=2) (ar:=2) (k1:=1) (u:=q0w) qca rfl rfl rfl fun cdv A outer s H E hr=>(by first|(with_reducible exact q57  hr)|exact q57  hr)
abbrev zm:Stmt:=q4x 28 2
noncomputable def q0g:List Str:=["self","many","basket","there"]
theorem q1b:(q0g).Nodup:=by decide +kernel
theorem q4d:FnScope q0g ["self","many","basket"] (qc zm):=⟨rfl,rfl,rfl,q1b,rfl,by decide +kernel,by decide +kernel⟩
noncomputable def q0h:FS:=(qu (q25 (yk "Store" "check_run" 0 2 zb (qb (eV 1) (qb (eV 2) qh)))) (qu (zy 3 (qj (qt 1 [] j3) (qb (qj (qt 2 [] xg) (qb (q09 "Store" 0 "runs") (qb (eV 2) qh))) qh))) (qu (sIf (z0 oLt' (eV 3) (eV 1)) q14 zq) (q2s "Store" 0 "runs" (eOp oIx (qj (qt 3 [] v7) (qb (q09 "Store" 0 "runs") (qb (eV 1) (qb (eV 2) qh)))) (eC (.int 1)))))))
noncomputable def ji:Flds->List D->Option (Flds×D):=vo 4 "Store" q0h
theorem qa0[Pin]{fa:Addr}{cdv:Value}{A:Around}{outer:List Env}{s:Shared}{H:Hp}{E:XK}{C_Store:Addr}(O_Store:ClsF K "Store" C_Store ["wares","window","runs"]){a_Store_check_run:Addr}{fd_Store_check_run:FuncData}(c_2:CalF P w K mg base "Store" "check_run" C_Store 4 ["self","many","basket"] 2 zb a_Store_check_run fd_Store_check_run)(b_2:Binds K fd_Store_check_run ["self","many","basket"] []){a_baskets_of:Addr}{fd_baskets_of:FuncData}(c_8:Cal P w K mg base "baskets_of" 1 ["runs"] 1 j3 a_baskets_of fd_baskets_of)(b_8:Binds K fd_baskets_of ["runs"] []){a_runs_like:Addr}{fd_runs_like:FuncData}(c_27:Cal P w K mg base "runs_like" 1 ["runs","basket"] 2 xg a_runs_like fd_runs_like)(b_27:Binds K fd_runs_like ["runs","basket"] []){a_parted:Addr}{fd_parted:FuncData}(c_26:Cal P w K mg base "parted" 1 ["runs","number","chosen"] 3 v7 a_parted fd_parted)(b_26:Binds K fd_parted ["runs","number","chosen"] [])(hr:Room 4 (A.deeper (envOfC "Store.take" (qc zm) s.heap.objs.size fa cdv))):
  PSs (z7 CX0 P w K mg base q0g "Store.take" (qc zm) fa cdv A outer s H E).nox (qr zm) (tDS K q0h):=by
 unfold q0h;refine(qp ?_ ?_);refine(q3v ?_);refine(q15 O_Store c_2 b_2 hr (by decide) (pv 0) ?_);walk_at "A";exact(qa (pv 1));walk_at "A";exact(qa (pv 2));exact qg;refine(qp ?_ ?_);refine(j0 (i:=3) ?_ ?_ ?_ ?_ ?_ ?_);exact q1b;exact rfl;exact(Or.inl rfl);refine(za c_8 b_8 hr (by decide) rfl ?_);walk_at "A";refine(za c_27 b_27 hr (by decide) rfl ?_);walk_at "A";exact(w4 O_Store (by decide) (pv 0));walk_at "A";exact(qa (pv 2));exact qg;exact qg;exact rfl;walk_at "L";refine(qp ?_ ?_);refine(j7 ?_ (qq q0k) zf);refine(zi q13 ?_ ?_);exact(qa (pv 3));exact(qa (pv 1));refine(qq ?_);refine(q4s O_Store (by decide) (pv 0) ?_);refine(kh ?_ qi);refine(za c_26 b_26 hr (by decide) rfl ?_);walk_at "A";exact(w4 O_Store (by decide) (pv 0));walk_at "A";exact(qa (pv 1));walk_at "A";exact(qa (pv 2));exact qg
theorem qa1{fa:Addr}{dV:Value}{fd:FuncData}(F:Fun2 K "take" "Store.take" zm dV fa fd){C_Store:Addr}(O_Store:ClsF K "Store" C_Store ["wares","window","runs"]){a_Store_check_run:Addr}{fd_Store_check_run:FuncData}(c_2:CalF P w K mg base "Store" "check_run" C_Store 4 ["self","many","basket"] 2 zb a_Store_check_run fd_Store_check_run)(b_2:Binds K fd_Store_check_run ["self","many","basket"] []){a_baskets_of:Addr}{fd_baskets_of:FuncData}(c_8:Cal P w K mg base "baskets_of" 1 ["runs"] 1 j3 a_baskets_of fd_baskets_of)(b_8:Binds K fd_baskets_of ["runs"] []){a_runs_like:Addr}{fd_runs_like:FuncData}(c_27:Cal P w K mg base "runs_like" 1 ["runs","basket"] 2 xg a_runs_like fd_runs_like)(b_27:Binds K fd_runs_like ["runs","basket"] []){a_parted:Addr}{fd_parted:FuncData}(c_26:Cal P w K mg base "parted" 1 ["runs","number","chosen"] 3 v7 a_parted fd_parted)(b_26:Binds K fd_parted ["runs","number","chosen"] []): FnOk P w K mg base CX0 5 fa fd ["self","many","basket"] (wq K "Store" 2 ji):=
 F.okOB (c:="Store") (k:=4) (n:=4) (ar:=2) (k1:=5) (u:=q0h) q4d rfl rfl rfl fun Pn cdv A outer s H E hr=>(by exact qa0 O_Store c_2 b_2 c_8 b_8 c_27 b_27 c_26 b_26 hr)
noncomputable def kb:FX:=(q3w (q25 (yk "Store" "check_run" 0 2 zb (qb (eV 1) (qb (eV 2) qh)))) q16 (q3w (zy 3 (qj (qt 1 [] j3) (qb (qj (qt 2 [] xg) (qb (q09 "Store" 0 "runs") (qb (eV 2) qh))) qh))) q16 (q3w (sIf (z0 oLt' (eV 3) (eV 1)) q14 zq) (xIf (z0 oLt' (eV 3) (eV 1)) (q86 "NotThere" "there" (eV 3)) q16) q16)))
noncomputable def x_Store_take:Flds->List D->Option (XV×Flds):=fun fs ds=>(kb (q0q 4 "Store" fs ds)).bind fun p=>(vm 0 p.2).bind fun o=>if o.1="Store" then some (p.1,o.2) else none
theorem qa2[Pin]{fa:Addr}{cdv:Value}{A:Around}{outer:List Env}{s:Shared}{H:Hp}{E:XK}{C_Store:Addr}(O_Store:ClsF K "Store" C_Store ["wares","window","runs"]){a_Store_check_run:Addr}{fd_Store_check_run:FuncData}(c_2:CalF P w K mg base "Store" "check_run" C_Store 4 ["self","many","basket"] 2 zb a_Store_check_run fd_Store_check_run)(b_2:Binds K fd_Store_check_run ["self","many","basket"] []){a_baskets_of:Addr}{fd_baskets_of:FuncData}(c_8:Cal P w K mg base "baskets_of" 1 ["runs"] 1 j3 a_baskets_of fd_baskets_of)(b_8:Binds K fd_baskets_of ["runs"] []){a_runs_like:Addr}{fd_runs_like:FuncData}(c_27:Cal P w K mg base "runs_like" 1 ["runs","basket"] 2 xg a_runs_like fd_runs_like)(b_27:Binds K fd_runs_like ["runs","basket"] []){a_parted:Addr}{fd_parted:FuncData}(c_26:Cal P w K mg base "parted" 1 ["runs","number","chosen"] 3 v7 a_parted fd_parted)(b_26:Binds K fd_parted ["runs","number","chosen"] []){C_NotThere fI_NotThere:Addr}{fdI_NotThere:FuncData}(ei_NotThere:w6 K C_NotThere fI_NotThere=true)(gI_NotThere:FnOk P w K mg base CX0 1 fI_NotThere fdI_NotThere ["self","there"] (spI C_NotThere "there"))(bI_NotThere:Binds K fdI_NotThere ["self","there"] [])(tI_NotThere:PySem.W.typeIn K (.ref fI_NotThere)=some (.type "function"))(kp_NotThere:PySem.W.keepIn K (.ref C_NotThere)=true)(m_NotThere:mg "NotThere" = some (.ref C_NotThere))(ns_NotThere:PySem.W.nsIn K mainGlobals "NotThere" = some (some (.ref C_NotThere)))(hr:Room 4 (A.deeper (envOfC "Store.take" (qc zm) s.heap.objs.size fa cdv))):
  PSs (z7 (CXR P w) P w K mg base q0g "Store.take" (qc zm) fa cdv A outer s H E) (qr zm) (tXS K kb E):=by
 unfold kb;refine(qbo (PS.nox ?_) qbn (qbo (PS.nox ?_) qbn (qbo (PS.nox ?_) (qov (PT.nox ?_) (qn5 (qgo ei_NotThere gI_NotThere bI_NotThere tI_NotThere kp_NotThere hr (by decide) rfl m_NotThere ns_NotThere ?_)) q95) q95)));refine(q3v ?_);refine(q15 O_Store c_2 b_2 hr (by decide) (pv 0) ?_);walk_at "A";exact(qa (pv 1));walk_at "A";exact(qa (pv 2));exact qg;refine(j0 (i:=3) ?_ ?_ ?_ ?_ ?_ ?_);exact q1b;exact rfl;exact(Or.inl rfl);refine(za c_8 b_8 hr (by decide) rfl ?_);walk_at "A";refine(za c_27 b_27 hr (by decide) rfl ?_);walk_at "A";exact(w4 O_Store (by decide) (pv 0));walk_at "A";exact(qa (pv 2));exact qg;exact qg;exact rfl;walk_at "L";refine(j7 ?_ (qq q0k) zf);refine(zi q13 ?_ ?_);exact(qa (pv 3));exact(qa (pv 1));refine(zi q13 ?_ ?_);exact(qa (pv 3));exact(qa (pv 1));exact(qa (pv 3))
theorem q8g{fa:Addr}{dV:Value}{fd:FuncData}(F:Fun2 K "take" "Store.take" zm dV fa fd){C_Store:Addr}(O_Store:ClsF K "Store" C_Store ["wares","window","runs"]){a_Store_check_run:Addr}{fd_Store_check_run:FuncData}(c_2:CalF P w K mg base "Store" "check_run" C_Store 4 ["self","many","basket"] 2 zb a_Store_check_run fd_Store_check_run)(b_2:Binds K fd_Store_check_run ["self","many","basket"] []){a_baskets_of:Addr}{fd_baskets_of:FuncData}(c_8:Cal P w K mg base "baskets_of" 1 ["runs"] 1 j3 a_baskets_of fd_baskets_of)(b_8:Binds K fd_baskets_of ["runs"] []){a_runs_like:Addr}{fd_runs_like:FuncData}(c_27:Cal P w K mg base "runs_like" 1 ["runs","basket"] 2 xg a_runs_like fd_runs_like)(b_27:Binds K fd_runs_like ["runs","basket"] []){a_parted:Addr}{fd_parted:FuncData}(c_26:Cal P w K mg base "parted" 1 ["runs","number","chosen"] 3 v7 a_parted fd_parted)(b_26:Binds K fd_parted ["runs","number","chosen"] []){C_NotThere fI_NotThere:Addr}{fdI_NotThere:FuncData}(ei_NotThere:w6 K C_NotThere fI_NotThere=true)(gI_NotThere:FnOk P w K mg base CX0 1 fI_NotThere fdI_NotThere ["self","there"] (spI C_NotThere "there"))(bI_NotThere:Binds K fdI_NotThere ["self","there"] [])(tI_NotThere:PySem.W.typeIn K (.ref fI_NotThere)=some (.type "function"))(kp_NotThere:PySem.W.keepIn K (.ref C_NotThere)=true)(m_NotThere:mg "NotThere" = some (.ref C_NotThere))(ns_NotThere:PySem.W.nsIn K mainGlobals "NotThere" = some (some (.ref C_NotThere))): FnOk P w K mg base (CXR P w) 5 fa fd ["self","many","basket"] (q85 K "Store" 2 x_Store_take):=
 qgk (c:="Store") (k:=4) (n:=4) (v:=kb) F q4d rfl rfl rfl fun Pn cdv A outer s H E hr=>qa2 O_Store c_2 b_2 c_8 b_8 c_27 b_27 c_26 b_26 ei_NotThere gI_NotThere bI_NotThere tI_NotThere kp_NotThere m_NotThere ns_NotThere hr
abbrev ye:Stmt:=top 37
noncomputable def q35:List Str:=["_law_runs","_law_many","_law_basket","_law_kept","_law_own","_law_other","_law_going"]
theorem xn:(q35).Nodup:=by decide +kernel
theorem qcc:FnScope q35 ["_law_runs","_law_many","_law_basket"] (qc ye):=⟨rfl,rfl,rfl,xn,rfl,by decide +kernel,by decide +kernel⟩
noncomputable def kn:FS:=(qu (zy 6 (eC (.int 0))) (qu (sIf (z0 oEq (eV 5) (eV 2)) (zy 6 (qj oMin (qb (eV 4) (qb (eV 1) qh)))) zq) (qu (zy 1 (eOp oSub (eV 1) (eV 6))) (sIf (z0 oGt (eV 4) (eV 6)) (q4m 3 (vc (qb (eOp oSub (eV 4) (eV 6)) (qb (eV 5) qh)))) zq))))
noncomputable def yf:FS:=(qu (q21 3 (wo qh)) (qu (q4n (yu (eV 0)) (xl 2 (z6 (bN 4) (z6 (bN 5) jx))) kn) zq))
noncomputable def yg:List D->Option (List D):=runN 7 yf 3
theorem qcd{fa:Addr}{cdv:Value}{A:Around}{outer:List Env}{s:Shared}{H:Hp}{E:XK}(n_min:mg "min" = none)(hr:Room 0 (A.deeper (envOfC "_law_taken" (qc ye) s.heap.objs.size fa cdv))):
  PSs (z7 CX0 P w K mg base q35 "_law_taken" (qc ye) fa cdv A outer s H E).nox (qr ye) (tN K yf 3):=by
 unfold yf kn;refine(qdv ?_ ?_);exact(q4l (i:=3) xn rfl (Or.inl rfl) (q0z qg));refine(qdv ?_ ?_);refine(q75 g13 rfl ?_ (q23 rfl (jc (zh xn rfl (Or.inl rfl) (.inl rfl)) (jc (zh xn rfl (Or.inl rfl) (.inl rfl)) q10))) (qp ?_ ?_));refine(ky ?_);exact(qa (pv 0));refine(j0 (i:=6) ?_ ?_ ?_ qi ?_ ?_);exact xn;exact rfl;exact(Or.inl rfl);exact rfl;walk_at "L";refine(qp ?_ ?_);refine(j7 ?_ (qq ?_) zf);refine(zi (q0p hr.units) ?_ ?_);exact(qa (pv 5));exact(qa (pv 2));refine(j0 (i:=6) ?_ ?_ ?_ ?_ ?_ ?_);exact xn;exact rfl;exact(Or.inl rfl);refine(z8 (q4q rfl) rfl n_min DL.boot_min ?_);walk_at "A";exact(qa (pv 4));walk_at "A";exact(qa (pv 1));exact qg;exact rfl;walk_at "L";refine(qp ?_ ?_);refine(j0 (i:=1) ?_ ?_ ?_ ?_ ?_ ?_);exact xn;exact rfl;exact(Or.inl rfl);refine(qs q3b ?_ ?_);exact(qa (pv 1));exact(qa (pv 6));exact rfl;walk_at "L";refine(qq ?_);refine(j7 ?_ (qq ?_) zf);refine(zi q5h ?_ ?_);exact(qa (pv 4));exact(qa (pv 6));refine(q73 (pv 3) ?_);refine(xw ?_);walk_at "A";refine(qs q3b ?_ ?_);exact(qa (pv 4));exact(qa (pv 6));walk_at "A";exact(qa (pv 5));exact qg;exact(qnd (pv 3))
theorem qce{fa:Addr}{dV:Value}{fd:FuncData}(F:Fun2 K "_law_taken" "_law_taken" ye dV fa fd)(n_min:mg "min" = none): FnOk P w K mg base CX0 1 fa fd ["_law_runs","_law_many","_law_basket"] (spN K 3 yg):=
 F.okN (k:=0) (n:=7) (ar:=3) (k1:=1) (i:=3) (u:=yf) qcc rfl rfl rfl fun cdv A outer s H E hr=>(by exact qcd n_min hr)
abbrev xu:Stmt:=top 39
noncomputable def q1c:List Str:=["_law_store","_law_many","_law_basket","_law_there_here","_law_kept","error"]
theorem ko:(q1c).Nodup:=by decide +kernel
theorem q8h:FnScope q1c ["_law_store","_law_many","_law_basket","_law_there_here"] (qc xu):=⟨rfl,rfl,rfl,ko,rfl,by decide +kernel,by decide +kernel⟩
noncomputable def wk:FS:=(qu (zy 4 (eC .non)) (qu (qaa (q25 (yk "Store" "take" 0 2 ji (qb (eV 1) (qb (eV 2) qh)))) (qa9 "Store" "take" 0 2 x_Store_take (qb (eV 1) (qb (eV 2) qh))) ["NotThere"] (qpr [("NotThere",(sAs 5 "NotThere" (zy 4 (eV 5))))])) (qu (sIf (bOr (z0 (oIs false) (eV 4) (eC .non)) (bOr (yq (bT (eUn (isX "NotThere" true) (eV 4)))) (yq (bT (eUn (isX "NotThere" true) (eV 4)))))) (zd (eC (.bl false))) zq) (qu (sIf (bOr (bT (eUn (isX "NotThere" false) (eV 4))) (bT (eUn (isX "NotThere" false) (eV 4)))) (zd (eC (.bl false))) zq) (zd (qj (qt 2 [] zt) (qb (eXF "NotThere" "there" (eV 4)) (qb (eV 3) qh))))))))
noncomputable def xv:Flds->List D->Option (Flds×D):=vo 6 "Store" wk
theorem q8i[Pin]{fa:Addr}{cdv:Value}{A:Around}{outer:List Env}{s:Shared}{H:Hp}{E:XK}{C_Store:Addr}(O_Store:ClsF K "Store" C_Store ["wares","window","runs"]){a_Store_take:Addr}{fd_Store_take:FuncData}(c_6:CalF P w K mg base "Store" "take" C_Store 5 ["self","many","basket"] 2 ji a_Store_take fd_Store_take)(b_6:Binds K fd_Store_take ["self","many","basket"] []){a__law_same:Addr}{fd__law_same:FuncData}(c_21:Cal P w K mg base "_law_same" 17 ["_law_found","_law_due"] 2 zt a__law_same fd__law_same)(b_21:Binds K fd__law_same ["_law_found","_law_due"] []){C_NotThere:Addr}(ns_NotThere:PySem.W.nsIn K mainGlobals "NotThere" = some (some (.ref C_NotThere)))(cx_NotThere:q7v K C_NotThere)(m_NotThere:mg "NotThere" = some (.ref C_NotThere))(tp_NotThere:PySem.W.typeIn K (.ref C_NotThere)=some (.type "type"))(mr_NotThere_NotThere:PySem.W.mroIn K C_NotThere (.ref C_NotThere)=some true)(gr_Store_take:FnOk P w K mg base (CXR P w) 5 a_Store_take fd_Store_take ["self","many","basket"] (q85 K "Store" 2 x_Store_take))(ci_NotThere:ClsI K C_NotThere "there"){C_NoRun:Addr}(m_NoRun:mg "NoRun" = some (.ref C_NoRun)){C_NoShare:Addr}(m_NoShare:mg "NoShare" = some (.ref C_NoShare)){C_NoStore:Addr}(m_NoStore:mg "NoStore" = some (.ref C_NoStore)){C_NoText:Addr}(m_NoText:mg "NoText" = some (.ref C_NoText))(ka_NotThere_NoRun_NoShare_NoStore_NoText:PySem.W.kitAny K (.ref C_NotThere) ([C_NoRun,C_NoShare,C_NoStore,C_NoText].map Value.ref)=some false){C_NoTree:Addr}(m_NoTree:mg "NoTree" = some (.ref C_NoTree)){C_TooGreat:Addr}(m_TooGreat:mg "TooGreat" = some (.ref C_TooGreat))(ka_NotThere_NoTree_TooGreat:PySem.W.kitAny K (.ref C_NotThere) ([C_NoTree,C_TooGreat].map Value.ref)=some false){C_OftenError:Addr}(m_OftenError:mg "OftenError" = some (.ref C_OftenError))(kt_NotThere_OftenError:PySem.W.kitOne K (.ref C_NotThere) (.ref C_OftenError)=some true)(kt_NotThere_ValueError:PySem.W.kitOne K (.ref C_NotThere) (.type "ValueError")=some true)(n_isinstance:mg "isinstance" = none)(n_ValueError:mg "ValueError" = none)(hr:Room 17 (A.deeper (envOfC "_law_refused" (qc xu) s.heap.objs.size fa cdv))):
  PSs (z7 CX0 P w K mg base q1c "_law_refused" (qc xu) fa cdv A outer s H E).nox (qr xu) (tDS K wk):=by
 unfold wk;refine(qp ?_ ?_);refine(j0 (i:=4) ?_ ?_ ?_ q1x ?_ ?_);exact ko;exact rfl;exact(Or.inl rfl);exact rfl;walk_at "L";refine(qp ?_ ?_);refine(qku ⟨rfl,rfl⟩ ?_ ?_ ?_ ?_);intro pins σ0 Ex;refine PSs.nox ?_;refine(qq ?_);refine(q3v ?_);refine(q15 O_Store c_6 b_6 hr (by decide) (pv 0) ?_);walk_at "A";exact(qa (pv 1));walk_at "A";exact(qa (pv 2));exact qg;intro pins σ0 Ex;refine(qio (qkr (qkt O_Store gr_Store_take c_6.me b_6 hr (by decide) (pv 0) ?_)));walk_at "A";exact(qa (pv 1));walk_at "A";exact(qa (pv 2));exact qg;intro y C hy hn;simp only [mf,g0r,uk] at hy;subst hy;cases ns_NotThere.symm.trans hn;refine(qox (i:=5) cx_NotThere.1 tp_NotThere mr_NotThere_NotThere ns_NotThere cx_NotThere rfl m_NotThere ko rfl rfl ?_);intro a;refine(qq ?_);refine(j0 (i:=4) ?_ ?_ ?_ ?_ ?_ ?_);exact ko;exact rfl;exact(Or.inl rfl);exact(qa (pv 5));exact rfl;walk_at "L";intro y hy;simp only [mf,g0r,uk] at hy;subst hy;exact⟨_,ns_NotThere⟩;refine(qp ?_ ?_);refine(j7 ?_ (qq ?_) zf);refine(PW.pt (q5j ?_ (q5j ?_ (q4j ?_))));refine(zi (qem rfl) ?_ q1x);exact(qa (pv 4));refine(yr ?_);refine(xk ?_);refine(qkh ns_NotThere kt_NotThere_OftenError rfl n_isinstance rfl m_OftenError ?_);exact(qa (pv 4));refine(yr ?_);refine(xk ?_);refine(qki ns_NotThere kt_NotThere_ValueError rfl n_isinstance rfl n_ValueError PyProof.Rows.Boot.«ValueError» ?_);exact(qa (pv 4));exact(qy vj);refine(qp ?_ ?_);refine(j7 ?_ (qq ?_) zf);refine(PW.pt (q5j ?_ (q4j ?_)));refine(xk ?_);refine(qdq (Cs:=[C_NoRun,C_NoShare,C_NoStore,C_NoText]) ns_NotThere ka_NotThere_NoRun_NoShare_NoStore_NoText rfl n_isinstance (show 4<=sizeLine by decide) (zw (q00 (v:=.ref C_NoRun) rfl m_NoRun rfl) (zw (q00 (v:=.ref C_NoShare) rfl m_NoShare rfl) (zw (q00 (v:=.ref C_NoStore) rfl m_NoStore rfl) (zw (q00 (v:=.ref C_NoText) rfl m_NoText rfl) kx)))) (fun _ _ _ q=>q) ?_);exact(qa (pv 4));refine(xk ?_);refine(qdq (Cs:=[C_NoTree,C_TooGreat]) ns_NotThere ka_NotThere_NoTree_TooGreat rfl n_isinstance (show 2<=sizeLine by decide) (zw (q00 (v:=.ref C_NoTree) rfl m_NoTree rfl) (zw (q00 (v:=.ref C_TooGreat) rfl m_TooGreat rfl) kx)) (fun _ _ _ q=>q) ?_);exact(qa (pv 4));exact(qy vj);refine(qq ?_);refine(qy ?_);refine(za c_21 b_21 hr (by decide) rfl ?_);walk_at "A";refine(qky ns_NotThere ci_NotThere ?_);exact(qa (pv 4));walk_at "A";exact(qa (pv 3));exact qg
theorem q8j{fa:Addr}{dV:Value}{fd:FuncData}(F:Fun2 K "_law_refused" "_law_refused" xu dV fa fd){C_Store:Addr}(O_Store:ClsF K "Store" C_Store ["wares","window","runs"]){a_Store_take:Addr}{fd_Store_take:FuncData}(c_6:CalF P w K mg base "Store" "take" C_Store 5 ["self","many","basket"] 2 ji a_Store_take fd_Store_take)(b_6:Binds K fd_Store_take ["self","many","basket"] []){a__law_same:Addr}{fd__law_same:FuncData}(c_21:Cal P w K mg base "_law_same" 17 ["_law_found","_law_due"] 2 zt a__law_same fd__law_same)(b_21:Binds K fd__law_same ["_law_found","_law_due"] []){C_NotThere:Addr}(ns_NotThere:PySem.W.nsIn K mainGlobals "NotThere" = some (some (.ref C_NotThere)))(cx_NotThere:q7v K C_NotThere)(m_NotThere:mg "NotThere" = some (.ref C_NotThere))(tp_NotThere:PySem.W.typeIn K (.ref C_NotThere)=some (.type "type"))(mr_NotThere_NotThere:PySem.W.mroIn K C_NotThere (.ref C_NotThere)=some true)(gr_Store_take:FnOk P w K mg base (CXR P w) 5 a_Store_take fd_Store_take ["self","many","basket"] (q85 K "Store" 2 x_Store_take))(ci_NotThere:ClsI K C_NotThere "there"){C_NoRun:Addr}(m_NoRun:mg "NoRun" = some (.ref C_NoRun)){C_NoShare:Addr}(m_NoShare:mg "NoShare" = some (.ref C_NoShare)){C_NoStore:Addr}(m_NoStore:mg "NoStore" = some (.ref C_NoStore)){C_NoText:Addr}(m_NoText:mg "NoText" = some (.ref C_NoText))(ka_NotThere_NoRun_NoShare_NoStore_NoText:PySem.W.kitAny K (.ref C_NotThere) ([C_NoRun,C_NoShare,C_NoStore,C_NoText].map Value.ref)=some false){C_NoTree:Addr}(m_NoTree:mg "NoTree" = some (.ref C_NoTree)){C_TooGreat:Addr}(m_TooGreat:mg "TooGreat" = some (.ref C_TooGreat))(ka_NotThere_NoTree_TooGreat:PySem.W.kitAny K (.ref C_NotThere) ([C_NoTree,C_TooGreat].map Value.ref)=some false){C_OftenError:Addr}(m_OftenError:mg "OftenError" = some (.ref C_OftenError))(kt_NotThere_OftenError:PySem.W.kitOne K (.ref C_NotThere) (.ref C_OftenError)=some true)(kt_NotThere_ValueError:PySem.W.kitOne K (.ref C_NotThere) (.type "ValueError")=some true)(n_isinstance:mg "isinstance" = none)(n_ValueError:mg "ValueError" = none): FnOk P w K mg base CX0 18 fa fd ["_law_store","_law_many","_law_basket","_law_there_here"] (wq K "Store" 3 xv):=
 F.okOB (c:="Store") (k:=17) (n:=6) (ar:=3) (k1:=18) (u:=wk) q8h rfl rfl rfl fun Pn cdv A outer s H E hr=>(by exact q8i O_Store c_6 b_6 c_21 b_21 ns_NotThere cx_NotThere m_NotThere tp_NotThere mr_NotThere_NotThere gr_Store_take ci_NotThere m_NoRun m_NoShare m_NoStore m_NoText ka_NotThere_NoRun_NoShare_NoStore_NoText m_NoTree m_TooGreat ka_NotThere_NoTree_TooGreat m_OftenError kt_NotThere_OftenError kt_NotThere_ValueError n_isinstance n_ValueError hr)
abbrev q5o:Stmt:=top 41
noncomputable def qf0:List Str:=["_law_script","_law_wares","_law_store","_law_runs","_law_k","_law_number_here","_law_taking","_law_many","_law_basket","_law_there_here"]
theorem y0:(qf0).Nodup:=by decide +kernel
theorem qne:FnScope qf0 ["_law_script"] (qc q5o):=⟨rfl,rfl,rfl,y0,rfl,by decide +kernel,by decide +kernel⟩
noncomputable def q46:FS:=(qu (zy 5 (qj (qt 2 [] k9) (qb (eV 0) (qb (eV 4) qh)))) (qu (q74 (q6j 3 (qj (qt 3 [] q0d) (qb (eV 5) (qb (eV 1) (qb (eV 3) qh))))) (qik 3 (z6 (bN 6) (z6 (bN 7) (z6 (bN 8) jx))))) (qu (zy 9 (q6j 3 (qj (qt 2 [] jq) (qb (eV 3) (qb (eV 8) qh))))) (qu (sIf (yq (bT (eV 6))) (qu (q18 (q0r (mbT (q0a (qt 2 [] zt) (k8 (yk "Store" "put" 2 2 yb (qb (eV 7) (qb (eV 8) qh))) (amP (qb (vc qh) qh)))))) (zd (eC (.bl false))) zq) (q4m 3 (vc (qb (eV 7) (qb (eV 8) qh))))) (sIf (z0 oLt' (eV 9) (eV 7)) (q18 (q0r (mbT (q3u "Store" 2 3 xv (qb (eV 7) (qb (eV 8) (qb (eV 9) qh)))))) (zd (eC (.bl false))) zq) (qu (q18 (q7e (oIs true) (yk "Store" "take" 2 2 ji (qb (eV 7) (qb (eV 8) qh))) (mP (eC .non))) (zd (eC (.bl false))) zq) (q2x 3 (q21 3 (q4w 3 yg (qb (eV 3) (qb (eV 7) (qb (eV 8) qh))))))))) (qu (q18 (q0r (mbT (q0a (qt 2 [] zt) (k8 (yk "Store" "pile" 2 0 jh qh) (amP (qb (vc (qb (eV 1) (qb (q6j 3 (qj q08 (qb (eV 3) qh))) qh))) qh)))))) (zd (eC (.bl false))) zq) (q18 (q0r (mbT (qbr 3 (q3u "Store" 2 2 xt (qb (eV 3) (qb (qj (qt 2 [] xx) (qb (eOp oMod (eOp oDiv (eV 5) (eC (.int 32))) (eC (.int 64))) (qb (eV 1) qh))) qh)))))) (zd (eC (.bl false))) zq))))))
noncomputable def qab:FS:=(qu (zy 1 (eOp oMod (eOp oDiv (qj (qt 2 [] zg) (qb (eV 0) (qb (eC (.int 0)) qh))) (eC (.int 2))) (eC (.int 7)))) (qu (q84 "Store" 2 2 [.non] j9 (qb (eV 1) qh)) (qu (sIf (z0 oEq (eOp oMod (eOp oDiv (qj (qt 2 [] zg) (qb (eV 0) (qb (eC (.int 0)) qh))) (eC (.int 14))) (eC (.int 2))) (eC (.int 0))) (q84 "Store" 2 2 [] j9 (qb (eV 1) (qb (eC .non) qh))) zq) (qu (q21 3 (wo qh)) (qu (q18 (q0r (mbT (q0a (qt 2 [] zt) (k8 (yk "Store" "pile" 2 0 jh qh) (amP (qb (vc (qb (eV 1) (qb (vc qh) qh))) qh)))))) (zd (eC (.bl false))) zq) (qu (q4n (iR1 (qb (qj (qt 1 [] ja) (qb (eV 0) qh)) qh)) (bN 4) q46) (q2x 3 (zd (eC (.bl true))))))))))
noncomputable def qf1:List D->Option D:=zx 10 qab
theorem qgw{fa:Addr}{cdv:Value}{A:Around}{outer:List Env}{s:Shared}{H:Hp}{E:XK}{C_Store:Addr}(O_Store:ClsF K "Store" C_Store ["wares","window","runs"]){a_Store___init__:Addr}{fd_Store___init__:FuncData}(M_Store:MkF P w K mg base "Store" C_Store 3 ["self","wares","window"] 2 j9 a_Store___init__ fd_Store___init__)(b_1:Binds K fd_Store___init__ ["self","wares","window"] []){dvs_Store___init___1:List V}{dv_l_Store___init___1:List Value}(bd_Store___init___1:Binds K fd_Store___init__ ["self","wares","window"] dv_l_Store___init___1)(dv_Store___init___1:Vals dvs_Store___init___1 dv_l_Store___init___1)(dd_Store___init___1:∀ {H:Hp},RepL K H [.non] dvs_Store___init___1){a__law_same:Addr}{fd__law_same:FuncData}(c_21:Cal P w K mg base "_law_same" 17 ["_law_found","_law_due"] 2 zt a__law_same fd__law_same)(b_21:Binds K fd__law_same ["_law_found","_law_due"] []){a_Store_pile:Addr}{fd_Store_pile:FuncData}(c_4:CalF P w K mg base "Store" "pile" C_Store 1 ["self"] 0 jh a_Store_pile fd_Store_pile)(b_4:Binds K fd_Store_pile ["self"] []){a__law_many_deeds:Addr}{fd__law_many_deeds:FuncData}(c_17:Cal P w K mg base "_law_many_deeds" 2 ["_law_script"] 1 ja a__law_many_deeds fd__law_many_deeds)(b_17:Binds K fd__law_many_deeds ["_law_script"] []){a__law_number:Addr}{fd__law_number:FuncData}(c_19:Cal P w K mg base "_law_number" 2 ["_law_script","_law_k"] 2 k9 a__law_number fd__law_number)(b_19:Binds K fd__law_number ["_law_script","_law_k"] []){a__law_deed:Addr}{fd__law_deed:FuncData}(c_16:Cal P w K mg base "_law_deed" 2 ["_law_number_here","_law_wares","_law_runs"] 3 q0d a__law_deed fd__law_deed)(b_16:Binds K fd__law_deed ["_law_number_here","_law_wares","_law_runs"] []){a__law_there:Addr}{fd__law_there:FuncData}(c_24:Cal P w K mg base "_law_there" 1 ["_law_runs","_law_basket"] 2 jq a__law_there fd__law_there)(b_24:Binds K fd__law_there ["_law_runs","_law_basket"] []){a__law_cell:Addr}{fd__law_cell:FuncData}(c_14:Cal P w K mg base "_law_cell" 1 ["_law_script","_law_k"] 2 zg a__law_cell fd__law_cell)(b_14:Binds K fd__law_cell ["_law_script","_law_k"] []){a__law_counted:Addr}{fd__law_counted:FuncData}(c_15:CalO P w K mg base "_law_counted" "Store" 18 ["_law_store","_law_runs","_law_some"] 2 xt a__law_counted fd__law_counted)(b_15:Binds K fd__law_counted ["_law_store","_law_runs","_law_some"] []){a_Store_put:Addr}{fd_Store_put:FuncData}(c_5:CalF P w K mg base "Store" "put" C_Store 5 ["self","many","basket"] 2 yb a_Store_put fd_Store_put)(b_5:Binds K fd_Store_put ["self","many","basket"] []){a_Store_take:Addr}{fd_Store_take:FuncData}(c_6:CalF P w K mg base "Store" "take" C_Store 5 ["self","many","basket"] 2 ji a_Store_take fd_Store_take)(b_6:Binds K fd_Store_take ["self","many","basket"] []){a__law_taken:Addr}{fd__law_taken:FuncData}(c_23:CalN P w K mg base "_law_taken" 1 ["_law_runs","_law_many","_law_basket"] 3 yg a__law_taken fd__law_taken)(b_23:Binds K fd__law_taken ["_law_runs","_law_many","_law_basket"] []){a__law_set:Addr}{fd__law_set:FuncData}(c_22:Cal P w K mg base "_law_set" 1 ["_law_mark","_law_wares"] 2 xx a__law_set fd__law_set)(b_22:Binds K fd__law_set ["_law_mark","_law_wares"] []){a__law_refused:Addr}{fd__law_refused:FuncData}(c_20:CalO P w K mg base "_law_refused" "Store" 18 ["_law_store","_law_many","_law_basket","_law_there_here"] 3 xv a__law_refused fd__law_refused)(b_20:Binds K fd__law_refused ["_law_store","_law_many","_law_basket","_law_there_here"] [])(n_range:mg "range" = none)(n_tuple:mg "tuple" = none)(hr:Room 18 (A.deeper (envOfC "law" (qc q5o) s.heap.objs.size fa cdv))):
  PSs (z7 CX0 P w K mg base qf0 "law" (qc q5o) fa cdv A outer s H E).nox (qr q5o) (tDS K qab):=by
 unfold qab q46;refine(qp ?_ ?_);refine(j0 (i:=1) ?_ ?_ ?_ ?_ ?_ ?_);exact y0;exact rfl;exact(Or.inl rfl);refine(qs j5 ?_ qi);refine(qs q1y ?_ qi);refine(za c_14 b_14 hr (by decide) rfl ?_);walk_at "A";exact(qa (pv 0));walk_at "A";exact qi;exact qg;exact rfl;walk_at "L";refine(qp ?_ ?_);refine(qgj (i:=2) rfl M_Store hr (by decide) rfl bd_Store___init___1 dv_Store___init___1 (fun _=>dd_Store___init___1) ?_ y0 rfl (Or.inl rfl));walk_at "A";exact(qa (pv 1));exact qg;refine(qp ?_ ?_);refine(j7 ?_ (qq ?_) zf);refine(zi (q0p hr.units) ?_ qi);refine(qs j5 ?_ qi);refine(qs q1y ?_ qi);refine(za c_14 b_14 hr (by decide) rfl ?_);walk_at "A";exact(qa (pv 0));walk_at "A";exact qi;exact qg;refine(qgj (i:=2) rfl M_Store hr (by decide) rfl b_1 .nil (fun _=>.nil) ?_ y0 rfl (Or.inl rfl));walk_at "A";exact(qa (pv 1));walk_at "A";exact q1x;exact qg;refine(qp ?_ ?_);exact(q4l (i:=3) y0 rfl (Or.inl rfl) (q0z qg));refine(qp ?_ ?_);refine(q3g ?_ ?_ ?_);refine(q4v ?_);refine(q4u ?_);refine(q4t c_21 b_21 hr (by decide) rfl (q0m ?_ ?_));exact(q82 O_Store c_4 b_4 hr (by decide) (pv 2));refine(q1m ?_);walk_at "A";refine(xw ?_);walk_at "A";exact(qa (pv 1));walk_at "A";exact(xw qg);exact qg;exact qg;refine(qq ?_);exact(qy vj);exact zf;refine(qp ?_ ?_);refine(q75 g13 rfl ?_ (zh y0 rfl (Or.inl rfl) (.inl rfl)) (qp ?_ ?_));refine(q8z rfl n_range ?_);walk_at "A";refine(za c_17 b_17 hr (by decide) rfl ?_);walk_at "A";exact(qa (pv 0));exact qg;exact qg;refine(j0 (i:=5) ?_ ?_ ?_ ?_ ?_ ?_);exact y0;exact rfl;exact(Or.inl rfl);refine(za c_19 b_19 hr (by decide) rfl ?_);walk_at "A";exact(qa (pv 0));walk_at "A";exact(qa (pv 4));exact qg;exact rfl;walk_at "L";refine(qp ?_ ?_);refine(qka ?_ (qn0 rfl (jc (zh y0 rfl (Or.inl rfl) (.inl rfl)) (jc (zh y0 rfl (Or.inl rfl) (.inl rfl)) (jc (zh y0 rfl (Or.inl rfl) (.inl rfl)) q10)))));refine(qbs 3 ?_);refine(za c_16 b_16 hr (by decide) rfl ?_);walk_at "A";exact(qa (pv 5));walk_at "A";exact(qa (pv 1));walk_at "A";exact(qa (pv 3));exact qg;refine(qp ?_ ?_);refine(j0 (i:=9) ?_ ?_ ?_ ?_ ?_ ?_);exact y0;exact rfl;exact(Or.inl rfl);refine(qbs 3 ?_);refine(za c_24 b_24 hr (by decide) rfl ?_);walk_at "A";exact(qa (pv 3));walk_at "A";exact(qa (pv 8));exact qg;exact rfl;walk_at "L";refine(qp ?_ ?_);refine(j7 ?_ (qp ?_ ?_) (qq ?_));refine(yr ?_);refine(xk ?_);exact(qa (pv 6));refine(q3g ?_ ?_ ?_);refine(q4v ?_);refine(q4u ?_);refine(q4t c_21 b_21 hr (by decide) rfl (q0m ?_ ?_));refine(q15 O_Store c_5 b_5 hr (by decide) (pv 2) ?_);walk_at "A";exact(qa (pv 7));walk_at "A";exact(qa (pv 8));exact qg;refine(q1m ?_);walk_at "A";exact(xw qg);exact qg;refine(qq ?_);exact(qy vj);exact zf;refine(qq ?_);refine(q73 (pv 3) ?_);refine(xw ?_);walk_at "A";exact(qa (pv 7));walk_at "A";exact(qa (pv 8));exact qg;refine(j7 ?_ (qq ?_) (qp ?_ ?_));refine(zi q13 ?_ ?_);exact(qa (pv 9));exact(qa (pv 7));refine(q3g ?_ ?_ ?_);refine(q4v ?_);refine(q4u ?_);refine(qds c_20 b_20 hr (by decide) rfl (pv 2) ?_);walk_at "A";exact(qa (pv 7));walk_at "A";exact(qa (pv 8));walk_at "A";exact(qa (pv 9));exact qg;refine(qq ?_);exact(qy vj);exact zf;refine(q3g ?_ ?_ ?_);refine(qn3 (qb6 rfl) ?_ ?_);refine(q15 O_Store c_6 b_6 hr (by decide) (pv 2) ?_);walk_at "A";exact(qa (pv 7));walk_at "A";exact(qa (pv 8));exact qg;exact(qdr q1x);refine(qq ?_);exact(qy vj);exact zf;refine(qq ?_);refine(qkz 3 (q4l (i:=3) y0 rfl (Or.inl rfl) (qiu c_23 b_23 hr (by decide) rfl ?_)));walk_at "A";exact(qa (pv 3));walk_at "A";exact(qa (pv 7));walk_at "A";exact(qa (pv 8));exact qg;refine(qp ?_ ?_);refine(q3g ?_ ?_ ?_);refine(q4v ?_);refine(q4u ?_);refine(q4t c_21 b_21 hr (by decide) rfl (q0m ?_ ?_));exact(q82 O_Store c_4 b_4 hr (by decide) (pv 2));refine(q1m ?_);walk_at "A";refine(xw ?_);walk_at "A";exact(qa (pv 1));walk_at "A";refine(qbs 3 ?_);refine(q2p (q3s) rfl n_tuple DL.boot_tuple ?_);walk_at "A";exact(qa (pv 3));exact qg;exact qg;exact qg;refine(qq ?_);exact(qy vj);exact zf;refine(qq ?_);refine(q3g ?_ ?_ ?_);refine(q4v ?_);refine(q4u ?_);refine(qnc 3 ?_);refine(qds c_15 b_15 hr (by decide) rfl (pv 2) ?_);walk_at "A";exact(qa (pv 3));walk_at "A";refine(za c_22 b_22 hr (by decide) rfl ?_);walk_at "A";refine(qs j5 ?_ qi);refine(qs q1y ?_ qi);exact(qa (pv 5));walk_at "A";exact(qa (pv 1));exact qg;exact qg;refine(qq ?_);exact(qy vj);exact zf;refine(qat 3 (qq ?_));exact(qy vj)
theorem qnf{fa:Addr}{dV:Value}{fd:FuncData}(F:Fun2 K "law" "law" q5o dV fa fd){C_Store:Addr}(O_Store:ClsF K "Store" C_Store ["wares","window","runs"]){a_Store___init__:Addr}{fd_Store___init__:FuncData}(M_Store:MkF P w K mg base "Store" C_Store 3 ["self","wares","window"] 2 j9 a_Store___init__ fd_Store___init__)(b_1:Binds K fd_Store___init__ ["self","wares","window"] []){dvs_Store___init___1:List V}{dv_l_Store___init___1:List Value}(bd_Store___init___1:Binds K fd_Store___init__ ["self","wares","window"] dv_l_Store___init___1)(dv_Store___init___1:Vals dvs_Store___init___1 dv_l_Store___init___1)(dd_Store___init___1:∀ {H:Hp},RepL K H [.non] dvs_Store___init___1){a__law_same:Addr}{fd__law_same:FuncData}(c_21:Cal P w K mg base "_law_same" 17 ["_law_found","_law_due"] 2 zt a__law_same fd__law_same)(b_21:Binds K fd__law_same ["_law_found","_law_due"] []){a_Store_pile:Addr}{fd_Store_pile:FuncData}(c_4:CalF P w K mg base "Store" "pile" C_Store 1 ["self"] 0 jh a_Store_pile fd_Store_pile)(b_4:Binds K fd_Store_pile ["self"] []){a__law_many_deeds:Addr}{fd__law_many_deeds:FuncData}(c_17:Cal P w K mg base "_law_many_deeds" 2 ["_law_script"] 1 ja a__law_many_deeds fd__law_many_deeds)(b_17:Binds K fd__law_many_deeds ["_law_script"] []){a__law_number:Addr}{fd__law_number:FuncData}(c_19:Cal P w K mg base "_law_number" 2 ["_law_script","_law_k"] 2 k9 a__law_number fd__law_number)(b_19:Binds K fd__law_number ["_law_script","_law_k"] []){a__law_deed:Addr}{fd__law_deed:FuncData}(c_16:Cal P w K mg base "_law_deed" 2 ["_law_number_here","_law_wares","_law_runs"] 3 q0d a__law_deed fd__law_deed)(b_16:Binds K fd__law_deed ["_law_number_here","_law_wares","_law_runs"] []){a__law_there:Addr}{fd__law_there:FuncData}(c_24:Cal P w K mg base "_law_there" 1 ["_law_runs","_law_basket"] 2 jq a__law_there fd__law_there)(b_24:Binds K fd__law_there ["_law_runs","_law_basket"] []){a__law_cell:Addr}{fd__law_cell:FuncData}(c_14:Cal P w K mg base "_law_cell" 1 ["_law_script","_law_k"] 2 zg a__law_cell fd__law_cell)(b_14:Binds K fd__law_cell ["_law_script","_law_k"] []){a__law_counted:Addr}{fd__law_counted:FuncData}(c_15:CalO P w K mg base "_law_counted" "Store" 18 ["_law_store","_law_runs","_law_some"] 2 xt a__law_counted fd__law_counted)(b_15:Binds K fd__law_counted ["_law_store","_law_runs","_law_some"] []){a_Store_put:Addr}{fd_Store_put:FuncData}(c_5:CalF P w K mg base "Store" "put" C_Store 5 ["self","many","basket"] 2 yb a_Store_put fd_Store_put)(b_5:Binds K fd_Store_put ["self","many","basket"] []){a_Store_take:Addr}{fd_Store_take:FuncData}(c_6:CalF P w K mg base "Store" "take" C_Store 5 ["self","many","basket"] 2 ji a_Store_take fd_Store_take)(b_6:Binds K fd_Store_take ["self","many","basket"] []){a__law_taken:Addr}{fd__law_taken:FuncData}(c_23:CalN P w K mg base "_law_taken" 1 ["_law_runs","_law_many","_law_basket"] 3 yg a__law_taken fd__law_taken)(b_23:Binds K fd__law_taken ["_law_runs","_law_many","_law_basket"] []){a__law_set:Addr}{fd__law_set:FuncData}(c_22:Cal P w K mg base "_law_set" 1 ["_law_mark","_law_wares"] 2 xx a__law_set fd__law_set)(b_22:Binds K fd__law_set ["_law_mark","_law_wares"] []){a__law_refused:Addr}{fd__law_refused:FuncData}(c_20:CalO P w K mg base "_law_refused" "Store" 18 ["_law_store","_law_many","_law_basket","_law_there_here"] 3 xv a__law_refused fd__law_refused)(b_20:Binds K fd__law_refused ["_law_store","_law_many","_law_basket","_law_there_here"] [])(n_range:mg "range" = none)(n_tuple:mg "tuple" = none): FnOk P w K mg base CX0 19 fa fd ["_law_script"] (spD K 1 qf1):=
 F.okn (k:=18) (n:=10) (ar:=1) (k1:=19) (u:=qab) qne rfl rfl rfl fun cdv A outer s H E hr=>(by first|(with_reducible exact qgw O_Store M_Store b_1 bd_Store___init___1 dv_Store___init___1 dd_Store___init___1 c_21 b_21 c_4 b_4 c_17 b_17 c_19 b_19 c_16 b_16 c_24 b_24 c_14 b_14 c_15 b_15 c_5 b_5 c_6 b_6 c_23 b_23 c_22 b_22 c_20 b_20 n_range n_tuple hr)|exact qgw O_Store M_Store b_1 bd_Store___init___1 dv_Store___init___1 dd_Store___init___1 c_21 b_21 c_4 b_4 c_17 b_17 c_19 b_19 c_16 b_16 c_24 b_24 c_14 b_14 c_15 b_15 c_5 b_5 c_6 b_6 c_23 b_23 c_22 b_22 c_20 b_20 n_range n_tuple hr)
end
end My
namespace DL
open PySem L2
theorem qcf(a b:Int): decide (V.int a=V.int b)=decide (a=b):=decide_eq_decide.mpr ⟨fun h=>by injection h,fun h=>by rw [h]⟩
theorem q1o(a b:Int): oEq (.int a) (.int b)=some (.bl (decide (a=b))):=by
 simp only [oEq,qhy,flD,q7s,gc,nv,g0g,qcf]
theorem q8k(a b:Int): qar (.int a) (.int b)=some (.bl (!decide (a=b))):=by
 simp only [qar,flD,q7s,gc,nv,qcf]
theorem qgx(a b:Bool): oEq (.bl a) (.bl b)=some (.bl (a==b)):=by
 cases a <;> cases b <;> rfl
theorem jb(a b:Int)(h:0<b): oMod (.int a) (.int b)=some (.int (a%b)):=by simp [oMod,oI,h]
theorem vx(a b:Int)(h:0<b)(h2:b<1073741824): oDiv (.int a) (.int b)=some (.int (a / b)):=by simp [oDiv,oI,h,h2]
theorem q9b(a b:Int): jy (.int a) (.int b)=some (.int (a+b)):=rfl
theorem qcg(a b:Int): oSub (.int a) (.int b)=some (.int (a-b)):=rfl
theorem yh(a b:Int): oLt' (.int a) (.int b)=some (.bl (decide (a<b))):=rfl
theorem qdw(a b:Int): oLe (.int a) (.int b)=some (.bl (decide (a<=b))):=rfl
theorem yi(a b:Int): oGt (.int a) (.int b)=some (.bl (decide (b<a))):=rfl
theorem q8l(a b:Int): oGe (.int a) (.int b)=some (.bl (decide (b<=a))):=rfl
theorem q2h(a b:Int): oMin [.int a,.int b]=some (.int (if b<a then b else a)):=rfl
theorem qgy(xs ys:List D)(h:xs.length+ys.length<=1000000): jy (.tup xs) (.tup ys)=some (.tup (xs++ys)):=by
 show(oAdd (.tup xs) (.tup ys)).or (qb2 (.tup xs) (.tup ys))=_;simp only [oAdd,oI,g2e,qb2,lim,gw h]
theorem q6o(a b:Int)(h:0<=b)(h2:b<=1000000)(h3:a.natAbs<2 ^ 64): oPow (.int a) (.int b)=some (.int (a ^ b.toNat)):=by simp [oPow,oI,h,h2,h3]
theorem q2v(ns:List Int): q4p [.lst (ns.map .int)]=some (.int ns.sum):=by simp [q4p,o1L,q91]
theorem q47(bs:List Bool): q6f [.lst (bs.map .bl)]=some (.bl (bs.all id)):=by simp [q6f,o1L,q7a]
theorem q8m{α : Type}{xs:List α}{i:Int}(h0:0<=i): atI xs i=xs[i.toNat]? :=by
 unfold atI ixN;rw [gw h0]
 by_cases h:i<xs.length
 ·rw [gw h];rfl
 ·rw [m4 h,List.getElem?_eq_none (by omega)];rfl
section
variable{b:FB}{body:FS}{d:D}{ds:List D}{ρ ρ1 ρ2:Rho}
theorem q2w(h1:b d ρ = some ρ1)(h2:body ρ1=some (.nx, ρ2)): runFor b body (d :: ds) ρ = runFor b body ds ρ2:=by simp only [runFor,h1,h2,gc]
end
theorem q7k{b:FB}{c:FT}{f:FE}{ρ : Rho}(p:D->Bool)(g:D->D): ∀ {ds:List D},(∀d∈ds,∃ ρ1,b d ρ = some ρ1/\c ρ1=some (p d)/\(p d=true->f ρ1=some (g d)))->xh b c f ρ ds=some ((ds.filter p).map g)
 | [],_=>rfl
 | d :: ds,h=>by
  obtain⟨ρ1,e1,e2,e3⟩:=h d mj;have ih:=q7k p g fun e he=>h e (m5 _ he);simp only [xh,e1,e2,gc];cases hp:p d with
  | true=>simp only [nv,e3 hp,gc,ih,gz,g20,hp,mi]
  | false=>simp only [nr,tq,ih,g20,hp]
theorem q69{b:FB}{f:FE}{ρ : Rho}(g:D->D){ds:List D}(h:∀d∈ds,∃ ρ1,b d ρ = some ρ1/\f ρ1=some (g d)): xh b q07 f ρ ds=some (ds.map g):=by
 have:=q7k (b:=b) (c:=q07) (f:=f) (ρ := ρ) (fun _=>true) g (ds:=ds) fun d hd=>let⟨ρ1,e1,e2⟩:=h d hd; ⟨ρ1,e1,rfl,fun _=>e2⟩
 rw [g1b.mpr (fun _ _=>rfl)] at this;exact this
theorem qd2(lo:Int)(n:Nat): ju lo (n+1)=.int lo :: ju (lo+1) n:=by
 unfold ju;rw [g29,mi,u6]
 congr 1
 ·simp
 ·apply List.map_congr_left
  intro a _;simp only [Function.comp,Nat.succ_eq_add_one,Int.natCast_add]
  congr 1
  omega
theorem qf2(lo:Int)(n:Nat): (ju lo n).length=n:=by simp [ju]
theorem qdx(fa:FA)(ρ : Rho)(j:Int)(h:fa ρ = some [.int j])(h1 : -(2 ^ 62)<=j)(h2:j<2 ^ 62): iR1 fa ρ = some (ju 0 j.toNat):=by
 simp only [iR1,h,gc,m6 h1,m6 h2,g06,nv]
theorem qiy{α : Type}(xs:List D)(k:Nat): cutD xs (some (k:Int)) none=xs.drop k:=by
 unfold cutD;rw [HT.sIx_nat,HT.sIx_none]
 by_cases h:k<=xs.length
 ·rw [Nat.min_eq_left h,g0n (by rw [g1w];exact gv _)]
 ·rw [Nat.min_eq_right (by omega),g1y,List.drop_eq_nil_of_le (by omega)];simp
section
variable{ρ ρ1 ρ':Rho}{f g:FE}{d x y z:D}{i n m ar:Nat}{fa fk:FA}{ds es:List D}{t t2:FT}{c:Bool}{u w:FS}{r:Option (Fl×Rho)}
theorem x_c:eC d ρ = some d:=rfl
theorem x_v(h : ρ[i]? = some (some (.fz d))): eV i ρ = some d:=by unfold eV;rw [h]
theorem qz{o:D->D->Option D}(h1:f ρ = some x)(h2:g ρ = some y)(h3:o x y=some z): eOp o f g ρ = some z:=by unfold eOp;rw [h1,gc,h2,gc,h3]
theorem qpt{o:D->Option D}(h1:f ρ = some x)(h3:o x=some z): eUn o f ρ = some z:=by unfold eUn;rw [h1,gc,h3]
theorem ql:qh ρ = some []:=rfl
theorem qf(h1:f ρ = some d)(h2:fa ρ = some ds): qb f fa ρ = some (d :: ds):=by unfold qb;rw [h1,gc,h2,gz]
theorem qoz(h1:fa ρ = some ds)(h2:fk ρ = some es)(hn:ds.length=n)(hm:es.length=m): qib n m fa fk ρ = some (ds++es):=by unfold qib;rw [h1,gc,h2,gc,gw ⟨hn,hm⟩]
theorem x_call{o:List D->Option D}(h1:fa ρ = some ds)(h2:o ds=some d): qj o fa ρ = some d:=by unfold qj;rw [h1,gc,h2]
theorem zo{o:List D->Option D}{dds:List D}(h1:fa ρ = some ds)(hl:(ds++dds).length=ar)(h2:o (ds++dds)=some d): qj (qt ar dds o) fa ρ = some d:=by unfold qj qt;rw [h1,gc,gw hl,h2]
theorem qng{o:List D->Option D}(h1:fa ρ = some ds)(hl:ds.length=ar)(h2:o ds=some d): qj (qel ar o) fa ρ = some d:=by unfold qj qel;rw [h1,gc,gw hl,h2]
theorem vy(h1:fa ρ = some ds)(hl:ds.length<=lim): vc fa ρ = some (.tup ds):=by unfold vc;rw [h1,gc,gw hl]
theorem q1h(h1:fa ρ = some ds)(hl:ds.length<=lim): wo fa ρ = some ds:=by unfold wo;rw [h1,gc,gw hl]
theorem x_l(h1:fa ρ = some ds): eL fa ρ = some (.lst ds):=by unfold eL;rw [h1,gz]
theorem ql0{o:List D->Option (List D)}(h1:fa ρ = some ds)(h2:o ds=some es): qeh o fa ρ = some es:=by unfold qeh;rw [h1,gc,h2]
theorem qp0(h1:f ρ = some (.bl c)): q7x f ρ = some (.bl (!c)):=by unfold q7x;rw [h1,gc];rfl
theorem qdy(h1:f ρ = some (.bl c))(hc:c=true)(h2:g ρ = some d): q05 f g ρ = some d:=by subst hc;unfold q05;rw [h1,gc];exact h2
theorem qdz(h1:f ρ = some (.bl c))(hc:c=false): q05 f g ρ = some (.bl false):=by subst hc;unfold q05;rw [h1,gc];rfl
theorem qnh(h1:f ρ = some (.bl c))(hc:c=true): eOr f g ρ = some (.bl true):=by subst hc;unfold eOr;rw [h1,gc];rfl
theorem qni(h1:f ρ = some (.bl c))(hc:c=false)(h2:g ρ = some d): eOr f g ρ = some d:=by subst hc;unfold eOr;rw [h1,gc];exact h2
theorem qe0(h1:t ρ = some c)(hc:c=true)(h2:f ρ = some d): eIf t f g ρ = some d:=by subst hc;unfold eIf;rw [h1,gc];exact h2
theorem ql1(h1:t ρ = some c)(hc:c=false)(h2:g ρ = some d): eIf t f g ρ = some d:=by subst hc;unfold eIf;rw [h1,gc];exact h2
theorem qjn{T:Ty}(h1:f ρ = some d): q0j T f ρ = some (.bl (z9 T d)):=by unfold q0j;rw [h1,gz]
theorem qnj:oNo ρ = some none:=rfl
theorem x_at{k:Int}(h1:f ρ = some (.int k)): oAt f ρ = some (some k):=by unfold oAt;rw [h1,gc]
theorem qnk{lo hi:FO}{a b:Option Int}(h1:f ρ = some x)(h2:lo ρ = some a)(h3:hi ρ = some b)(h4:oSl x a b=some y): eSl f lo hi ρ = some y:=by unfold eSl;rw [h1,gc,h2,gc,h3,gc,h4]
theorem wa{it:FA}{cap:List (Option Nat)}{b:FB}{q:FT}(h1:it ρ = some ds)(hl:ds.length<=lim)(h2:xh b q f (yw cap ρ) ds=some es): xp it cap b q f ρ = some es:=by unfold xp;rw [h1,gc,gw hl,h2]
theorem kc(h1:f ρ = some d)(h2:q24 d=some ds): yu f ρ = some ds:=by unfold yu;rw [h1,gc,h2]
theorem qch{xs ys:List D}(h1:fa ρ = some [x,y])(h2:q24 x=some xs)(h3:q24 y=some ys): q80 fa ρ = some (yz xs ys):=by unfold q80;rw [h1,gc];simp only [h2,h3,gc,gz]
theorem zp{o:D->D->Option D}(h1:f ρ = some x)(h2:g ρ = some y)(h3:o x y=some (.bl c)): z0 o f g ρ = some c:=by unfold z0;rw [qz h1 h2 h3,gc];rfl
theorem q6p(h1:f ρ = some d)(h2:q6d d=some c): bT f ρ = some c:=by unfold bT;rw [h1,gc,h2]
theorem q2i(h1:t ρ = some c): yq t ρ = some (!c):=by unfold yq;rw [h1,gz]
theorem q0o{e:Bool}(h1:t ρ = some c)(hc:c=true)(h2:t2 ρ = some e): q1z t t2 ρ = some e:=by subst hc;unfold q1z;rw [h1,gc];exact h2
theorem q48(h1:t ρ = some c)(hc:c=false): q1z t t2 ρ = some false:=by subst hc;unfold q1z;rw [h1,gc];rfl
theorem qe1(h1:t ρ = some c)(hc:c=true): bOr t t2 ρ = some true:=by subst hc;unfold bOr;rw [h1,gc];rfl
theorem q1p{e:Bool}(h1:t ρ = some c)(hc:c=false)(h2:t2 ρ = some e): bOr t t2 ρ = some e:=by subst hc;unfold bOr;rw [h1,gc];exact h2
theorem qw(h1:u ρ = some (.nx, ρ1))(h2:w ρ1=r): qu u w ρ = r:=by unfold qu;rw [h1,gc];exact h2
theorem qgz(h1:u ρ = some (.rt d, ρ1)): qu u w ρ = some (.rt d, ρ1):=by unfold qu;rw [h1,gc]
theorem wb(h1:t ρ = some c)(hc:c=true)(h2:u ρ = r): sIf t u w ρ = r:=by subst hc;unfold sIf;rw [h1,gc];exact h2
theorem j4(h1:t ρ = some c)(hc:c=false)(h2:w ρ = r): sIf t u w ρ = r:=by subst hc;unfold sIf;rw [h1,gc];exact h2
theorem xq(h1:f ρ = some d): zd f ρ = some (.rt d, ρ):=by unfold zd;rw [h1,gz]
theorem zj:zq ρ = some (.nx, ρ):=rfl
theorem js(h1:f ρ = some d): zy i f ρ = some (.nx, ρ.set i (some (.fz d))):=by unfold zy;rw [h1,gz]
theorem q5p(h1:fa ρ = some ds): q21 i fa ρ = some (.nx, ρ.set i (some (.ow ds))):=by unfold q21;rw [h1,gz]
theorem q2j(h0 : ρ[i]? = some (some (.ow ds)))(h1:f ρ = some d)(hl:ds.length<lim): q4m i f ρ = some (.nx, ρ.set i (some (.ow (ds++[d])))):=by unfold q4m q22;rw [h0];simp only [gc,h1,gw hl]
theorem qac{it:FA}{b:FB}{body:FS}(h1:it ρ = some ds)(h2:runFor b body ds ρ = r): q4n it b body ρ = r:=by unfold q4n;rw [h1,gc];exact h2
theorem qad(h1:frz i ρ = ρ1)(h2:u ρ1=r): q2x i u ρ = r:=by unfold q2x;rw [h1];exact h2
theorem qnl{b:FB}(h1:f ρ = some d)(h2:b d ρ = some ρ1): q74 f b ρ = some (.nx, ρ1):=by unfold q74;rw [h1,gc,h2,gz]
theorem xy(h:u (ds.map (fun d=>some (.fz d))++List.replicate (n-ds.length) none)=some (.rt d, ρ')): zx n u ds=some d:=by unfold zx;rw [h]
end
theorem eV0(d:D)(r:Rho): eV 0 (some (.fz d) :: r)=some d:=rfl
theorem eVs(i:Nat)(x:Option B)(r:Rho): eV (i+1) (x :: r)=eV i r:=rfl
theorem qae(ds:List D): v3 [.tup ds]=some (.int ds.length):=rfl
theorem qf3(ds:List D): v3 [.lst ds]=some (.int ds.length):=rfl
theorem qpu(i:Int): (match D.int i with | .int i=>some (some i)|_=>none:Option (Option Int))=some (some i):=rfl
theorem qpv(ds:List D)(r:Rho): frz 0 (some (.ow ds) :: r)=some (.fz (.lst ds)) :: r:=rfl
theorem frzs(i:Nat)(x:Option B)(r:Rho): frz (i+1) (x :: r)=x :: frz i r:=by
 unfold frz;rw [ud];cases h:r[i]? with
 | none=>rfl
 | some y=>
  cases y with
  | none=>rfl
  | some z=>cases z <;> rfl
theorem jz(a b:Int)(h : -(2 ^ 64)<b/\b<2 ^ 64): jf (.int a) (.int b)=some (.int (a*b)):=by
 have h2:(decide (-(2 ^ 64)<b)&&decide (b<2 ^ 64))=true:=by rw [m6 h.1,m6 h.2];rfl
 show(if((decide (-(2 ^ 64)<a)&&decide (a<2 ^ 64)) || (decide (-(2 ^ 64)<b)&&decide (b<2 ^ 64)))=true then some (D.int (a*b)) else none).or _=_;rw [h2,g2h,gw rfl,g0g]
theorem qd3(a b:Int)(h : -(2 ^ 64)<a/\a<2 ^ 64): jf (.int a) (.int b)=some (.int (a*b)):=by
 have h2:(decide (-(2 ^ 64)<a)&&decide (a<2 ^ 64))=true:=by rw [m6 h.1,m6 h.2];rfl
 show(if((decide (-(2 ^ 64)<a)&&decide (a<2 ^ 64)) || (decide (-(2 ^ 64)<b)&&decide (b<2 ^ 64)))=true then some (D.int (a*b)) else none).or _=_;rw [h2,Bool.true_or,gw rfl,g0g]
theorem qnm(ds:List D)(i:Int): oIx (.lst ds) (.int i)=atI ds i:=rfl
theorem qpw(ds:List D)(i:Int): oIx (.tup ds) (.int i)=atI ds i:=rfl
theorem ql2{α : Type}(xs:List α)(n:Nat): atI xs (no_index (OfNat.ofNat n:Int))=xs[n]? :=by
 show atI xs (n:Int)=xs[n]?;rw [q8m (show(0:Int)<=(n:Int) by omega)]
 rfl
theorem qiz{α : Type}(xs:List α)(n:Nat): atI xs (n:Int)=xs[n]? :=by
 rw [q8m (show(0:Int)<=(n:Int) by omega)]
 rfl
theorem ql3(ds:List D): qjh [.lst ds]=some ds:=rfl
theorem ql4(ds:List D): qjh [.tup ds]=some ds:=rfl
theorem qj0(ds:List D): q08 [.lst ds]=some (.tup ds):=rfl
theorem qj1(ds:List D): q08 [.tup ds]=some (.tup ds):=rfl
theorem q2k{n:Nat}{u:FS}{ds:List D}{d:D}(h:(u (ds.map (fun d=>some (.fz d))++List.replicate (n-ds.length) none)).map Prod.fst=some (.rt d)): zx n u ds=some d:=by
 cases e:u (ds.map (fun d=>some (.fz d))++List.replicate (n-ds.length) none) with
 | none=>rw [e] at h;cases h
 | some p=>
  obtain⟨fl, ρ'⟩:=p;rw [e] at h;have h':fl=.rt d:=by simpa using h
  subst h';exact xy e
theorem ql5:z9 .int .non=false/\(∀b:Bool,z9 .int (.bl b)=true)/\(∀i:Int,z9 .int (.int i)=true)/\(∀x:Str,z9 .int (.str x)=false)/\(∀ds:List D,z9 .int (.tup ds)=false)/\(∀ds:List D,z9 .int (.lst ds)=false)/\(∀(ks:List Key) (vs:List D),z9 .int (.dct ks vs)=false)/\(∀(ks:List (List Int)) (vs:List D),z9 .int (.dtt ks vs)=false)/\z9 .bool .non=false/\(∀b:Bool,z9 .bool (.bl b)=true)/\(∀i:Int,z9 .bool (.int i)=false)/\(∀x:Str,z9 .bool (.str x)=false)/\(∀ds:List D,z9 .bool (.tup ds)=false)/\(∀ds:List D,z9 .bool (.lst ds)=false)/\(∀(ks:List Key) (vs:List D),z9 .bool (.dct ks vs)=false)/\(∀(ks:List (List Int)) (vs:List D),z9 .bool (.dtt ks vs)=false)/\z9 .tuple .non=false/\(∀b:Bool,z9 .tuple (.bl b)=false)/\(∀i:Int,z9 .tuple (.int i)=false)/\(∀x:Str,z9 .tuple (.str x)=false)/\(∀ds:List D,z9 .tuple (.tup ds)=true)/\(∀ds:List D,z9 .tuple (.lst ds)=false)/\(∀(ks:List Key) (vs:List D),z9 .tuple (.dct ks vs)=false)/\(∀(ks:List (List Int)) (vs:List D),z9 .tuple (.dtt ks vs)=false)/\z9 .list .non=false/\(∀b:Bool,z9 .list (.bl b)=false)/\(∀i:Int,z9 .list (.int i)=false)/\(∀x:Str,z9 .list (.str x)=false)/\(∀ds:List D,z9 .list (.tup ds)=false)/\(∀ds:List D,z9 .list (.lst ds)=true)/\(∀(ks:List Key) (vs:List D),z9 .list (.dct ks vs)=false)/\(∀(ks:List (List Int)) (vs:List D),z9 .list (.dtt ks vs)=false)/\z9 .str .non=false/\(∀b:Bool,z9 .str (.bl b)=false)/\(∀i:Int,z9 .str (.int i)=false)/\(∀x:Str,z9 .str (.str x)=true)/\(∀ds:List D,z9 .str (.tup ds)=false)/\(∀ds:List D,z9 .str (.lst ds)=false)/\(∀(ks:List Key) (vs:List D),z9 .str (.dct ks vs)=false)/\(∀(ks:List (List Int)) (vs:List D),z9 .str (.dtt ks vs)=false)/\z9 .dict .non=false/\(∀b:Bool,z9 .dict (.bl b)=false)/\(∀i:Int,z9 .dict (.int i)=false)/\(∀x:Str,z9 .dict (.str x)=false)/\(∀ds:List D,z9 .dict (.tup ds)=false)/\(∀ds:List D,z9 .dict (.lst ds)=false)/\(∀(ks:List Key) (vs:List D),z9 .dict (.dct ks vs)=true)/\(∀(ks:List (List Int)) (vs:List D),z9 .dict (.dtt ks vs)=true):=by
 refine⟨?_,?_,?_,?_,?_,?_,?_,?_,?_,?_,?_,?_,?_,?_,?_,?_,?_,?_,?_,?_,?_,?_,?_,?_,?_,?_,?_,?_,?_,?_,?_,?_,?_,?_,?_,?_,?_,?_,?_,?_,?_,?_,?_,?_,?_,?_,?_,?_⟩ <;> intros <;> rfl
theorem q8n{x:Int}{n:Nat}(hn:0<n): ∃k:Nat,k<n/\oMod (.int x) (.int (n:Int))=some (.int (k:Int)):=by
 have h1:=pz x (show(n:Int)≠0 by omega);have h2:=ui x (show(0:Int)<(n:Int) by omega);refine⟨(x%n).toNat,by omega,?_⟩;rw [jb _ _ (by omega),g1a h1]
section
variable{ρ ρ1 ρ2 ρ':Rho}{f g:FE}{d x y z:D}{i n m ar:Nat}{fa fk:FA}{ds es:List D}{t:FT}{b:Bool}{u w:FS}{r:Option (Fl×Rho)}{c nm:Str}{fs fs':Flds}{fm gm:FM}{am:FAM}{tm:FTM}
theorem q1i(h : ρ[i]? = some (some (.od (c,fs))))(h2:fs.lookup nm=some d): q09 c i nm ρ = some d:=by
 unfold q09 vm;rw [h];simp only [gc,nv,h2]
theorem q58(h1:f ρ = some d)(h : ρ[i]? = some (some (.od (c,fs))))(hl:fs.length<100): q2s c i nm f ρ = some (.nx, ρ.set i (some (.od (c,putD nm d fs)))):=by
 unfold q2s vm;rw [h1,h];simp only [gc];rw [gw ⟨trivial,hl⟩]
theorem q0x{op:Flds->List D->Option (Flds×D)}(h : ρ[i]? = some (some (.od (c,fs))))(h1:fa ρ = some ds)(hl:ds.length=ar)(hn:fs.lookup nm=none)(h2:op fs ds=some (fs',d)): yk c nm i ar op fa ρ = some (d, ρ.set i (some (.od (c,fs')))):=by
 unfold yk vm;rw [h,h1];simp only [gc,h2,gz];rw [gw ⟨trivial,hl,by rw [hn];rfl⟩]
theorem qh0{op:Flds->List D->Option (Flds×D)}(h : ρ[i]? = some (some (.od (c,fs))))(h1:fa ρ = some ds)(hl:ds.length=ar)(h2:op fs ds=some (fs',d)): q3u c i ar op fa ρ = some (d, ρ.set i (some (.od (c,fs')))):=by
 unfold q3u vm;rw [h,h1];simp only [gc,h2,gz];rw [gw ⟨trivial,hl⟩]
theorem qnn(h:f ρ = some d): mP f ρ = some (d, ρ):=by unfold mP;rw [h,gz]
theorem q5q(h:fa ρ = some ds): amP fa ρ = some (ds, ρ):=by unfold amP;rw [h,gz]
theorem wy(h1:fm ρ = some (d, ρ1))(h2:am ρ1=some (ds, ρ2)): k8 fm am ρ = some (d :: ds, ρ2):=by unfold k8;rw [h1,gc,h2,gz]
theorem q1q{o:List D->Option D}{dds:List D}(h1:am ρ = some (ds, ρ1))(hl:(ds++dds).length=ar)(h2:o (ds++dds)=some d): q0a (qt ar dds o) am ρ = some (d, ρ1):=by
 unfold q0a qt;rw [h1,gc,gw hl,h2,gz]
theorem q7l(h1:fm ρ = some (d, ρ1))(h2:q6d d=some b): mbT fm ρ = some (b, ρ1):=by unfold mbT;rw [h1,gc,h2,gz]
theorem q3k(h1:tm ρ = some (b, ρ1)): q0r tm ρ = some (!b, ρ1):=by unfold q0r;rw [h1,gz]
theorem ql6{o:D->D->Option D}(h1:fm ρ = some (x, ρ1))(h2:gm ρ1=some (y, ρ2))(h3:o x y=some (.bl b)): q7e o fm gm ρ = some (b, ρ2):=by unfold q7e;rw [h1,gc,h2,gc,h3];rfl
theorem q1r(h1:tm ρ = some (b, ρ1))(hb:b=false)(h2:w ρ1=r): q18 tm u w ρ = r:=by subst hb;unfold q18;rw [h1,gc];exact h2
theorem qh1(h1:fm ρ = some (d, ρ1)): q7f fm ρ = some (.rt d, ρ1):=by unfold q7f;rw [h1,gz]
theorem q8o(h1:fm ρ = some (d, ρ1)): q25 fm ρ = some (.nx, ρ1):=by unfold q25;rw [h1,gz]
theorem qno(h1:fm ρ = some (d, ρ1)): qa8 i fm ρ = some (.nx, ρ1.set i (some (.fz d))):=by unfold qa8;rw [h1,gz]
theorem qjo{op:Flds->List D->Option (Flds×D)}{dds:List D}(h1:fa ρ = some ds)(no:q83 i ρ = true)(hn:(ds++dds).length=ar)(h3:op [] (ds++dds)=some (fs,.non)): q84 c i ar dds op fa ρ = some (.nx, ρ.set i (some (.od (c,fs)))):=by
 unfold q84;rw [h1,gc,gw ⟨no,hn⟩,h3];rfl
theorem q59(h:u (q0q n c fs ds)=some (.nx, ρ'))(h2 : ρ'[0]? = some (some (.od (c,fs')))): vo n c u fs ds=some (fs',.non):=by unfold vo vm;rw [h];simp only [h2,gc,nv]
theorem q03(h:u (q0q n c fs ds)=some (.rt d, ρ'))(h2 : ρ'[0]? = some (some (.od (c,fs')))): vo n c u fs ds=some (fs',d):=by unfold vo vm;rw [h];simp only [h2,gc,nv]
end
end DL
open PySem PyProof.Rows L2 DL
local macro_rules | `(tactic| simp! [$a,*])=> `(tactic| simp (config:={decide:=true,implicitDefEqProofs:=false}) only [zx,qu,sIf,zy,zd,qom,zq,q21,qpm,qpn,qon,q4n,q2x,q74,eOp,eC,eV0,eVs,qj,qb,qh,vc,eL,wo,qeh,eSl,oNo,oAt,qpu,q1z,z0,yq,bT,bOr,q05,eOr,q7x,eIf,q0j,ql5,eUn,isB,q6d,qpq,qae,qf3,qpv,frzs,yu,q24,qt,qel,qib,bN,xl,z6,jx,yw,qmp,mi,ux,ml,g25,gx,Nat.reduceAdd,Nat.reduceSub,Nat.reduceEqDiff,List.replicate,List.cons_append,g14,mz,List.set_cons_zero,List.set_cons_succ,List.set_nil,List.getElem?_cons_zero,ud,gc,Option.bind_none,gz,Option.map_none,tx,Option.join_none,jb,vx,q9b,qcg,jz,qd3,q1o,q8k,qgx,yh,qdw,yi,q8l,qj0,qj1,nv,tq,decide_true,decide_false,nr,g1o,Bool.not_false,and_true,true_and,and_self,ite_true,ite_false,Int.reduceSub,Int.reduceMod,Int.reduceAdd,Int.reduceDiv,Int.reducePow,Int.reduceMul,Int.reduceNeg,Int.reduceEq,Int.reduceLT,Int.reduceLE,Int.reduceToNat,qnm,qpw,ql2,ql3,ql4,q6o,reduceCtorEq,List.isEmpty_nil,List.isEmpty_cons,List.isEmpty_iff, $a,*])
namespace My
open PySem PyProof.Rows L2 DL
local macro_rules | `(tactic| walk_at "xo")=> `(tactic| first|assumption|exact q1o _ _|exact q8k _ _|exact qgx _ _|exact jb _ _ (by decide)|exact vx _ _ (by decide) (by decide)|exact q9b _ _|exact qcg _ _|exact yh _ _|exact qdw _ _|exact yi _ _|exact q8l _ _|exact q2h _ _|rfl)
local macro_rules | `(tactic| walk_at "xb")=> `(tactic| first|assumption|rfl|exact m6 (by omega)|exact m8 (by omega)|(simp;done)|(simp;omega))
local macro_rules | `(tactic| walk_at "xe")=> `(tactic| first|assumption|exact x_c|exact x_v rfl|exact ql|exact qnj|(apply qz;(walk_at "xe");(walk_at "xe");(walk_at "xo"))|(apply qpt;(walk_at "xe");(walk_at "xo"))|(apply qf;(walk_at "xe");(walk_at "xe"))|(apply vy;(walk_at "xe");(first|decide|(simp only [ml,g25];decide)))|(apply x_l;(walk_at "xe"))|(apply q1h;(walk_at "xe");(first|decide|(simp only [ml,g25];decide)))|(apply ql0;(walk_at "xe");(walk_at "xo"))|(apply qjn;(walk_at "xe"))|(apply qp0;(walk_at "xe"))|(apply x_at;(walk_at "xe"))|(apply qnk;(walk_at "xe");(walk_at "xe");(walk_at "xe");(walk_at "xo"))|(apply zo;(walk_at "xe");exact rfl;(walk_at "xo"))|(apply qng;(walk_at "xe");exact rfl;(walk_at "xo"))|(apply qoz;(walk_at "xe");(walk_at "xe");exact rfl;exact rfl)|(apply x_call;(walk_at "xe");(walk_at "xo"))|(apply kc;(walk_at "xe");(walk_at "xo"))|(apply qch;(walk_at "xe");(walk_at "xo");(walk_at "xo"))|(apply qdy;(walk_at "xe");(walk_at "xb");(walk_at "xe"))|(apply qdz;(walk_at "xe");(walk_at "xb"))|(apply qnh;(walk_at "xe");(walk_at "xb"))|(apply qni;(walk_at "xe");(walk_at "xb");(walk_at "xe"))|(apply zp;(walk_at "xe");(walk_at "xe");(walk_at "xo"))|(apply q6p;(walk_at "xe");(walk_at "xo"))|(apply q2i;(walk_at "xe"))|(apply q0o;(walk_at "xe");(walk_at "xb");(walk_at "xe"))|(apply q48;(walk_at "xe");(walk_at "xb"))|(apply qe1;(walk_at "xe");(walk_at "xb"))|(apply q1p;(walk_at "xe");(walk_at "xb");(walk_at "xe")))
local macro_rules | `(tactic| walk_at "xs")=> `(tactic| first|(apply js;(walk_at "xe"))|exact zj|(apply xq;(walk_at "xe"))|(apply q5p;(walk_at "xe"))|(apply q2j;exact rfl;(walk_at "xe");(walk_at "xo")))
abbrev TI(ns:List Int): D:=.tup (ns.map .int)
abbrev Run:=Int×List Int
abbrev runD(r:Run): D:=.tup [.int r.1,TI r.2]
abbrev qaf(w:Int)(rs:List Run): D:=.tup [.int w,.tup (rs.map runD)]
def q5a(rs:List Run): Int:=(rs.map (·.1)).sum
abbrev stF(w:Int)(rs:List Run): Flds:=[("wares",.int w),("window",.non),("runs",.tup (rs.map runD))]
theorem qci(a b:Int): oMax [.int a,.int b]=some (.int (if a<b then b else a)):=rfl
theorem q9c(a b:Int)(h:0<b)(h2:b<18446744073709551616): oDivB (.int a) (.int b)=some (.int (a / b)):=by simp [oDivB,oI,h,h2]
theorem q5b:∀ns:List Int,ku (ns.map D.int)=0
 | []=>by simp [ku]
 | n :: ns=>by simp only [mi,ku,q6g,q5b ns];rfl
theorem qcj:∀ns ms:List Int,yx (ns.map D.int) (ms.map D.int)=true
 | [],ms=>by cases ms <;> rfl
 | n :: ns,[]=>rfl
 | n :: ns,m :: ms=>by simp only [mi,yx,qcj ns ms,g2f];rfl
theorem qf4:∀ns ms:List Int,eqL (ns.map D.int) (ms.map D.int)=decide (ns=ms)
 | [],[]=>rfl
 | [],m :: ms=>rfl
 | n :: ns,[]=>rfl
 | n :: ns,m :: ms=>by
  simp only [mi,eqL,qf4 ns ms];show((n==m)&&decide (ns=ms))=_;rw [pq];simp
theorem q5c(a b:List Int): oEq (TI a) (TI b)=some (.bl (decide (a=b))):=by
 show(none:Option D).or (if(yx (a.map D.int) (b.map D.int)&&decide (ku (a.map D.int)<=60))=true then some (D.bl (eqL (a.map D.int) (b.map D.int))) else none)=_;rw [qcj,q5b,qf4];rfl
def isNum:D->Bool
 | .int i=>decide (0<=i)
 | _=>false
theorem q5d(d:D): j6 [d]=some (.bl (isNum d)):=by
 cases d <;> rfl
def okW(b:Int): D->Bool
 | .int i=>decide (0<=i)&&decide (i<b)
 | _=>false
theorem qh2(b:Int)(ds:List D): xh (bN 0) q07 (q05 (qj (qt 1 [] j6) (qb (eV 0) qh)) (eOp oLt' (eV 0) (eV 1))) [none,some (.fz (.int b))] ds=some (ds.map fun d=>.bl (okW b d)):=by
 refine q69 _ fun d _=>⟨_,rfl,?_⟩
 have hc:qj (qt 1 [] j6) (qb (eV 0) qh) [some (.fz d),some (.fz (.int b))]=some (.bl (isNum d)):=zo (qf (x_v rfl) ql) rfl (q5d d);cases hn:isNum d with
 | false=>
  rw [hn] at hc;have e:okW b d=false:=by
   cases d <;> first|rfl|skip
   simp only [isNum] at hn;simp only [okW,hn,Bool.false_and]
  rw [e];exact qdz hc rfl
 | true=>
  rw [hn] at hc;cases d with
  | int i=>
   simp only [isNum] at hn;have e:okW b (.int i)=decide (i<b):=by simp only [okW,hn,Bool.true_and]
   rw [e];exact qdy hc rfl (qz (x_v rfl) (x_v rfl) (yh _ _))
  | _=>cases hn
abbrev bnd(w:Int): Int:=if 12<w then 12 else w
theorem qf5(ds:List D)(p:D->Bool): q6f [.lst (ds.map fun d=>.bl (p d))]=some (.bl (ds.all p)):=by
 have e:(ds.map fun d=>D.bl (p d))=(ds.map p).map D.bl:=by rw [u6];rfl
 rw [e,q47,g0z];rfl
def rise:List Int->Bool
 | x :: y :: r=>decide (x<y)&&rise (y :: r)
 | _=>true
def gLt:D->D
 | .tup [.int a,.int b]=>.bl (decide (a<b))
 | _=>.non
theorem q6q:∀ns:List Int,(yz (ns.map .int) ((ns.map .int).drop 1)).map gLt=(List.zipWith (fun a b=>decide (a<b)) ns (ns.drop 1)).map .bl/\(List.zipWith (fun a b=>decide (a<b)) ns (ns.drop 1)).all id=rise ns
 | []=>⟨rfl,rfl⟩
 | [x]=>⟨rfl,rfl⟩
 | x :: y :: r=>by
  obtain⟨h1,h2⟩:=q6q (y :: r)
  constructor
  ·show gLt (.tup [.int x,.int y]) :: (yz ((y :: r).map .int) (((y :: r).map .int).drop 1)).map gLt=_
   rw [h1];rfl
  ·show(decide (x<y)&&(List.zipWith (fun a b=>decide (a<b)) (y :: r) ((y :: r).drop 1)).all id)=_
   rw [h2];rfl
theorem ql7{ns ms:List Int}{d:D}(h:d∈yz (ns.map .int) (ms.map .int)): ∃a b:Int,d=.tup [.int a,.int b]:=by
 unfold yz at h;obtain⟨i,hi⟩:=List.mem_iff_getElem?.mp h;rw [g2d] at hi;simp only [m9] at hi;cases z1:ns[i]? with
 | none=>rw [z1] at hi;cases hi
 | some a=>
  cases z2:ms[i]? with
  | none=>rw [z1,z2] at hi;cases hi
  | some b=>rw [z1,z2] at hi;cases hi;exact⟨a,b,rfl⟩
theorem qh3(ns:List Int): xh (xl 2 (z6 (bN 0) (z6 (bN 1) jx))) q07 (eOp oLt' (eV 0) (eV 1)) [none,none] (yz (ns.map .int) ((ns.map .int).drop 1))=some ((List.zipWith (fun a b=>decide (a<b)) ns (ns.drop 1)).map .bl):=by
 rw [<- (q6q ns).1];refine q69 _ fun d hd=>?_;rw [<- List.map_drop] at hd;obtain⟨a,b,rfl⟩:=ql7 hd;exact⟨_,rfl,qz (x_v rfl) (x_v rfl) (yh _ _)⟩
theorem qd4{ns:List Int}{w:Int}(hl:ns.length<=1000)(h:∀i∈ns,0<=i/\i<bnd w): q2c [TI ns,.int w]=some (.bl (rise ns)):=by
 have hlim:(ns.map D.int).length<=lim:=by rw [gx];exact md hl (by decide)
 have ho:(ns.map D.int).all (okW (bnd w))=true:=by
  rw [g0z,u0];intro i hi;obtain⟨h1,h2⟩:=h i hi;simp only [Function.comp,okW,m6 h1,m6 h2,g06]
 have h1:=x_l (wa (ρ :=[some (.fz (TI ns)),some (.fz (.int w)),some (.fz (.int (bnd w)))]) (cap:=[none,some 2]) (kc (x_v (i:=0) rfl) rfl) hlim (qh2 (bnd w) (ns.map .int)));have h2:=x_call (qf h1 ql) (qf5 (ns.map .int) (okW (bnd w)));rw [ho] at h2;refine xy (ρ':=[some (.fz (TI ns)),some (.fz (.int w)),some (.fz (.int (bnd w)))]) (qw (j4 (by(walk_at "xe")) (by rfl) zj) (qw (js (d:=.int (bnd w)) (by(walk_at "xe"))) (qw (j4 (c:=false) (q2i (q6p h2 rfl)) rfl zj) (xq ?_))));have hcut:oSl (TI ns) (some 1) none=some (.tup ((ns.map .int).drop 1)):=by
  show some (D.tup (cutD (ns.map .int) (some ((1:Nat):Int)) none))=_;rw [qiy (α :=D)]
 have hz:q80 (qb (eV 0) (qb (eSl (eV 0) (oAt (eC (.int 1))) oNo) qh)) [some (.fz (TI ns)),some (.fz (.int w)),some (.fz (.int (bnd w)))]=some (yz (ns.map .int) ((ns.map .int).drop 1)):=
  qch (qf (x_v rfl) (qf (qnk (x_v rfl) (x_at x_c) qnj hcut) ql)) rfl rfl
 have hzl:(yz (ns.map .int) ((ns.map .int).drop 1)).length<=lim:=by
  unfold yz;rw [g19];exact md (Nat.min_le_left _ _) hlim
 have h3:=x_l (wa (cap:=[none,none]) hz hzl (qh3 ns));have h4:=x_call (qf h3 ql) (q47 _);rw [(q6q ns).2] at h4;exact h4
theorem qe2:∀ {ns:List Int},ns.Pairwise (· < ·)->rise ns=true
 | [],_=>rfl
 | [_],_=>rfl
 | x :: y :: r,.cons h t=>by
  show(decide (x<y)&&rise (y :: r))=true;rw [qe2 t,m6 (h y mj)];rfl
theorem jt{α : Type}{b:FB}{c:FT}{e:FE}{ρ : Rho}(f : α -> D)(p : α -> Bool)(g : α -> D): ∀(as:List α),(∀a∈as,∃ ρ1,b (f a) ρ = some ρ1/\c ρ1=some (p a)/\(p a=true->e ρ1=some (g a)))->xh b c e ρ (as.map f)=some ((as.filter p).map g)
 | [],_=>rfl
 | a :: as,h=>by
  obtain⟨ρ1,e1,e2,e3⟩:=h a mj;have ih:=jt f p g as fun x hx=>h x (m5 _ hx);simp only [mi,xh,e1,e2,gc,g20];cases hp:p a with
  | true=>simp only [nv,e3 hp,gc,ih,gz,mi]
  | false=>simp only [nr,tq,ih]
theorem qck{a lo hi:Int}(h0:0<=a)(h1:lo<=a)(h2:a<=hi): jo [.int a,.int lo,.int hi]=some (.bl true):=by
 have n':j6 [.int a]=some (.bl true):=by rw [q5d];simp [isNum,h0]
 (refine q2k ?_;simp! [w8,n',q7d,h1,h2])
structure GoodB(w:Int)(b:List Int): Prop where
 mem:∀x∈b,0<=x/\x<w
 up:b.Pairwise (· < ·)
 len:b.length<=1000
structure GoodR(w:Int)(r:Run): Prop where
 lo:1<=r.1
 hi:r.1<=1000000000000
 b:GoodB w r.2
theorem qj2{w many:Int}{b:List Int}(hw:w<=12)(g:GoodR w (many,b)): q2e [.tup [.int many,TI b],.int w]=some (.bl true):=by
 have h1:=qck (a:=many) (lo:=1) (hi:=1000000000000) (by have:=g.lo;dsimp only at this;omega) g.lo g.hi;have h2:=qd4 (ns:=b) (w:=w) g.b.len fun i hi=>by
  have:=g.b.mem i hi;refine⟨this.1,?_⟩;show i<if 12<w then 12 else w
  rw [m4 (by omega)];exact this.2
 rw [qe2 g.b.up] at h2
 (refine q2k ?_;simp! [q2d,h1,h2])
theorem ql8{w:Int}(h0:0<=w)(h1:w<=12): j9 [] [.int w,.non]=some (stF w [],.non):=by
 have e1:=qck (a:=w) (lo:=0) (hi:=12) h0 h0 h1;refine q59 (ρ':=[some (.od ("Store",stF w [])),some (.fz (.int w)),some (.fz .non)]) ?_ rfl;refine qw (j4 (c:=false) (q2i (q6p (zo (qf (x_v rfl) (qf x_c (qf x_c ql))) rfl e1) rfl)) rfl zj) ?_;refine qw (j4 (c:=false) (q48 (c:=false) (zp (x_v rfl) x_c rfl) rfl) rfl zj) ?_;refine qw (ρ1:=[some (.od ("Store",[("wares",.int w)])),some (.fz (.int w)),some (.fz .non)]) (q58 (fs:=[]) (x_v rfl) rfl (by show 0<100;decide)) ?_;refine qw (ρ1:=[some (.od ("Store",[("wares",.int w),("window",.non)])),some (.fz (.int w)),some (.fz .non)]) (q58 (fs:=[("wares",.int w)]) (x_v rfl) rfl (by show 1<100;decide)) ?_;exact q58 (fs:=[("wares",.int w),("window",.non)]) (vy ql (by decide)) rfl (by show 2<100;decide)
theorem q8p(w:Int)(rs:List Run): jh (stF w rs) []=some (stF w rs,qaf w rs):=
 q03 (xq (vy (qf (q1i rfl rfl) (qf (q1i rfl rfl) ql)) (by show 2<=1000000;decide))) rfl
theorem q6r{w many:Int}{rs:List Run}{b:List Int}(hw:w<=12)(g:GoodR w (many,b)): zb (stF w rs) [.int many,TI b]=some (stF w rs,.non):=by
 refine q59 (ρ':=[some (.od ("Store",stF w rs)),some (.fz (.int many)),some (.fz (TI b))]) ?_ rfl;exact j4 (c:=false) (q2i (q6p (zo (qf (vy (qf (x_v rfl) (qf (x_v rfl) ql)) (by show 2<=1000000;decide)) (qf (q1i rfl rfl) ql)) rfl (qj2 hw g)) rfl)) rfl zj
theorem q7m(c:D)(rs:List Run)(hc:q24 c=some (rs.map runD))(hl:rs.length<=1000): j3 [c]=some (.int (q5a rs)):=by
 have h:=jt (b:=bN 0) (c:=q07) (e:=eOp oIx (eV 0) (eC (.int 0))) (ρ :=[none]) runD (fun _=>true) (fun r=>D.int r.1) rs fun r _=>⟨_,rfl,rfl,fun _=>rfl⟩
 rw [g1b.mpr (fun _ _=>rfl)] at h;have h':(rs.map fun r=>D.int r.1)=(rs.map (·.1)).map D.int:=by rw [u6];rfl
 rw [h'] at h;have hl2:(rs.map runD).length<=lim:=by rw [gx];exact md hl (by decide)
 exact xy (ρ':=_) (xq (x_call (qf (x_l (wa (cap:=[none]) (kc (x_v rfl) hc) hl2 h)) ql) (q2v _)))
def wz(rs:List Run)(b:List Int): List Run:=rs.filter fun r=>decide (r.2=b)
theorem like_eq(rs:List Run)(b:List Int)(hl:rs.length<=1000): xg [.tup (rs.map runD),TI b]=some (.lst ((wz rs b).map runD)):=by
 have h:=jt (b:=bN 0) (c:=z0 oEq (eOp oIx (eV 0) (eC (.int 1))) (eV 1)) (e:=eV 0) (ρ :=[none,some (.fz (TI b))]) runD (fun r=>decide (r.2=b)) runD rs fun r _=>⟨_,rfl,zp (qz (x_v rfl) x_c rfl) (x_v rfl) (q5c r.2 b),fun _=>rfl⟩
 have hl2:(rs.map runD).length<=lim:=by rw [gx];exact md hl (by decide)
 exact xy (ρ':=_) (xq (x_l (wa (cap:=[none,some 1]) (kc (x_v rfl) rfl) hl2 h)))
theorem qnp(w:Int)(rs rs2:List Run): xm (stF w rs) [.tup (rs2.map runD)]=some (stF w rs,.int 0):=
 q03 (xq (qe0 (c:=true) (zp (q1i rfl rfl) x_c rfl) rfl x_c)) rfl
def ym(sel:Run->Bool)(r:Run)(left:Int): Int:=if sel r then(if left<r.1 then left else r.1) else 0
def part(sel:Run->Bool): List Run->Int->List Run×List Run
 | [],_=>([],[])
 | r :: rs,left=>((if 0<ym sel r left then [(ym sel r left,r.2)] else [])++(part sel rs (left-ym sel r left)).1,(if ym sel r left<r.1 then [(r.1-ym sel r left,r.2)] else [])++(part sel rs (left-ym sel r left)).2)
theorem qcl(sel:Run->Bool): ∀(rs:List Run) (left:Int),(part sel rs left).1.length<=rs.length/\(part sel rs left).2.length<=rs.length
 | [],_=>⟨gv _,gv _⟩
 | r :: rs,left=>by
  obtain⟨h1,h2⟩:=qcl sel rs (left-ym sel r left);rw [part,mq,mq,ml]
  constructor
  ·split <;> simp <;> omega
  ·split <;> simp <;> omega
abbrev qcm:FT:=bOr (z0 (oIs false) (eV 2) (eC .non)) (z0 oEq (eV 7) (eV 2))
theorem q6a(sel:Run->Bool)(ch:D)(ht:∀(r:Run) (x0 x1 x3 x4 x5 x6 x8:Option B),qcm [x0,x1,some (.fz ch),x3,x4,x5,x6,some (.fz (TI r.2)),x8]=some (sel r))(x0 x1:Option B): ∀(rs:List Run) (left:Int) (ga ka:List Run) (b6 b7 b8:Option B),ga.length+rs.length<=1000->ka.length+rs.length<=1000->∃l' b6' b7' b8',
  runFor (xl 2 (z6 (bN 6) (z6 (bN 7) jx))) q0u (rs.map runD) [x0,x1,some (.fz ch),some (.ow (ga.map runD)),some (.ow (ka.map runD)),some (.fz (.int left)),b6,b7,b8] =
   some (.nx,[x0,x1,some (.fz ch),some (.ow ((ga++(part sel rs left).1).map runD)),some (.ow ((ka++(part sel rs left).2).map runD)),some (.fz (.int l')),b6',b7',b8'])
 | [],left,ga,ka,b6,b7,b8,_,_=>⟨left,b6,b7,b8,by simp [runFor,part]⟩
 | r :: rs,left,ga,ka,b6,b7,b8,hg,hk=>by
  rw [ml] at hg hk;have e0:xl 2 (z6 (bN 6) (z6 (bN 7) jx)) (runD r) [x0,x1,some (.fz ch),some (.ow (ga.map runD)),some (.ow (ka.map runD)),some (.fz (.int left)),b6,b7,b8]=some [x0,x1,some (.fz ch),some (.ow (ga.map runD)),some (.ow (ka.map runD)),some (.fz (.int left)),some (.fz (.int r.1)),some (.fz (TI r.2)),b8]:=rfl;have e1:eIf qcm (qj oMin (qb (eV 6) (qb (eV 5) qh))) (eC (.int 0)) [x0,x1,some (.fz ch),some (.ow (ga.map runD)),some (.ow (ka.map runD)),some (.fz (.int left)),some (.fz (.int r.1)),some (.fz (TI r.2)),b8]=some (.int (ym sel r left)):=by
   have t:=ht r x0 x1 (some (.ow (ga.map runD))) (some (.ow (ka.map runD))) (some (.fz (.int left))) (some (.fz (.int r.1))) b8;unfold ym;cases hs:sel r with
   | true=>rw [hs] at t;exact qe0 t rfl (x_call (qf (x_v rfl) (qf (x_v rfl) ql)) (q2h _ _))
   | false=>rw [hs] at t;exact ql1 t rfl x_c
  have hg':(ga.map runD).length<lim:=by rw [gx];show _<1000000;omega
  have hk':(ka.map runD).length<lim:=by rw [gx];show _<1000000;omega
  generalize hgo:ym sel r left=g at e1;obtain⟨l',b6',b7',b8',er⟩:=q6a sel ch ht x0 x1 rs (left-g) (ga++if 0<g then [(g,r.2)] else []) (ka++if g<r.1 then [(r.1-g,r.2)] else []) (some (.fz (.int r.1))) (some (.fz (TI r.2))) (some (.fz (.int g)))
   (by rw [mq];split <;> simp <;> omega) (by rw [mq];split <;> simp <;> omega)
  have body:q0u [x0,x1,some (.fz ch),some (.ow (ga.map runD)),some (.ow (ka.map runD)),some (.fz (.int left)),some (.fz (.int r.1)),some (.fz (TI r.2)),b8]=some (.nx,[x0,x1,some (.fz ch),some (.ow ((ga++if 0<g then [(g,r.2)] else []).map runD)),some (.ow ((ka++if g<r.1 then [(r.1-g,r.2)] else []).map runD)),some (.fz (.int (left-g))),some (.fz (.int r.1)),some (.fz (TI r.2)),some (.fz (.int g))]):=by
   refine qw (js e1) (qw (js (qz (x_v rfl) (x_v rfl) rfl)) (qw (ρ1:=[x0,x1,some (.fz ch),some (.ow ((ga++if 0<g then [(g,r.2)] else []).map runD)),some (.ow (ka.map runD)),some (.fz (.int (left-g))),some (.fz (.int r.1)),some (.fz (TI r.2)),some (.fz (.int g))]) ?_ ?_))
   ·by_cases hc:0<g
    ·rw [gw hc,g0b]
     exact wb (zp (x_v rfl) x_c (yi _ _)) (m6 hc) (q2j rfl (vy (qf (x_v rfl) (qf (x_v rfl) ql)) (by show 2<=1000000;decide)) hg')
    ·rw [m4 hc,mz]
     exact j4 (zp (x_v rfl) x_c (yi _ _)) (m8 hc) zj
   ·by_cases hc:g<r.1
    ·rw [gw hc,show(ka++[(r.1-g,r.2)]).map runD=ka.map runD++[runD (r.1-g,r.2)] from by rw [g0b];rfl]
     exact wb (zp (x_v rfl) (x_v rfl) (yh _ _)) (m6 hc) (q2j rfl (vy (qf (qz (x_v rfl) (x_v rfl) rfl) (qf (x_v rfl) ql)) (by show 2<=1000000;decide)) hk')
    ·rw [m4 hc,mz]
     exact j4 (zp (x_v rfl) (x_v rfl) (yh _ _)) (m8 hc) zj
  refine⟨l',b6',b7',b8',?_⟩;rw [mi,q2w e0 body,er,part,hgo,t6,t6]
theorem q9d(sel:Run->Bool)(ch:D)(ht:∀(r:Run) (x0 x1 x3 x4 x5 x6 x8:Option B),qcm [x0,x1,some (.fz ch),x3,x4,x5,x6,some (.fz (TI r.2)),x8]=some (sel r))(rs:List Run)(left:Int)(hl:rs.length<=900):
  v7 [.tup (rs.map runD),.int left,ch]=some (.tup [.tup ((part sel rs left).1.map runD),.tup ((part sel rs left).2.map runD)]):=by
 obtain⟨l',b6,b7,b8,e⟩:=q6a sel ch ht (some (.fz (.tup (rs.map runD)))) (some (.fz (.int left))) rs left [] [] none none none (by simp;omega) (by simp;omega);rw [g14,g14] at e;refine xy (ρ':=_) (qw (q5p (q1h ql (by decide))) (qw (q5p (q1h ql (by decide))) (qw (js (x_v rfl)) (qw (qac (kc (x_v rfl) rfl) e) (qad rfl (qad rfl (xq (vy (qf (x_call (qf (x_v rfl) ql) rfl) (qf (x_call (qf (x_v rfl) ql) rfl) ql)) (by show 2<=1000000;decide)))))))))
theorem ql9(r:Run)(x0 x1 x3 x4 x5 x6 x8:Option B): qcm [x0,x1,some (.fz .non),x3,x4,x5,x6,some (.fz (TI r.2)),x8]=some ((fun _=>true) r):=qe1 (c:=true) (zp (x_v rfl) x_c rfl) rfl
theorem qp1(b:List Int)(r:Run)(x0 x1 x3 x4 x5 x6 x8:Option B): qcm [x0,x1,some (.fz (TI b)),x3,x4,x5,x6,some (.fz (TI r.2)),x8]=some ((fun r:Run=>decide (r.2=b)) r):=
 q1p (c:=false) (zp (x_v rfl) x_c rfl) rfl (zp (x_v rfl) (x_v rfl) (q5c r.2 b))
abbrev qj3:Run->Bool:=fun _=>true
abbrev q49(b:List Int): Run->Bool:=fun r=>decide (r.2=b)
theorem q9e:∀rs:List Run,(∀r∈rs,1<=r.1)->part qj3 rs 0=([],rs)
 | [],_=>rfl
 | r :: rs,h=>by
  have h1:=h r mj;have g0:ym qj3 r 0=0:=by unfold ym;rw [gw rfl,gw (by omega)]
  rw [part,g0,Int.sub_zero,Int.sub_zero,q9e rs fun x hx=>h x (m5 _ hx),m4 (by decide),gw (by omega)]
  rfl
theorem qnq{w many:Int}{rs:List Run}{b:List Int}(hw:w<=12)(hl:rs.length<200)(hp:∀r∈rs,1<=r.1)(g:GoodR w (many,b)):
  yb (stF w rs) [.int many,TI b]=some (stF w (rs++[(many,b)]),.tup []):=by
 have e1:=q6r (rs:=rs) hw g;have hl2:(rs++[(many,b)]).length<=900:=by rw [mq];simp;omega
 have hp2:∀r∈rs++[(many,b)],1<=r.1:=fun r hr=>by
  rcases g07.mp hr with h|h
  ·exact hp r h
  ·cases g1l.mp h;exact g.lo
 have e2:=qnp w rs (rs++[(many,b)]);have e3:=q9d qj3 .non ql9 (rs++[(many,b)]) 0 hl2;rw [q9e _ hp2] at e3;have hx:rs.map runD++[runD (many,b)]=(rs++[(many,b)]).map runD:=by rw [g0b];rfl
 have e4:jy (.tup (rs.map runD)) (.tup [runD (many,b)])=some (.tup ((rs++[(many,b)]).map runD)):=by
  rw [qgy _ _ (by rw [gx];simp;omega),hx]
 have hge:qj v3 (qb (q09 "Store" 0 "runs") qh) [some (.od ("Store",stF w rs)),some (.fz (.int many)),some (.fz (TI b)),none,none]=some (.int (rs.length:Int)):=by
  refine x_call (qf (q1i rfl rfl) ql) ?_;rw [qae,gx]
 refine q03 (ρ':=[some (.od ("Store",stF w (rs++[(many,b)]))),some (.fz (.int many)),some (.fz (TI b)),some (.fz (.tup ((rs++[(many,b)]).map runD))),some (.fz (.tup [.tup [],.tup ((rs++[(many,b)]).map runD)]))]) ?_ rfl;refine qw (ρ1:=[some (.od ("Store",stF w rs)),some (.fz (.int many)),some (.fz (TI b)),none,none]) (q8o (q0x rfl (qf (x_v rfl) (qf (x_v rfl) ql)) rfl rfl e1)) ?_;refine qw (j4 (zp hge x_c (q8l _ _)) (m8 (by omega)) zj) ?_;refine qw (ρ1:=[some (.od ("Store",stF w rs)),some (.fz (.int many)),some (.fz (TI b)),some (.fz (.tup ((rs++[(many,b)]).map runD))),none]) (js (qz (q1i rfl rfl) (vy (qf (vy (qf (x_v rfl) (qf (x_v rfl) ql)) (by show 2<=1000000;decide)) ql) (by show 1<=1000000;decide)) e4)) ?_;refine qw (ρ1:=[some (.od ("Store",stF w rs)),some (.fz (.int many)),some (.fz (TI b)),some (.fz (.tup ((rs++[(many,b)]).map runD))),some (.fz (.tup [.tup [],.tup ((rs++[(many,b)]).map runD)]))]) (qno (q1q (wy (qnn (x_v rfl)) (wy (q0x rfl (qf (x_v rfl) ql) rfl rfl e2) (q5q ql))) rfl e3)) ?_;refine qw (ρ1:=[some (.od ("Store",stF w (rs++[(many,b)]))),some (.fz (.int many)),some (.fz (TI b)),some (.fz (.tup ((rs++[(many,b)]).map runD))),some (.fz (.tup [.tup [],.tup ((rs++[(many,b)]).map runD)]))]) (q58 (fs:=stF w rs) (qz (x_v rfl) x_c rfl) rfl (by show 3<100;decide)) ?_;exact xq (qz (x_v rfl) x_c rfl)
def there(rs:List Run)(b:List Int): Int:=q5a (wz rs b)
theorem qla{w many:Int}{rs:List Run}{b:List Int}(hw:w<=12)(hl:rs.length<200)(g:GoodR w (many,b))(ht:many<=there rs b):
  ji (stF w rs) [.int many,TI b]=some (stF w (part (q49 b) rs many).2,.non):=by
 have e1:=q6r (rs:=rs) hw g;have e2:=like_eq rs b (by omega);have hll:(wz rs b).length<=1000:=md (g01 _ _) (by omega);have e3:=q7m (.lst ((wz rs b).map runD)) (wz rs b) rfl hll;have e4:=q9d (q49 b) (TI b) (qp1 b) rs many (by omega);generalize hp:part (q49 b) rs many=P at e4 ⊢;refine q59 (ρ':=[some (.od ("Store",stF w P.2)),some (.fz (.int many)),some (.fz (TI b)),some (.fz (.int (there rs b)))]) ?_ rfl;refine qw (ρ1:=[some (.od ("Store",stF w rs)),some (.fz (.int many)),some (.fz (TI b)),none]) (q8o (q0x rfl (qf (x_v rfl) (qf (x_v rfl) ql)) rfl rfl e1)) ?_;refine qw (ρ1:=[some (.od ("Store",stF w rs)),some (.fz (.int many)),some (.fz (TI b)),some (.fz (.int (there rs b)))]) (js (zo (qf (zo (qf (q1i rfl rfl) (qf (x_v rfl) ql)) rfl e2) ql) rfl e3)) ?_;refine qw (j4 (zp (x_v rfl) (x_v rfl) (yh _ _)) (m8 (by omega)) zj) ?_;exact q58 (fs:=stF w rs) (qz (zo (qf (q1i rfl rfl) (qf (x_v rfl) (qf (x_v rfl) ql))) rfl e4) x_c rfl) rfl (by show 3<100;decide)
theorem qh4{u:FS}{v:FX}{ρ ρ1:Rho}{r:Option (XV×Rho)}(h:u ρ = some (.nx, ρ1))(h2:v ρ1=r): q3w u q16 v ρ = r:=by
 unfold q3w q16;rw [h,g2e];exact h2
theorem qnr{u:FS}{v v':FX}{ρ : Rho}{p:XV×Rho}(h:v ρ = some p): q3w u v v' ρ = some p:=by unfold q3w;rw [h,g0g]
theorem qlb{t:FT}{a b:FX}{ρ : Rho}{c:Bool}{r:Option (XV×Rho)}(h:t ρ = some c)(hc:c=true)(h2:a ρ = r): xIf t a b ρ = r:=by subst hc;unfold xIf;rw [h,gc];exact h2
abbrev qcn(i:Int): XV:=("NotThere",some ("there",i))
theorem qns{w many:Int}{rs:List Run}{b:List Int}(hw:w<=12)(hl:rs.length<200)(g:GoodR w (many,b))(ht:there rs b<many)(hb:(there rs b).natAbs.log2<1920):
  x_Store_take (stF w rs) [.int many,TI b]=some (qcn (there rs b),stF w rs):=by
 have e1:=q6r (rs:=rs) hw g;have e2:=like_eq rs b (by omega);have hll:(wz rs b).length<=1000:=md (g01 _ _) (by omega);have e3:=q7m (.lst ((wz rs b).map runD)) (wz rs b) rfl hll;have hv:kb [some (.od ("Store",stF w rs)),some (.fz (.int many)),some (.fz (TI b)),none]=some (qcn (there rs b),[some (.od ("Store",stF w rs)),some (.fz (.int many)),some (.fz (TI b)),some (.fz (.int (there rs b)))]):=by
  refine qh4 (ρ1:=[some (.od ("Store",stF w rs)),some (.fz (.int many)),some (.fz (TI b)),none]) (q8o (q0x rfl (qf (x_v rfl) (qf (x_v rfl) ql)) rfl rfl e1)) ?_;refine qh4 (ρ1:=[some (.od ("Store",stF w rs)),some (.fz (.int many)),some (.fz (TI b)),some (.fz (.int (there rs b)))]) (js (zo (qf (zo (qf (q1i rfl rfl) (qf (x_v rfl) ql)) rfl e2) ql) rfl e3)) ?_;refine qnr (qlb (zp (x_v rfl) (x_v rfl) (yh _ _)) (m6 ht) ?_);unfold q86;rw [x_v (d:=.int (there rs b)) rfl,gc];dsimp only;rw [gw hb]
 unfold x_Store_take;rw [show q0q 4 "Store" (stF w rs) [.int many,TI b]=[some (.od ("Store",stF w rs)),some (.fz (.int many)),some (.fz (TI b)),none] from rfl,hv]
 rfl
theorem q7n(b:List Int)(x0:Option B): ∀(rs:List Run) (left:Int) (ka:List Run) (b4 b5 b6:Option B),ka.length+rs.length<=1000->∃l' b4' b5' b6',
  runFor (xl 2 (z6 (bN 4) (z6 (bN 5) jx))) kn (rs.map runD) [x0,some (.fz (.int left)),some (.fz (TI b)),some (.ow (ka.map runD)),b4,b5,b6] =
   some (.nx,[x0,some (.fz (.int l')),some (.fz (TI b)),some (.ow ((ka++(part (q49 b) rs left).2).map runD)),b4',b5',b6'])
 | [],left,ka,b4,b5,b6,_=>⟨left,b4,b5,b6,by simp [runFor,part]⟩
 | r :: rs,left,ka,b4,b5,b6,hk=>by
  rw [ml] at hk;have e0:xl 2 (z6 (bN 4) (z6 (bN 5) jx)) (runD r) [x0,some (.fz (.int left)),some (.fz (TI b)),some (.ow (ka.map runD)),b4,b5,b6]=some [x0,some (.fz (.int left)),some (.fz (TI b)),some (.ow (ka.map runD)),some (.fz (.int r.1)),some (.fz (TI r.2)),b6]:=rfl;have hk':(ka.map runD).length<lim:=by rw [gx];show _<1000000;omega
  have hg:∃g,ym (q49 b) r left=g/\qu (zy 6 (eC (.int 0))) (sIf (z0 oEq (eV 5) (eV 2)) (zy 6 (qj oMin (qb (eV 4) (qb (eV 1) qh)))) zq) [x0,some (.fz (.int left)),some (.fz (TI b)),some (.ow (ka.map runD)),some (.fz (.int r.1)),some (.fz (TI r.2)),b6]=some (.nx,[x0,some (.fz (.int left)),some (.fz (TI b)),some (.ow (ka.map runD)),some (.fz (.int r.1)),some (.fz (TI r.2)),some (.fz (.int g))]):=by
   refine⟨_,rfl,qw (ρ1:=[x0,some (.fz (.int left)),some (.fz (TI b)),some (.ow (ka.map runD)),some (.fz (.int r.1)),some (.fz (TI r.2)),some (.fz (.int 0))]) rfl ?_⟩;unfold ym q49
   by_cases hs:r.2=b
   ·rw [m6 hs,gw rfl]
    exact wb (zp (x_v rfl) (x_v rfl) (q5c r.2 b)) (m6 hs) (js (x_call (qf (x_v rfl) (qf (x_v rfl) ql)) (q2h _ _)))
   ·rw [m8 hs,m4 gq]
    exact j4 (zp (x_v rfl) (x_v rfl) (q5c r.2 b)) (m8 hs) zj
  obtain⟨g,hgo,eg⟩:=hg;obtain⟨l',b4',b5',b6',er⟩:=q7n b x0 rs (left-g) (ka++if g<r.1 then [(r.1-g,r.2)] else []) (some (.fz (.int r.1))) (some (.fz (TI r.2))) (some (.fz (.int g))) (by rw [mq];split <;> simp <;> omega);have body:kn [x0,some (.fz (.int left)),some (.fz (TI b)),some (.ow (ka.map runD)),some (.fz (.int r.1)),some (.fz (TI r.2)),b6]=some (.nx,[x0,some (.fz (.int (left-g))),some (.fz (TI b)),some (.ow ((ka++if g<r.1 then [(r.1-g,r.2)] else []).map runD)),some (.fz (.int r.1)),some (.fz (TI r.2)),some (.fz (.int g))]):=by
   have sq:∀ {u v z:FS} {ρ ρ1:Rho},qu u v ρ = some (.nx, ρ1)->qu u (qu v z) ρ = z ρ1:=by
    intro u v z ρ ρ1 h;unfold qu at h ⊢;cases hu:u ρ with
    | none=>rw [hu] at h;cases h
    | some p=>
     obtain⟨fl, ρ2⟩:=p;rw [hu,gc] at h;rw [gc];cases fl <;> dsimp only at h ⊢ <;> first|(rw [h];rfl)|(injection h with h;injection h with h1 h2;cases h1)
   refine(sq eg).trans ?_;refine qw (js (qz (x_v rfl) (x_v rfl) rfl)) ?_
   by_cases hc:g<r.1
   ·rw [gw hc,g0b]
    exact wb (zp (x_v rfl) (x_v rfl) (yi _ _)) (m6 hc) (q2j rfl (vy (qf (qz (x_v rfl) (x_v rfl) rfl) (qf (x_v rfl) ql)) (by show 2<=1000000;decide)) hk')
   ·rw [m4 hc,mz]
    exact j4 (zp (x_v rfl) (x_v rfl) (yi _ _)) (m8 hc) zj
  refine⟨l',b4',b5',b6',?_⟩;rw [mi,q2w e0 body,er,part,hgo,t6]
theorem qj4(rs:List Run)(many:Int)(b:List Int)(hl:rs.length<=900): yg [.lst (rs.map runD),.int many,TI b]=some ((part (q49 b) rs many).2.map runD):=by
 obtain⟨l',b4,b5,b6,e⟩:=q7n b (some (.fz (.lst (rs.map runD)))) rs many [] none none none (by simp;omega);rw [g14] at e;have hu:yf [some (.fz (.lst (rs.map runD))),some (.fz (.int many)),some (.fz (TI b)),none,none,none,none]=_:=qw (q5p (q1h ql (by decide))) (qw (qac (kc (x_v rfl) rfl) e) zj);show(match yf [some (.fz (.lst (rs.map runD))),some (.fz (.int many)),some (.fz (TI b)),none,none,none,none] with|some (.nx, ρ')=>q22 3 ρ'|_=>none)=_;rw [hu]
 rfl
theorem qlc{sel:Run->Bool}{r:Run}{left:Int}(h:1<=r.1)(h0:0<=left): 0<=ym sel r left/\ym sel r left<=left/\ym sel r left<=r.1:=by
 unfold ym
 split
 ·split <;> omega
 ·omega
theorem q9f{w:Int}(sel:Run->Bool): ∀(rs:List Run) (left:Int),(∀r∈rs,GoodR w r)->0<=left->∀r∈(part sel rs left).2,GoodR w r
 | [],_,_,_,r,hr=>by cases hr
 | r0 :: rs,left,hg,h0,r,hr=>by
  have g0:=hg r0 mj;obtain⟨q1,q2,q3⟩:=qlc (sel:=sel) g0.lo h0;rw [part] at hr;rcases g07.mp hr with hr|hr
  ·split at hr
   ·cases g1l.mp hr
    have:=g0.hi;exact⟨by show 1<=r0.1-_;omega,by show r0.1-_<=_;omega,g0.b⟩
   ·cases hr
  ·exact q9f sel rs _ (fun x hx=>hg x (m5 _ hx)) (by omega) r hr
theorem q5e(r:Run)(rs:List Run): q5a (r :: rs)=r.1+q5a rs:=by unfold q5a;rw [mi,List.sum_cons]
theorem q8q:∀(rs:List Run),(∀r∈rs,1<=r.1)->0<=q5a rs
 | [],_=>Int.le_refl _
 | r :: rs,h=>by
  have:=q8q rs fun x hx=>h x (m5 _ hx);have:=h r mj;rw [q5e];omega
end My
open PySem PyProof.Rows L2 DL
namespace My
open PySem PyProof.Rows L2 DL
theorem wc(ns:List Int)(k:Int)(h0:0<=k): ∃c:Int,zg [.lst (ns.map .int),.int k]=some (.int c):=by
 by_cases h:k<(ns.length:Int)
 ·have hk:k.toNat<ns.length:=by omega
  have hi:atI (ns.map D.int) k=some (.int ns[k.toNat]):=by rw [q8m h0,m9,g21 hk];rfl
  refine⟨ns[k.toNat],?_⟩
  (refine q2k ?_;simp! [kl,h,hi])
 ·refine⟨0,?_⟩
  (refine q2k ?_;simp! [kl,h])
theorem q2l(c k:Int)(h0:0<=k)(h1:k<=1000000): ∃m,jd [.int c,.int k]=some (.int m)/\0<=m/\m<2147483579:=by
 have hkk:jf (.int k) (.int k)=some (.int (k*k)):=jz _ _ ⟨by omega,by omega⟩;have hx:∀x:Int,jf (.int (x%2147483647)) (.int (x%2147483647))=some (.int ((x%2147483647)*(x%2147483647))):=fun x=>
  jz _ _ ⟨by have:=pz x (show(2147483647:Int)≠0 by decide);omega,by have:=ui x (show(0:Int)<2147483647 by decide);omega⟩
 have hy:∀x y:Int,jf (.int x) (.int (y%2147483629))=some (.int (x*(y%2147483629))):=fun x y=>
  jz _ _ ⟨by have:=pz y (show(2147483629:Int)≠0 by decide);omega,by have:=ui y (show(0:Int)<2147483629 by decide);omega⟩
 have hl:∀x:Int,jf (.int x) (.int 48271)=some (.int (x*48271)):=fun x=>jz _ _ ⟨by decide,by decide⟩;have hl2:∀x:Int,jf (.int x) (.int 7919)=some (.int (x*7919)):=fun x=>jz _ _ ⟨by decide,by decide⟩;have hl3:∀x:Int,jf (.int x) (.int 69621)=some (.int (x*69621)):=fun x=>jz _ _ ⟨by decide,by decide⟩;have hl4:∀x:Int,jf (.int x) (.int 40692)=some (.int (x*40692)):=fun x=>jz _ _ ⟨by decide,by decide⟩;have fin:∀x:Int,0<=x%2147483579/\x%2147483579<2147483579:=fun x=>⟨pz x (by decide),ui x (by decide)⟩
 simp! [jd,w9,hkk,hx,hy,hl,hl2,hl3,hl4];exact⟨_,rfl,fin _⟩
theorem qj5(ns:List Int)(hl:ns.length<=63): ∃n:Nat,n<=62/\ja [.lst (ns.map .int)]=some (.int (n:Int)):=by
 obtain⟨c,ec⟩:=wc ns 0 (by decide)
 by_cases h:c%2=0
 ·refine⟨((ns.length:Int)-1).toNat,by omega,?_⟩
  have e:(if 0<(if 62<(ns.length:Int)-1 then 62 else(ns.length:Int)-1) then(if 62<(ns.length:Int)-1 then 62 else(ns.length:Int)-1) else 0)=((((ns.length:Int)-1).toNat:Nat):Int):=by
   split <;> split <;> omega
  rw [<- e]
  (refine q2k ?_;simp! [jm,ec,h,q2h,qci])
 ·obtain⟨m,em,hm,_⟩:=q2l c 3 (by decide) (by decide)
  refine⟨(5+m%16).toNat,by omega,?_⟩;rw [g1a (by omega)]
  (refine q2k ?_;simp! [jm,ec,h,em])
theorem qh5(ns:List Int)(hl:ns.length<=63)(k:Nat)(hk:k<=100): ∃x:Int,k9 [.lst (ns.map .int),.int (k:Int)]=some (.int x):=by
 obtain⟨c,ec⟩:=wc ns 0 (by decide)
 by_cases h:c%2=0
 ·obtain⟨c2,ec2⟩:=wc ns (1+(k:Int)) (by omega)
  have hp:oPow (.int 10) (.int 60)=some (.int (10 ^ 60)):=q6o 10 60 (by decide) (by decide) (by decide);have hm:oMod (.int c2) (.int (10 ^ 60))=some (.int (c2%10 ^ 60)):=jb _ _ (by decide);refine⟨c2%10 ^ 60,?_⟩;refine xy (ρ':=_) (qgz (wb (zp (qz (zo (qf (x_v rfl) (qf x_c ql)) rfl ec) x_c (jb _ _ (by decide))) x_c (q1o _ _)) (m6 h) (xq (qz (zo (qf (x_v rfl) (qf (qz x_c (x_v rfl) rfl) ql)) rfl ec2) (qz x_c x_c hp) hm))))
 ·have hmx:∃q:Int,1<=q/\oMax [.int 1,.int ((ns.length:Int)-1)]=some (.int q):=⟨_,by split <;> omega,qci _ _⟩
  obtain⟨q,hq,eq⟩:=hmx;have hmod:oMod (.int (k:Int)) (.int q)=some (.int ((k:Int)%q)):=jb _ _ (by omega);have hnn:=pz (k:Int) (show q≠0 by omega);obtain⟨c2,ec2⟩:=wc ns (1+(k:Int)%q) (by omega);obtain⟨m1,em1,_⟩:=q2l c2 ((k:Int)+5) (by omega) (by omega);obtain⟨m2,em2,_⟩:=q2l (k:Int) 9 (by decide) (by decide);have ht:jf (.int m1) (.int 2147483647)=some (.int (m1*2147483647)):=jz _ _ ⟨by decide,by decide⟩;have eln:qj v3 (qb (eV 0) qh) [some (.fz (.lst (ns.map .int))),some (.fz (.int (k:Int)))]=some (.int (ns.length:Int)):=by
   refine x_call (qf (x_v rfl) ql) ?_;rw [qf3,gx]
  refine⟨m1*2147483647+m2,?_⟩;refine xy (ρ':=_) (qw (j4 (zp (qz (zo (qf (x_v rfl) (qf x_c ql)) rfl ec) x_c (jb _ _ (by decide))) x_c (q1o _ _)) (m8 h) zj) (xq ?_));refine qz (qz (zo (qf (zo (qf (x_v rfl) (qf (qz x_c (qz (x_v rfl) (x_call (qf x_c (qf (qz eln x_c rfl) ql)) eq) hmod) rfl) ql)) rfl ec2) (qf (qz (x_v rfl) x_c rfl) ql)) rfl em1) x_c ht) (zo (qf (x_v rfl) (qf x_c ql)) rfl em2) rfl
def q1j(mark:Int)(w:Nat): List Int:=((List.range w).filter fun i=>decide (mark / 2 ^ i%2=1)).map fun i:Nat=>(i:Int)
theorem qld(n:Nat): ju 0 n=(List.range n).map fun i:Nat=>.int (i:Int):=by
 unfold ju;simp only [Int.zero_add]
theorem qnt:∀i:Nat,i<6->oIx (.lst [.int 1,.int 2,.int 4,.int 8,.int 16,.int 32]) (.int (i:Int))=some (.int (2 ^ i)):=by
 intro i hi;have:i=0\/i=1\/i=2\/i=3\/i=4\/i=5:=by omega
 rcases this with rfl|rfl|rfl|rfl|rfl|rfl <;> rfl
theorem qh6(mark:Int)(w:Nat)(hw:w<=6): xx [.int mark,.int (w:Int)]=some (TI (q1j mark w)):=by
 have hp:∀i:Nat,(2:Int) ^ i>0:=fun i=>Int.pow_pos (by decide);have hpl:∀i:Nat,i<6->(2:Int) ^ i<18446744073709551616:=fun i hi=>by
  have:i=0\/i=1\/i=2\/i=3\/i=4\/i=5:=by omega
  rcases this with rfl|rfl|rfl|rfl|rfl|rfl <;> decide
 have h:=jt (b:=bN 0) (c:=z0 oEq (eOp oMod (eOp oDivB (eV 1) (eOp oIx (eL (wo (qb (eC (.int 1)) (qb (eC (.int 2)) (qb (eC (.int 4)) (qb (eC (.int 8)) (qb (eC (.int 16)) (qb (eC (.int 32)) qh)))))))) (eV 0))) (eC (.int 2))) (eC (.int 1))) (e:=eV 0) (ρ :=[none,some (.fz (.int mark))])
  (fun i:Nat=>D.int (i:Int)) (fun i=>decide (mark / 2 ^ i%2=1)) (fun i:Nat=>D.int (i:Int)) (List.range w) fun i hi=>by
   have hi':=g0f.mp hi;exact⟨_,rfl,zp (qz (qz (x_v rfl) (qz (x_l (q1h (qf x_c (qf x_c (qf x_c (qf x_c (qf x_c (qf x_c ql)))))) (by show 6<=1000000;decide))) (x_v rfl) (qnt i (by omega))) (q9c _ _ (hp i) (hpl i (by omega)))) x_c (jb _ _ (by decide))) x_c (q1o _ _),fun _=>rfl⟩
 rw [<- qld] at h;have hl:(ju 0 w).length<=lim:=by rw [qf2];show _<=1000000;omega
 have hr:iR1 (qb (eV 1) qh) [some (.fz (.int mark)),some (.fz (.int (w:Int)))]=some (ju 0 w):=by
  rw [qdx _ _ (w:Int) (qf (x_v rfl) ql) (by omega) (by omega),um]
 have ht:((List.range w).filter fun i=>decide (mark / 2 ^ i%2=1)).map (fun i:Nat=>D.int (i:Int))=(q1j mark w).map D.int:=by unfold q1j;rw [u6];rfl
 rw [ht] at h;exact xy (ρ':=_) (xq (x_call (qf (x_l (wa (cap:=[none,some 0]) hr hl h)) ql) rfl))
theorem q7o(mark:Int)(w:Nat)(hw:w<=6): GoodB (w:Int) (q1j mark w):=by
 refine⟨fun x hx=>?_,?_,?_⟩
 ·unfold q1j at hx
  obtain⟨i,hi,rfl⟩:=g2i.mp hx;have:=g0f.mp (pk.mp hi).1;omega
 ·unfold q1j
  rw [List.pairwise_map];refine List.Pairwise.imp ?_ (List.Pairwise.filter _ (List.pairwise_lt_range (n:=w)));intro a b h;omega
 ·unfold q1j
  rw [gx];exact md (g01 _ _) (by rw [List.length_range];omega)
theorem qco(rs:List Run)(b:List Int)(hl:rs.length<=1000): jq [.lst (rs.map runD),TI b]=some (.int (there rs b)):=by
 have h:=jt (b:=xl 2 (z6 (bN 0) (z6 (bN 1) jx))) (c:=z0 oEq (eV 1) (eV 2)) (e:=eV 0) (ρ :=[none,none,some (.fz (TI b))]) runD (fun r=>decide (r.2=b)) (fun r=>D.int r.1) rs fun r _=>⟨_,rfl,zp (x_v rfl) (x_v rfl) (q5c r.2 b),fun _=>rfl⟩
 have ht:((rs.filter fun r=>decide (r.2=b)).map fun r=>D.int r.1)=((wz rs b).map (·.1)).map D.int:=by unfold wz;rw [u6];rfl
 rw [ht] at h;have hl2:(rs.map runD).length<=lim:=by rw [gx];exact md hl (by decide)
 exact xy (ρ':=_) (xq (x_call (qf (x_l (wa (cap:=[none,none,some 1]) (kc (x_v rfl) rfl) hl2 h)) ql) (q2v _)))
theorem qh7{w:Int}{rs:List Run}(h:∀r∈rs,GoodR w r){r:Run}(hr:r∈rs): 1<=there rs r.2:=by
 unfold there;have hm:r∈wz rs r.2:=pk.mpr ⟨hr,m6 rfl⟩;have hg:∀x∈wz rs r.2,1<=x.1:=fun x hx=>(h x (pk.mp hx).1).lo;generalize wz rs r.2=l at hm hg
 induction l with
 | nil=>cases hm
 | cons y l ih=>
  rw [q5e];have h1:=hg y mj;have h2:=q8q l fun x hx=>hg x (m5 _ hx);omega
theorem qcp{w:Int}{rs:List Run}(h:∀r∈rs,GoodR w r)(hl:rs.length<=1000)(b:List Int): there rs b<18446744073709551616:=by
 unfold there;have hg:∀x∈wz rs b,x.1<=1000000000000:=fun x hx=>(h x (pk.mp hx).1).hi;have hll:(wz rs b).length<=1000:=md (g01 _ _) hl;have key:∀l:List Run,(∀x∈l,x.1<=1000000000000)->q5a l<=(l.length:Int)*1000000000000:=by
  intro l hg
  induction l with
  | nil=>exact Int.le_refl _
  | cons y l ih=>
   have h1:=hg y mj;have h2:=ih fun x hx=>hg x (m5 _ hx);rw [q5e,ml];omega
 have:=key _ hg;omega
end My
open PySem PyProof.Rows L2 DL
namespace My
open PySem PyProof.Rows L2 DL
theorem qpx:∀k:Nat,k<2->∃q:Int,1<=q/\q<=1000000000000/\oIx (.lst [.int 9,.int (10 ^ 12)]) (.int (k:Int))=some (.int q):=by
 intro k hk;have:k=0\/k=1:=by omega
 rcases this with rfl|rfl
 ·exact⟨9,by decide,by decide,rfl⟩
 ·exact⟨10 ^ 12,by decide,by decide,rfl⟩
theorem qle(x:Int)(w:Nat)(rs:List Run)(hw:w<=6)(hg:∀r∈rs,GoodR (w:Int) r)(hl:rs.length<=900): ∃(tk:Bool) (many:Int) (b:List Int),
  q0d [.int x,.int (w:Int),.lst (rs.map runD)]=some (.lst [.bl tk,.int many,TI b])/\GoodR (w:Int) (many,b):=by
 have e1:=qh6 (x / 8%64) w hw;have gb:=q7o (x / 8%64) w hw;generalize q1j (x / 8%64) w=b0 at e1 gb;obtain⟨k4,hk4,em4⟩:=q8n (x:=x / 512) (n:=2) (by decide);obtain⟨q,q1,q2,eq⟩:=qpx k4 hk4;have hp12:oPow (.int 10) (.int 12)=some (.int (10 ^ 12)):=q6o 10 12 (by decide) (by decide) (by decide);have hmq:oMod (.int (x / 2048)) (.int q)=some (.int (x / 2048%q)):=jb _ _ (by omega);have hm0:=pz (x / 2048) (show q≠0 by omega);have hm1:=ui (x / 2048) (show 0<q by omega);have hd8:oDiv (.int x) (.int 8)=some (.int (x / 8)):=vx _ _ (by decide) (by decide);have hm8:oMod (.int x) (.int 8)=some (.int (x%8)):=jb _ _ (by decide);have elen:∀s3 s4 s5:Option B,qj v3 (qb (eV 2) qh) [some (.fz (.int x)),some (.fz (.int (w:Int))),some (.fz (.lst (rs.map runD))),s3,s4,s5]=some (.int (rs.length:Int)):=fun s3 s4 s5=>by
  refine x_call (qf (x_v rfl) ql) ?_;rw [qf3,gx]
 -- what stands in the slots
 have mid:∃(many:Int) (b:List Int),GoodR (w:Int) (many,b) /\
   sIf (q1z (z0 oGt (eOp oMod (eV 0) (eC (.int 8))) (eC (.int 4))) (q1z (z0 oGt (eOp oMod (eOp oDiv (eV 0) (eC (.int 512))) (eC (.int 4))) (eC (.int 0))) (z0 oGt (qj v3 (qb (eV 2) qh)) (eC (.int 0))))) (qu (zy 3 (eOp oIx (eOp oIx (eV 2) (eOp oMod (eV 4) (qj v3 (qb (eV 2) qh)))) (eC (.int 1)))) (qu (zy 5 (eOp jy (eC (.int 1)) (eOp oMod (eOp oDivB (eV 4) (qj v3 (qb (eV 2) qh))) (eOp jy (qj (qt 2 [] jq) (qb (eV 2) (qb (eV 3) qh))) (eC (.int 1)))))) (zy 5 (qj oMin (qb (eV 5) (qb (eOp oPow (eC (.int 10)) (eC (.int 12))) qh)))))) zq
    [some (.fz (.int x)),some (.fz (.int (w:Int))),some (.fz (.lst (rs.map runD))),some (.fz (TI b0)),some (.fz (.int (x / 2048))),some (.fz (.int (1+x / 2048%q)))]=some (.nx,[some (.fz (.int x)),some (.fz (.int (w:Int))),some (.fz (.lst (rs.map runD))),some (.fz (TI b)),some (.fz (.int (x / 2048))),some (.fz (.int many))]):=by
  have g0:GoodR (w:Int) (1+x / 2048%q,b0):=⟨by show 1<=1+x / 2048%q;omega,by show 1+x / 2048%q<=_;omega,gb⟩
  have t1:z0 oGt (eOp oMod (eV 0) (eC (.int 8))) (eC (.int 4)) [some (.fz (.int x)),some (.fz (.int (w:Int))),some (.fz (.lst (rs.map runD))),some (.fz (TI b0)),some (.fz (.int (x / 2048))),some (.fz (.int (1+x / 2048%q)))]=some (decide (4<x%8)):=zp (qz (x_v rfl) x_c hm8) x_c (yi _ _);have t2:z0 oGt (eOp oMod (eOp oDiv (eV 0) (eC (.int 512))) (eC (.int 4))) (eC (.int 0)) [some (.fz (.int x)),some (.fz (.int (w:Int))),some (.fz (.lst (rs.map runD))),some (.fz (TI b0)),some (.fz (.int (x / 2048))),some (.fz (.int (1+x / 2048%q)))]=some (decide (0<x / 512%4)):=zp (qz (qz (x_v rfl) x_c (vx _ _ (by decide) (by decide))) x_c (jb _ _ (by decide))) x_c (yi _ _);have t3:z0 oGt (qj v3 (qb (eV 2) qh)) (eC (.int 0)) [some (.fz (.int x)),some (.fz (.int (w:Int))),some (.fz (.lst (rs.map runD))),some (.fz (TI b0)),some (.fz (.int (x / 2048))),some (.fz (.int (1+x / 2048%q)))]=some (decide ((0:Int)<(rs.length:Int))):=zp (elen _ _ _) x_c (yi _ _)
  by_cases h1:4<x%8
  ·by_cases h2:0<x / 512%4
   ·by_cases hn:0<rs.length
    ·obtain⟨j,hj,ej⟩:=q8n (x:=x / 2048) (n:=rs.length) hn
     have hix:oIx (.lst (rs.map runD)) (.int (j:Int))=some (runD rs[j]):=by
      rw [qnm,qiz,m9,g21 hj];rfl
     have hrj:=hg rs[j] (List.getElem_mem hj);have et:=qco rs rs[j].2 (by omega);have tp:=qh7 hg (List.getElem_mem hj);have tlt:=qcp hg (by omega) rs[j].2;have hdv:oDivB (.int (x / 2048)) (.int (rs.length:Int))=some (.int (x / 2048 / (rs.length:Int))):=q9c _ _ (by omega) (by omega);have hmd:oMod (.int (x / 2048 / (rs.length:Int))) (.int (there rs rs[j].2+1))=some (.int (x / 2048 / (rs.length:Int)%(there rs rs[j].2+1))):=jb _ _ (by omega);have n0:=pz (x / 2048 / (rs.length:Int)) (show there rs rs[j].2+1≠0 by omega);have hmn:∃m:Int,(if 10 ^ 12<1+x / 2048 / (rs.length:Int)%(there rs rs[j].2+1) then 10 ^ 12 else 1+x / 2048 / (rs.length:Int)%(there rs rs[j].2+1))=m/\1<=m/\m<=1000000000000:=⟨_,rfl,by split <;> omega,by split <;> omega⟩
     obtain⟨m,em,m1,m2⟩:=hmn;refine⟨m,rs[j].2,⟨m1,m2,hrj.b⟩,?_⟩;rw [m6 h1] at t1;rw [m6 h2] at t2;rw [m6 (by omega)] at t3;refine wb (c:=true) (q0o t1 rfl (q0o t2 rfl t3)) rfl (qw (js (qz (qz (x_v rfl) (qz (x_v rfl) (elen _ _ _) ej) hix) x_c rfl)) ?_);exact qw (js (qz x_c (qz (qz (x_v rfl) (elen _ _ _) hdv) (qz (zo (qf (x_v rfl) (qf (x_v rfl) ql)) rfl et) x_c rfl) hmd) rfl)) (js (x_call (qf (x_v rfl) (qf (qz x_c x_c hp12) ql)) ((q2h _ _).trans (by rw [em]))))
    ·rw [m6 h1] at t1
     rw [m6 h2] at t2;rw [m8 (by omega)] at t3;exact⟨1+x / 2048%q,b0,g0,j4 (c:=false) (q0o t1 rfl (q0o t2 rfl t3)) rfl zj⟩
   ·rw [m6 h1] at t1
    exact⟨1+x / 2048%q,b0,g0,j4 (c:=false) (q0o t1 rfl (q48 t2 (m8 h2))) rfl zj⟩
  ·exact⟨1+x / 2048%q,b0,g0,j4 (c:=false) (q48 t1 (m8 h1)) rfl zj⟩
 obtain⟨many,b,gr,em⟩:=mid;refine⟨decide (4<x%8),many,b,?_,gr⟩;refine xy (ρ':=_) (qw (js (zo (qf (qz (qz (x_v rfl) x_c hd8) x_c (jb _ _ (by decide))) (qf (x_v rfl) ql)) rfl e1)) (qw (js (qz (x_v rfl) x_c (vx _ _ (by decide) (by decide)))) (qw (js (qz x_c (qz (x_v rfl) (qz (x_l (q1h (qf x_c (qf (qz x_c x_c hp12) ql)) (by show 2<=1000000;decide))) (qz (qz (x_v rfl) x_c (vx _ _ (by decide) (by decide))) x_c em4) eq) hmq) rfl)) (qw em (xq (x_l (q1h (qf (qz (qz (x_v rfl) x_c hm8) x_c (yi _ _)) (qf (x_v rfl) (qf (x_v rfl) ql))) (by show 3<=1000000;decide))))))))
def q7p:Nat->D->Prop
 | 0,_=>False
 | _+1,.int _=>True
 | n+1,.tup ds=>∀x∈ds,q7p n x
 | _,_=>False
theorem q9g(rc:List D->Option D)(x0 x1:Option B): ∀(ds:List D),(∀x∈ds,rc [x,x]=some (.bl true))->∀b2 b3:Option B,∃b2' b3',runFor (xl 2 (z6 (bN 2) (z6 (bN 3) jx))) (we rc) (yz ds ds) [x0,x1,b2,b3]=some (.nx,[x0,x1,b2',b3'])
 | [],_,b2,b3=>⟨b2,b3,rfl⟩
 | d :: ds,h,b2,b3=>by
  obtain⟨b2',b3',e⟩:=q9g rc x0 x1 ds (fun x hx=>h x (m5 _ hx)) (some (.fz d)) (some (.fz d));have z:yz (d :: ds) (d :: ds)=.tup [d,d] :: yz ds ds:=rfl;have e0:xl 2 (z6 (bN 2) (z6 (bN 3) jx)) (.tup [d,d]) [x0,x1,b2,b3]=some [x0,x1,some (.fz d),some (.fz d)]:=rfl;have body:we rc [x0,x1,some (.fz d),some (.fz d)]=some (.nx,[x0,x1,some (.fz d),some (.fz d)]):=
   j4 (c:=false) (q2i (q6p (zo (qf (x_v rfl) (qf (x_v rfl) ql)) rfl (h d mj)) rfl)) rfl zj
  exact⟨b2',b3',by rw [z,q2w e0 body,e]⟩
theorem same_refl:∀(n:Nat) (d:D),q7p n d->F_law_same n [d,d]=some (.bl true)
 | 0,_,h=>h.elim
 | n+1,.int a,_=>by
  refine Eq.trans (show F_law_same (n+1) [.int a,.int a]=zx 4 (vq (F_law_same n)) [.int a,.int a] from rfl) ?_
  (refine q2k ?_;simp! [vq])
 | n+1,.tup ds,h=>by
  obtain⟨b2,b3,e⟩:=q9g (F_law_same n) (some (.fz (.tup ds))) (some (.fz (.tup ds))) ds (fun x hx=>same_refl n x (h x hx)) none none;show zx 4 (vq (F_law_same n)) _=_;have t1:yq (bT (q0j .tuple (eV 0))) [some (.fz (.tup ds)),some (.fz (.tup ds)),none,none]=some false:=rfl;refine xy (ρ':=_) (qgz (wb (c:=true) (q6p (qjn (x_v rfl)) rfl) rfl (qw (j4 (c:=false) (q1p (c:=false) t1 rfl ?_) rfl zj) (qw (qac (qch (qf (x_v rfl) (qf (x_v rfl) ql)) rfl rfl) e) (xq x_c)))));rw [zp (x_call (qf (x_v rfl) ql) (qae _)) (x_call (qf (x_v rfl) ql) (qae _)) (q8k _ _)];simp
theorem qj6(n:Nat)(b:List Int): q7p (n+2) (TI b):=fun x hx=>by
 obtain⟨i,_,rfl⟩:=g2i.mp hx
 trivial
theorem q7q(n:Nat)(rs:List Run): q7p (n+4) (.tup (rs.map runD)):=fun x hx=>by
 obtain⟨r,_,rfl⟩:=g2i.mp hx;intro y hy;simp only [mf,pd,uk] at hy;rcases hy with rfl|rfl
 ·trivial
 ·exact qj6 n r.2
theorem qh8(rs:List Run): zt [.tup (rs.map runD),.tup (rs.map runD)]=some (.bl true):=same_refl 16 _ (q7q 12 rs)
theorem q9h(w:Int)(rs:List Run): zt [qaf w rs,qaf w rs]=some (.bl true):=same_refl 16 _ fun x hx=>by
 simp only [mf,pd,uk] at hx;rcases hx with rfl|rfl
 ·trivial
 ·exact q7q 11 rs
theorem same_int(a:Int): zt [.int a,.int a]=some (.bl true):=same_refl 16 _ trivial
theorem q8r(x:Int): ∀b:List Int,inF (.int x) (b.map D.int)=decide (x∈b)
 | []=>rfl
 | y :: b=>by
  show((eqF (.int y) (.int x)) || inF (.int x) (b.map D.int))=_;rw [q8r x b];show((y==x) || _)=_;rw [pq];simp only [p6,ni,g0l,mf]
  constructor <;> rintro(h|h)
  ·exact .inl h.symm
  ·exact .inr h
  ·exact .inl h.symm
  ·exact .inr h
theorem q9i(b:List Int): (b.map D.int).all flat=true:=by
 rw [g0z,u0];intro x _;rfl
theorem qj7(x:Int)(b:List Int): oIn false (.int x) (TI b)=some (.bl (decide (x∈b))):=by
 show(if(flat (.int x)&&(b.map D.int).all flat)=true then some (D.bl (if false=true then !inF (.int x) (b.map D.int) else inF (.int x) (b.map D.int))) else none)=_;rw [q9i,q8r];rfl
theorem qh9(x:Int)(b:List Int): oIn true (.int x) (TI b)=some (.bl (!decide (x∈b))):=by
 show(if(flat (.int x)&&(b.map D.int).all flat)=true then some (D.bl (if true=true then !inF (.int x) (b.map D.int) else inF (.int x) (b.map D.int))) else none)=_;rw [q9i,q8r];rfl
theorem qnu(a b:List Int): oEq (.lst (a.map .int)) (.lst (b.map .int))=some (.bl (decide (a=b))):=by
 show(none:Option D).or (if(yx (a.map D.int) (b.map D.int)&&decide (ku (a.map D.int)<=60))=true then some (D.bl (eqL (a.map D.int) (b.map D.int))) else none)=_;rw [qcj,q5b,qf4];rfl
def bel(s b:List Int): Bool:=s.all fun x=>decide (x∈b)
theorem qj8(s b:List Int)(hl:s.length<=1000): vg [TI s,TI b]=some (.bl (bel s b)):=by
 have h:=jt (b:=bN 0) (c:=q07) (e:=eOp (oIn false) (eV 0) (eV 1)) (ρ :=[none,some (.fz (TI b))]) D.int (fun _=>true) (fun x=>D.bl (decide (x∈b))) s fun x _=>⟨_,rfl,rfl,fun _=>qz (x_v rfl) (x_v rfl) (qj7 x b)⟩
 rw [g1b.mpr (fun _ _=>rfl),show(s.map fun x=>D.bl (decide (x∈b)))=(s.map fun x=>decide (x∈b)).map D.bl from by rw [u6];rfl] at h;have hl2:(s.map D.int).length<=lim:=by rw [gx];exact md hl (by decide)
 refine(xy (ρ':=_) (xq (x_call (qf (x_l (wa (cap:=[none,some 1]) (kc (x_v rfl) rfl) hl2 h)) ql) (q47 _)))).trans ?_;unfold bel;rw [g0z];rfl
def cnt(rs:List Run)(s:List Int): Int:=q5a (rs.filter fun r=>bel s r.2)
theorem count_eq(w:Int)(rs:List Run)(s:List Int)(hl:rs.length<=1000)(hs:s.length<=1000): vz (stF w rs) [TI s]=some (stF w rs,.int (cnt rs s)):=by
 have hl2:(rs.map runD).length<=lim:=by rw [gx];exact md hl (by decide)
 have h:=jt (b:=xl 2 (z6 (bN 0) (z6 (bN 1) jx))) (c:=bT (qj (qt 2 [] vg) (qb (eV 2) (qb (eV 1) qh)))) (e:=eV 0) (ρ :=[none,none,some (.fz (TI s))]) runD (fun r=>bel s r.2) (fun r=>D.int r.1) rs fun r _=>⟨_,rfl,q6p (zo (qf (x_v rfl) (qf (x_v rfl) ql)) rfl (qj8 s r.2 hs)) rfl,fun _=>rfl⟩
 rw [show((rs.filter fun r=>bel s r.2).map fun r=>D.int r.1)=((rs.filter fun r=>bel s r.2).map (·.1)).map D.int from by rw [u6];rfl] at h;have hc:q3i [qaf w rs,TI s]=some (.int (cnt rs s)):=xy (ρ':=_) (xq (x_call (qf (x_l (wa (cap:=[none,none,some 1]) (kc (qz (x_v rfl) x_c rfl) rfl) hl2 h)) ql) (q2v _)));exact q03 (ρ':=[some (.od ("Store",stF w rs)),some (.fz (TI s))]) (qh1 (q1q (wy (q0x rfl ql rfl rfl (q8p w rs)) (q5q (qf (x_v rfl) ql))) rfl hc)) rfl
theorem qf6(s b:List Int): decide (s.filter (fun x=> !decide (x∈b))=[])=bel s b:=by
 unfold bel;rw [pq,decide_eq_true_iff,List.filter_eq_nil_iff,u0]
 constructor
 ·intro h x hx
  have:=h x hx
  simpa using this
 ·intro h x hx
  have:=h x hx
  simpa using this
theorem qnv(rs:List Run)(s:List Int)(hl:rs.length<=1000)(hs:s.length<=1000)(x0 x3:Option B): qj q4p (qb (eL (xp (yu (eV 1)) [none,none,some 2] (xl 2 (z6 (bN 0) (z6 (bN 1) jx))) (z0 oEq (eL (xp (yu (eV 2)) [none,some 1] (bN 0) (z0 (oIn true) (eV 0) (eV 1)) (eV 0))) (eL (wo qh))) (eV 0))) qh) [x0,some (.fz (.lst (rs.map runD))),some (.fz (TI s)),x3]=some (.int (cnt rs s)):=by
 have hl2:(rs.map runD).length<=lim:=by rw [gx];exact md hl (by decide)
 have hs2:(s.map D.int).length<=lim:=by rw [gx];exact md hs (by decide)
 have hi:∀b:List Int,xh (bN 0) (z0 (oIn true) (eV 0) (eV 1)) (eV 0) [none,some (.fz (TI b))] (s.map D.int)=some ((s.filter fun x=> !decide (x∈b)).map D.int):=fun b=>
  jt (b:=bN 0) (c:=z0 (oIn true) (eV 0) (eV 1)) (e:=eV 0) (ρ :=[none,some (.fz (TI b))]) D.int (fun x=> !decide (x∈b)) D.int s fun x _=>⟨_,rfl,zp (x_v rfl) (x_v rfl) (qh9 x b),fun _=>rfl⟩
 have h:=jt (b:=xl 2 (z6 (bN 0) (z6 (bN 1) jx))) (c:=z0 oEq (eL (xp (yu (eV 2)) [none,some 1] (bN 0) (z0 (oIn true) (eV 0) (eV 1)) (eV 0))) (eL (wo qh))) (e:=eV 0) (ρ :=[none,none,some (.fz (TI s))]) runD (fun r=>bel s r.2) (fun r=>D.int r.1) rs fun r _=>⟨_,rfl,?_,fun _=>rfl⟩
 ·rw [show((rs.filter fun r=>bel s r.2).map fun r=>D.int r.1)=((rs.filter fun r=>bel s r.2).map (·.1)).map D.int from by rw [u6];rfl] at h
  exact x_call (qf (x_l (wa (cap:=[none,none,some 2]) (kc (x_v rfl) rfl) hl2 h)) ql) (q2v _)
 ·rw [<- qf6 s r.2]
  exact zp (x_l (wa (cap:=[none,some 1]) (kc (x_v rfl) rfl) hs2 (hi r.2))) (x_l (q1h ql (by decide))) (qnu _ [])
theorem qf7(w:Int)(rs:List Run)(s:List Int)(hl:rs.length<=1000)(hs:s.length<=1000): xt (stF w rs) [.lst (rs.map runD),TI s]=some (stF w rs,.bl true):=by
 refine q03 (ρ':=[some (.od ("Store",stF w rs)),some (.fz (.lst (rs.map runD))),some (.fz (TI s)),some (.fz (.int (cnt rs s)))]) ?_ rfl;refine qw (js (qnv rs s hl hs _ _)) ?_;exact qh1 (q1q (wy (q0x rfl (qf (x_v rfl) ql) rfl rfl (count_eq w rs s hl hs)) (q5q (qf (x_v rfl) ql))) rfl (same_int _))
theorem qf8{w many:Int}{rs:List Run}{b:List Int}(hw:w<=12)(hl:rs.length<200)(g:GoodR w (many,b))(ht:there rs b<many)(hb:(there rs b).natAbs.log2<1920):
  xv (stF w rs) [.int many,TI b,.int (there rs b)]=some (stF w rs,.bl true):=by
 have ex:=qns hw hl g ht hb;refine q03 (ρ':=[some (.od ("Store",stF w rs)),some (.fz (.int many)),some (.fz (TI b)),some (.fz (.int (there rs b))),some (.fz (.exc "NotThere" (some ("there",there rs b)))),none]) ?_ rfl;refine qw (ρ1:=[some (.od ("Store",stF w rs)),some (.fz (.int many)),some (.fz (TI b)),some (.fz (.int (there rs b))),some (.fz .non),none]) (js x_c) ?_;have hv:qa9 "Store" "take" 0 2 x_Store_take (qb (eV 1) (qb (eV 2) qh)) [some (.od ("Store",stF w rs)),some (.fz (.int many)),some (.fz (TI b)),some (.fz (.int (there rs b))),some (.fz .non),none]=some (qcn (there rs b),[some (.od ("Store",stF w rs)),some (.fz (.int many)),some (.fz (TI b)),some (.fz (.int (there rs b))),some (.fz .non),none]):=by
  unfold qa9;rw [show vm 0 [some (.od ("Store",stF w rs)),some (.fz (.int many)),some (.fz (TI b)),some (.fz (.int (there rs b))),some (.fz .non),none]=some (("Store" : Str),stF w rs) from rfl,gc,qf (x_v (d:=.int many) rfl) (qf (x_v (d:=TI b) rfl) ql),gc];rw [gw ⟨rfl,rfl,rfl⟩,ex]
  rfl
 refine qw (ρ1:=[some (.od ("Store",stF w rs)),some (.fz (.int many)),some (.fz (TI b)),some (.fz (.int (there rs b))),some (.fz (.exc "NotThere" (some ("there",there rs b)))),none]) ?_ ?_
 ·unfold qaa
  rw [hv]
  rfl
 have tt:bT (eUn (isX "NotThere" true) (eV 4)) [some (.od ("Store",stF w rs)),some (.fz (.int many)),some (.fz (TI b)),some (.fz (.int (there rs b))),some (.fz (.exc "NotThere" (some ("there",there rs b)))),none]=some true:=rfl;have tf:bT (eUn (isX "NotThere" false) (eV 4)) [some (.od ("Store",stF w rs)),some (.fz (.int many)),some (.fz (TI b)),some (.fz (.int (there rs b))),some (.fz (.exc "NotThere" (some ("there",there rs b)))),none]=some false:=rfl;refine qw (j4 (c:=false) (q1p (c:=false) (zp (x_v rfl) x_c rfl) rfl (q1p (c:=false) (q2i tt) rfl (q2i tt))) rfl zj) ?_;refine qw (j4 (c:=false) (q1p (c:=false) tf rfl tf) rfl zj) ?_;exact xq (zo (qf rfl (qf (x_v rfl) ql)) rfl (same_int _))
theorem qf9{i:Nat}{f:FE}{ρ : Rho}{ds:List D}{d:D}(h : ρ[i]? = some (some (.ow ds)))(h1:f (ρ.set i (some (.fz (.lst ds))))=some d)(ha:apD ds d=true): q6j i f ρ = some d:=by
 unfold q6j q22;rw [h];dsimp only;rw [gc,h1,gc,gw ha]
theorem qnw{i:Nat}{f:FM}{ρ ρ1:Rho}{ds:List D}{d:D}(h : ρ[i]? = some (some (.ow ds)))(h1:f (ρ.set i (some (.fz (.lst ds))))=some (d, ρ1))(ha:apD ds d=true)(hc:qbq i ds ρ ρ1): qbr i f ρ = some (d, ρ1.set i (some (.ow ds))):=by
 unfold qbr q22;rw [h];dsimp only;rw [gc,h1,gc,gw ⟨ha,hc⟩]
theorem qlf{ar:Nat}{op:List D->Option (List D)}{fa:FA}{ρ : Rho}{ds es:List D}(h:fa ρ = some ds)(hl:ds.length=ar)(h2:op ds=some es): q4w ar op fa ρ = some es:=by
 unfold q4w;rw [h,gc,gw hl,h2]
theorem q6s(ds:List D): ∀b:List Int,apL ds (b.map D.int)=true
 | []=>by simp only [ux,apL]
 | x :: b=>by simp only [mi,apL,apD,q6s ds b,g06]
theorem qlg(ds:List D)(r:Run): apD ds (runD r)=true:=by simp only [apD,apL,q6s ds r.2,g06]
theorem q6t(ds:List D): ∀rs:List Run,apL ds (rs.map runD)=true
 | []=>by simp only [ux,apL]
 | r :: rs=>by
  have h:=qlg ds r;simp only [mi,apL,q6t ds rs,g2f];exact h
theorem qlh(rs:List Run)(tk:Bool)(many:Int)(b:List Int): apD (rs.map runD) (.lst [.bl tk,.int many,TI b])=true:=by
 simp only [apD,apL,q6s,g06,g2f];cases rs with
 | nil=>rfl
 | cons r rs=>
  rw [p6];exact .inr rfl
theorem qnx{t:Int}(h0:0<=t)(h1:t<18446744073709551616): t.natAbs.log2<1920:=by
 by_cases hz:t.natAbs=0
 ·rw [hz];decide
 ·refine Nat.lt_trans ((Nat.log2_lt hz).mpr (show t.natAbs<2 ^ 64 from ?_)) (by decide)
  omega
structure Ok(w:Nat)(k:Nat)(rs:List Run): Prop where
 g:∀r∈rs,GoodR (w:Int) r
 l:rs.length<=k
theorem qj9{w:Int}{rs:List Run}(h:∀r∈rs,GoodR w r)(b:List Int): 0<=there rs b:=q8q _ fun r hr=>(h r (pk.mp hr).1).lo
theorem qny(ns:List Int)(w:Nat)(hw:w<=6)(k:Nat)(hk:k<62)(rs:List Run)(o:Ok w k rs)(x many:Int)(tk:Bool)(b:List Int)(gr:GoodR (w:Int) (many,b)): ∃rs',Ok w (k+1) rs' /\
  (sIf (yq (bT (eV 6))) (qu (q18 (q0r (mbT (q0a (qt 2 [] zt) (k8 (yk "Store" "put" 2 2 yb (qb (eV 7) (qb (eV 8) qh))) (amP (qb (vc qh) qh)))))) (zd (eC (.bl false))) zq) (q4m 3 (vc (qb (eV 7) (qb (eV 8) qh))))) (sIf (z0 oLt' (eV 9) (eV 7)) (q18 (q0r (mbT (q3u "Store" 2 3 xv (qb (eV 7) (qb (eV 8) (qb (eV 9) qh)))))) (zd (eC (.bl false))) zq) (qu (q18 (q7e (oIs true) (yk "Store" "take" 2 2 ji (qb (eV 7) (qb (eV 8) qh))) (mP (eC .non))) (zd (eC (.bl false))) zq) (q2x 3 (q21 3 (q4w 3 yg (qb (eV 3) (qb (eV 7) (qb (eV 8) qh))))))))) [some (.fz (.lst (ns.map .int))),some (.fz (.int (w:Int))),some (.od ("Store",stF (w:Int) rs)),some (.ow (rs.map runD)),some (.fz (.int (k:Int))),some (.fz (.int x)),some (.fz (.bl tk)),some (.fz (.int many)),some (.fz (TI b)),some (.fz (.int (there rs b)))]=some (.nx,[some (.fz (.lst (ns.map .int))),some (.fz (.int (w:Int))),some (.od ("Store",stF (w:Int) rs')),some (.ow (rs'.map runD)),some (.fz (.int (k:Int))),some (.fz (.int x)),some (.fz (.bl tk)),some (.fz (.int many)),some (.fz (TI b)),some (.fz (.int (there rs b)))]):=by
 have hlk:=o.l;have hw12:(w:Int)<=12:=by omega
 have hp:∀r∈rs,1<=r.1:=fun r hr=>(o.g r hr).lo;cases tk with
 | false=>
  have ep:=qnq (rs:=rs) hw12 (by omega) hp gr;have hx:rs.map runD++[runD (many,b)]=(rs++[(many,b)]).map runD:=by rw [g0b];rfl
  have hl3:(rs.map runD).length<lim:=by rw [gx];show _<1000000;omega
  refine⟨rs++[(many,b)],⟨fun r hr=>?_,by rw [mq];show _+1<=_;omega⟩,?_⟩
  ·rcases g07.mp hr with h|h
   ·exact o.g r h
   ·cases g1l.mp h;exact gr
  refine wb (c:=true) rfl rfl (qw (q1r (b:=false) (q3k (q7l (q1q (wy (q0x rfl (qf (x_v rfl) (qf (x_v rfl) ql)) rfl rfl ep) (q5q (qf (vy ql (by decide)) ql))) rfl (qh8 [])) rfl)) rfl zj) ?_);rw [<- hx];exact q2j rfl (vy (qf (x_v rfl) (qf (x_v rfl) ql)) (by show 2<=1000000;decide)) hl3
 | true=>
  by_cases ht:there rs b<many
  ·have er:=qf8 hw12 (by omega) gr ht (qnx (qj9 o.g b) (qcp o.g (by omega) b))
   refine⟨rs,⟨o.g,by omega⟩,?_⟩;exact j4 (c:=false) rfl rfl (wb (zp (x_v rfl) (x_v rfl) (yh _ _)) (m6 ht) (q1r (b:=false) (q3k (q7l (qh0 rfl (qf (x_v rfl) (qf (x_v rfl) (qf (x_v rfl) ql))) rfl er) rfl)) rfl zj))
  ·have et:=qla (rs:=rs) hw12 (by omega) gr (by omega)
   have el:=qj4 rs many b (by omega);have m0:0<=many:=by have:=gr.lo;dsimp only at this;omega
   refine⟨(part (q49 b) rs many).2,⟨q9f _ rs many o.g m0,by have:=(qcl (q49 b) rs many).2;omega⟩,?_⟩;exact j4 (c:=false) rfl rfl (j4 (zp (x_v rfl) (x_v rfl) (yh _ _)) (m8 ht) (qw (q1r (b:=false) (ql6 (q0x rfl (qf (x_v rfl) (qf (x_v rfl) ql)) rfl rfl et) (qnn x_c) rfl) rfl zj) (qad rfl (q5p (qlf (qf (x_v rfl) (qf (x_v rfl) (qf (x_v rfl) ql))) rfl el)))))
theorem qja(ns:List Int)(hl:ns.length<=63)(w:Nat)(hw:w<=6)(k:Nat)(hk:k<62)(rs:List Run)(o:Ok w k rs)(b5 b6 b7 b8 b9:Option B): ∃rs' b5' b6' b7' b8' b9',Ok w (k+1) rs' /\
  q46 [some (.fz (.lst (ns.map .int))),some (.fz (.int (w:Int))),some (.od ("Store",stF (w:Int) rs)),some (.ow (rs.map runD)),some (.fz (.int (k:Int))),b5,b6,b7,b8,b9]=some (.nx,[some (.fz (.lst (ns.map .int))),some (.fz (.int (w:Int))),some (.od ("Store",stF (w:Int) rs')),some (.ow (rs'.map runD)),some (.fz (.int (k:Int))),b5',b6',b7',b8',b9']):=by
 obtain⟨x,ex⟩:=qh5 ns hl k (by omega);have hlk:=o.l;obtain⟨tk,many,b,ed,gr⟩:=qle x w rs hw o.g (by omega);have et:=qco rs b (by omega);obtain⟨rs',o',em⟩:=qny ns w hw k hk rs o x many tk b gr;have hl':=o'.l;have es:=qh6 (x / 32%64) w hw;have hsl:=(q7o (x / 32%64) w hw).len;have ec:=qf7 (w:Int) rs' (q1j (x / 32%64) w) (by omega) hsl;refine⟨rs',some (.fz (.int x)),some (.fz (.bl tk)),some (.fz (.int many)),some (.fz (TI b)),some (.fz (.int (there rs b))),o',qw (js (zo (qf (x_v rfl) (qf (x_v rfl) ql)) rfl ex)) (qw (qnl (qf9 rfl (zo (qf (x_v rfl) (qf (x_v rfl) (qf (x_v rfl) ql))) rfl ed) (qlh rs tk many b)) rfl) (qw (js (qf9 (d:=.int (there rs b)) rfl (zo (qf (x_v rfl) (qf (x_v rfl) ql)) rfl et) (by simp only [apD]))) (qw em ?_)))⟩;have hb:q6j 3 (qj q08 (qb (eV 3) qh)) [some (.fz (.lst (ns.map .int))),some (.fz (.int (w:Int))),some (.od ("Store",stF (w:Int) rs')),some (.ow (rs'.map runD)),some (.fz (.int (k:Int))),some (.fz (.int x)),some (.fz (.bl tk)),some (.fz (.int many)),some (.fz (TI b)),some (.fz (.int (there rs b)))]=some (.tup (rs'.map runD)):=qf9 rfl (x_call (qf (x_v rfl) ql) rfl) (by simp only [apD];exact q6t _ rs');refine qw (q1r (b:=false) (q3k (q7l (q1q (wy (q0x rfl ql rfl rfl (q8p (w:Int) rs')) (q5q (qf (vy (qf (x_v rfl) (qf hb ql)) (by show 2<=1000000;decide)) ql))) rfl (q9h (w:Int) rs')) rfl)) rfl zj) ?_;have hm:qbr 3 (q3u "Store" 2 2 xt (qb (eV 3) (qb (qj (qt 2 [] xx) (qb (eOp oMod (eOp oDiv (eV 5) (eC (.int 32))) (eC (.int 64))) (qb (eV 1) qh))) qh))) [some (.fz (.lst (ns.map .int))),some (.fz (.int (w:Int))),some (.od ("Store",stF (w:Int) rs')),some (.ow (rs'.map runD)),some (.fz (.int (k:Int))),some (.fz (.int x)),some (.fz (.bl tk)),some (.fz (.int many)),some (.fz (TI b)),some (.fz (.int (there rs b)))]=some (.bl true,[some (.fz (.lst (ns.map .int))),some (.fz (.int (w:Int))),some (.od ("Store",stF (w:Int) rs')),some (.ow (rs'.map runD)),some (.fz (.int (k:Int))),some (.fz (.int x)),some (.fz (.bl tk)),some (.fz (.int many)),some (.fz (TI b)),some (.fz (.int (there rs b)))]):=by
  refine qnw rfl (qh0 rfl (qf (x_v rfl) (qf (zo (qf (qz (qz (x_v rfl) x_c (vx _ _ (by decide) (by decide))) x_c (jb _ _ (by decide))) (qf (x_v rfl) ql)) rfl es) ql)) rfl ec) (by simp only [apD]) ⟨rfl,fun j hj=>?_⟩
  match j,hj with
  | 0,_=>exact .inl ⟨_,rfl,rfl⟩
  | 1,_=>exact .inl ⟨_,rfl,rfl⟩
  | 2,_=>exact .inr (.inr (.inr ⟨_,rfl,by simp only [mi,ux,apL,apD,q6t,g06]⟩))
  | 3,hj=>exact absurd rfl hj
  | 4,_=>exact .inl ⟨_,rfl,rfl⟩
  | 5,_=>exact .inl ⟨_,rfl,rfl⟩
  | 6,_=>exact .inl ⟨_,rfl,rfl⟩
  | 7,_=>exact .inl ⟨_,rfl,rfl⟩
  | 8,_=>exact .inl ⟨_,rfl,rfl⟩
  | 9,_=>exact .inl ⟨_,rfl,rfl⟩
  | n+10,_=>exact .inr (.inl rfl)
 exact q1r (b:=false) (q3k (q7l hm rfl)) rfl zj
theorem qcq(ns:List Int)(hl:ns.length<=63)(w:Nat)(hw:w<=6): ∀(m k:Nat) (rs:List Run) (b4 b5 b6 b7 b8 b9:Option B),k+m<=62->Ok w k rs->∃(rs':List Run) (b4' b5' b6' b7' b8' b9':Option B),
  runFor (bN 4) q46 (ju (k:Int) m) [some (.fz (.lst (ns.map .int))),some (.fz (.int (w:Int))),some (.od ("Store",stF (w:Int) rs)),some (.ow (rs.map runD)),b4,b5,b6,b7,b8,b9]=some (.nx,[some (.fz (.lst (ns.map .int))),some (.fz (.int (w:Int))),some (.od ("Store",stF (w:Int) rs')),some (.ow (rs'.map runD)),b4',b5',b6',b7',b8',b9'])
 | 0,k,rs,b4,b5,b6,b7,b8,b9,_,_=>⟨rs,b4,b5,b6,b7,b8,b9,rfl⟩
 | m+1,k,rs,b4,b5,b6,b7,b8,b9,h,o=>by
  obtain⟨rs1,c5,c6,c7,c8,c9,o',e⟩:=qja ns hl w hw k (by omega) rs o b5 b6 b7 b8 b9;obtain⟨rs',b4',b5',b6',b7',b8',b9',er⟩:=qcq ns hl w hw m (k+1) rs1 (some (.fz (.int (k:Int)))) c5 c6 c7 c8 c9 (by omega) o';refine⟨rs',b4',b5',b6',b7',b8',b9',?_⟩;rw [qd2,q2w (b:=bN 4) rfl e,show(k:Int)+1=((k+1:Nat):Int) by omega,er]
theorem qjb:∀ns:List Int,ns.length<=63->qf1 [.lst (ns.map .int)]=some (.bl true):=by
 intro ns hl;obtain⟨c,ec⟩:=wc ns 0 (by decide);obtain⟨w,hw,em⟩:=q8n (x:=c / 2) (n:=7) (by decide);obtain⟨n,hn,en⟩:=qj5 ns hl;obtain⟨rs',b4,b5,b6,b7,b8,b9,el⟩:=qcq ns hl w (by omega) n 0 [] none none none none none none (by omega) ⟨(fun r hr=>by cases hr),gv _⟩;have ei:=ql8 (w:=(w:Int)) (by omega) (by omega);have hr:iR1 (qb (qj (qt 1 [] ja) (qb (eV 0) qh)) qh) [some (.fz (.lst (ns.map .int))),some (.fz (.int (w:Int))),some (.od ("Store",stF (w:Int) [])),some (.ow []),none,none,none,none,none,none]=some (ju 0 n):=by
  have ha:qb (qj (qt 1 [] ja) (qb (eV 0) qh)) qh [some (.fz (.lst (ns.map .int))),some (.fz (.int (w:Int))),some (.od ("Store",stF (w:Int) [])),some (.ow []),none,none,none,none,none,none]=some [.int (n:Int)]:=qf (zo (qf (x_v rfl) ql) rfl en) ql;rw [qdx _ _ (n:Int) ha (by omega) (by omega),um]
 have hn:sIf (z0 oEq (eOp oMod (eOp oDiv (qj (qt 2 [] zg) (qb (eV 0) (qb (eC (.int 0)) qh))) (eC (.int 14))) (eC (.int 2))) (eC (.int 0))) (q84 "Store" 2 2 [] j9 (qb (eV 1) (qb (eC .non) qh))) zq [some (.fz (.lst (ns.map .int))),some (.fz (.int (w:Int))),some (.od ("Store",stF (w:Int) [])),none,none,none,none,none,none,none]=some (.nx,[some (.fz (.lst (ns.map .int))),some (.fz (.int (w:Int))),some (.od ("Store",stF (w:Int) [])),none,none,none,none,none,none,none]):=by
  have tc:z0 oEq (eOp oMod (eOp oDiv (qj (qt 2 [] zg) (qb (eV 0) (qb (eC (.int 0)) qh))) (eC (.int 14))) (eC (.int 2))) (eC (.int 0)) [some (.fz (.lst (ns.map .int))),some (.fz (.int (w:Int))),some (.od ("Store",stF (w:Int) [])),none,none,none,none,none,none,none]=some (decide (c / 14%2=0)):=zp (qz (qz (zo (qf (x_v rfl) (qf x_c ql)) rfl ec) x_c (vx _ _ (by decide) (by decide))) x_c (jb _ _ (by decide))) x_c (q1o _ _)
  by_cases hz:c / 14%2=0
  ·exact wb tc (m6 hz) (qjo (qf (x_v rfl) (qf x_c ql)) rfl rfl ei)
  ·exact j4 tc (m8 hz) zj
 refine xy (ρ':=_) (qw (js (qz (qz (zo (qf (x_v rfl) (qf x_c ql)) rfl ec) x_c (vx _ _ (by decide) (by decide))) x_c em)) (qw (qjo (qf (x_v rfl) ql) rfl rfl ei) (qw hn (qw (q5p (q1h ql (by decide))) (qw (q1r (b:=false) (q3k (q7l (q1q (wy (q0x rfl ql rfl rfl (q8p (w:Int) [])) (q5q (qf (vy (qf (x_v rfl) (qf (vy ql (by decide)) ql)) (by show 2<=1000000;decide)) ql))) rfl (q9h (w:Int) [])) rfl)) rfl zj) (qw (qac hr el) (qad rfl (xq x_c))))))))
end My
namespace My
open PySem PySem.Spec PyProof.Rows L2 DL
open PySem.W (nsIn fnOf keepIn codeIn mg_of subIn mg_none_of findIn plainGet)
theorem ln1{s:Shared}{fd:FuncData}{ps:List Str}(h:∀a0,BindsTo s fd ⟨[a0],[]⟩ (ps.zip ([a0]++[]))): ∀us:List Value,(us++[]).length=1->BindsTo s fd ⟨us,[]⟩ (ps.zip (us++[]))
 | [a0],_=>h a0
theorem ln2{s:Shared}{fd:FuncData}{ps:List Str}(h:∀a0 a1,BindsTo s fd ⟨[a0,a1],[]⟩ (ps.zip ([a0,a1]++[]))): ∀us:List Value,(us++[]).length=2->BindsTo s fd ⟨us,[]⟩ (ps.zip (us++[]))
 | [a0,a1],_=>h a0 a1
theorem ln3{s:Shared}{fd:FuncData}{ps:List Str}(h:∀a0 a1 a2,BindsTo s fd ⟨[a0,a1,a2],[]⟩ (ps.zip ([a0,a1,a2]++[]))): ∀us:List Value,(us++[]).length=3->BindsTo s fd ⟨us,[]⟩ (ps.zip (us++[]))
 | [a0,a1,a2],_=>h a0 a1 a2
theorem ln4{s:Shared}{fd:FuncData}{ps:List Str}(h:∀a0 a1 a2 a3,BindsTo s fd ⟨[a0,a1,a2,a3],[]⟩ (ps.zip ([a0,a1,a2,a3]++[]))): ∀us:List Value,(us++[]).length=4->BindsTo s fd ⟨us,[]⟩ (ps.zip (us++[]))
 | [a0,a1,a2,a3],_=>h a0 a1 a2 a3
theorem all_mk[Lam]{l:PySem.W.OpenLaw}{w:World}{K:Frag}{h:Heap}{mg:Str->Option Value}{fa:Addr}(X:K.In h)(G:h.Ns mainGlobals mg)(hfa:mg "law" = some (.ref fa))(hm:∀ns:List Int,ns.length<=63->qf1 [.lst (ns.map .int)]=some (.bl true))
  {C_Store:Addr}
  (x_Store:nsIn K mainGlobals "Store" = some (some (.ref C_Store)))
  (mk_Store:PySem.W.makesIn K C_Store=true)
  (kp_Store:keepIn K (.ref C_Store)=true)
  (pg_Store:plainGet K C_Store Str.empty=true)
  (hd_Store:PySem.W.hasDictIn K C_Store=true)
  (po_Store:PySem.W.plainOver K C_Store=true)
  (sa_Store:findIn K (.ref C_Store) "__setattr__" = some (some (.builtin "object.__setattr__")))
  (nawares_Store:findIn K (.ref C_Store) "wares" = some none)
  (nawindow_Store:findIn K (.ref C_Store) "window" = some none)
  (naruns_Store:findIn K (.ref C_Store) "runs" = some none)
  {fa_10:Addr} {fd_is_number:FuncData} (x_is_number:nsIn K mainGlobals "is_number" = some (some (.ref fa_10))) (F_is_number:Fun2 K "is_number" "is_number" y6 .none fa_10 fd_is_number)
  {fa_13:Addr} {fd_is_within:FuncData} (x_is_within:nsIn K mainGlobals "is_within" = some (some (.ref fa_13))) (F_is_within:Fun2 K "is_within" "is_within" y8 .none fa_13 fd_is_within)
  {fa_1:Addr} {od_1 an_1:Option Addr} {sl_1:Array (Option Value)} {oc_1 kV_1 dc_1 pm_1 cd_1 ct_1:Value} {T_Store___init__:Addr}
  (x_Store___init__:findIn K (.ref C_Store) "__init__" = some (some (.ref fa_1))) (i_1:PySem.W.isFn K (.ref fa_1)=true)
  (l_1:K.lookup fa_1=some ⟨oc_1,od_1,.func (fnOf "__init__" "Store.__init__" (jk zr) (qr zr) (qc zr) (.ref T_Store___init__) kV_1 dc_1 pm_1 an_1 cd_1 ct_1),sl_1⟩)
  (q_1:codeIn K cd_1 "Store.__init__" = true) (k_1:keepIn K (.ref fa_1)=true)
  {ocd_Store___init__:Value} {odd_Store___init__:Option Addr} {nd_Store___init__:Nat} {sld_Store___init__:Array (Option Value)} (d_Store___init__:K.lookup T_Store___init__=some ⟨ocd_Store___init__,odd_Store___init__,.seq #[.none] nd_Store___init__,sld_Store___init__⟩)
  {fa_21:Addr} {fd_law_same:FuncData} (x_law_same:nsIn K mainGlobals "_law_same" = some (some (.ref fa_21))) (F_law_same:Fun2 K "_law_same" "_law_same" ki .none fa_21 fd_law_same)
  {fa_4:Addr} {od_4 an_4:Option Addr} {sl_4:Array (Option Value)} {oc_4 kV_4 dc_4 pm_4 cd_4 ct_4:Value}
  (x_Store_pile:findIn K (.ref C_Store) "pile" = some (some (.ref fa_4))) (i_4:PySem.W.isFn K (.ref fa_4)=true)
  (l_4:K.lookup fa_4=some ⟨oc_4,od_4,.func (fnOf "pile" "Store.pile" (jk jg) (qr jg) (qc jg) .none kV_4 dc_4 pm_4 an_4 cd_4 ct_4),sl_4⟩)
  (q_4:codeIn K cd_4 "Store.pile" = true) (k_4:keepIn K (.ref fa_4)=true)
  {fa_14:Addr} {fd_law_cell:FuncData} (x_law_cell:nsIn K mainGlobals "_law_cell" = some (some (.ref fa_14))) (F_law_cell:Fun2 K "_law_cell" "_law_cell" kj .none fa_14 fd_law_cell)
  {fa_18:Addr} {fd_law_mixed:FuncData} (x_law_mixed:nsIn K mainGlobals "_law_mixed" = some (some (.ref fa_18))) (F_law_mixed:Fun2 K "_law_mixed" "_law_mixed" y9 .none fa_18 fd_law_mixed)
  {fa_17:Addr} {fd_law_many_deeds:FuncData} (x_law_many_deeds:nsIn K mainGlobals "_law_many_deeds" = some (some (.ref fa_17))) (F_law_many_deeds:Fun2 K "_law_many_deeds" "_law_many_deeds" jl .none fa_17 fd_law_many_deeds)
  {fa_19:Addr} {fd_law_number:FuncData} (x_law_number:nsIn K mainGlobals "_law_number" = some (some (.ref fa_19))) (F_law_number:Fun2 K "_law_number" "_law_number" ve .none fa_19 fd_law_number)
  {fa_22:Addr} {fd_law_set:FuncData} (x_law_set:nsIn K mainGlobals "_law_set" = some (some (.ref fa_22))) (F_law_set:Fun2 K "_law_set" "_law_set" q02 .none fa_22 fd_law_set)
  {fa_24:Addr} {fd_law_there:FuncData} (x_law_there:nsIn K mainGlobals "_law_there" = some (some (.ref fa_24))) (F_law_there:Fun2 K "_law_there" "_law_there" ya .none fa_24 fd_law_there)
  {fa_16:Addr} {fd_law_deed:FuncData} (x_law_deed:nsIn K mainGlobals "_law_deed" = some (some (.ref fa_16))) (F_law_deed:Fun2 K "_law_deed" "_law_deed" km .none fa_16 fd_law_deed)
  {fa_25:Addr} {fd_lies_below:FuncData} (x_lies_below:nsIn K mainGlobals "lies_below" = some (some (.ref fa_25))) (F_lies_below:Fun2 K "lies_below" "lies_below" vf .none fa_25 fd_lies_below)
  {fa_9:Addr} {fd_count:FuncData} (x_count:nsIn K mainGlobals "count" = some (some (.ref fa_9))) (F_count:Fun2 K "count" "count" q1n .none fa_9 fd_count)
  {fa_3:Addr} {od_3 an_3:Option Addr} {sl_3:Array (Option Value)} {oc_3 kV_3 dc_3 pm_3 cd_3 ct_3:Value}
  (x_Store_count:findIn K (.ref C_Store) "count" = some (some (.ref fa_3))) (i_3:PySem.W.isFn K (.ref fa_3)=true)
  (l_3:K.lookup fa_3=some ⟨oc_3,od_3,.func (fnOf "count" "Store.count" (jk j8) (qr j8) (qc j8) .none kV_3 dc_3 pm_3 an_3 cd_3 ct_3),sl_3⟩)
  (q_3:codeIn K cd_3 "Store.count" = true) (k_3:keepIn K (.ref fa_3)=true)
  {fa_15:Addr} {fd_law_counted:FuncData} (x_law_counted:nsIn K mainGlobals "_law_counted" = some (some (.ref fa_15))) (F_law_counted:Fun2 K "_law_counted" "_law_counted" xr .none fa_15 fd_law_counted)
  {fa_12:Addr} {od_12 an_12:Option Addr} {sl_12:Array (Option Value)} {oc_12 kV_12 dc_12 pm_12 cd_12 ct_12:Value} {T_is_set:Addr}
  (x_is_set:nsIn K mainGlobals "is_set" = some (some (.ref fa_12)))
  (l_12:K.lookup fa_12=some ⟨oc_12,od_12,.func (fnOf "is_set" "is_set" (jk vt) (qr vt) (qc vt) (.ref T_is_set) kV_12 dc_12 pm_12 an_12 cd_12 ct_12),sl_12⟩)
  (q_12:codeIn K cd_12 "is_set" = true) (k_12:keepIn K (.ref fa_12)=true)
  {t_is_set_0:Tok} {ocd_is_set:Value} {odd_is_set:Option Addr} {nd_is_set:Nat} {sld_is_set:Array (Option Value)} (d_is_set:K.lookup T_is_set=some ⟨ocd_is_set,odd_is_set,.seq #[.int 12 t_is_set_0] nd_is_set,sld_is_set⟩)
  {fa_11:Addr} {fd_is_run:FuncData} (x_is_run:nsIn K mainGlobals "is_run" = some (some (.ref fa_11))) (F_is_run:Fun2 K "is_run" "is_run" q0n .none fa_11 fd_is_run)
  {fa_2:Addr} {od_2 an_2:Option Addr} {sl_2:Array (Option Value)} {oc_2 kV_2 dc_2 pm_2 cd_2 ct_2:Value}
  (x_Store_check_run:findIn K (.ref C_Store) "check_run" = some (some (.ref fa_2))) (i_2:PySem.W.isFn K (.ref fa_2)=true)
  (l_2:K.lookup fa_2=some ⟨oc_2,od_2,.func (fnOf "check_run" "Store.check_run" (jk zl) (qr zl) (qc zl) .none kV_2 dc_2 pm_2 an_2 cd_2 ct_2),sl_2⟩)
  (q_2:codeIn K cd_2 "Store.check_run" = true) (k_2:keepIn K (.ref fa_2)=true)
  {fa_26:Addr} {od_26 an_26:Option Addr} {sl_26:Array (Option Value)} {oc_26 kV_26 dc_26 pm_26 cd_26 ct_26:Value} {T_parted:Addr}
  (x_parted:nsIn K mainGlobals "parted" = some (some (.ref fa_26)))
  (l_26:K.lookup fa_26=some ⟨oc_26,od_26,.func (fnOf "parted" "parted" (jk vv) (qr vv) (qc vv) (.ref T_parted) kV_26 dc_26 pm_26 an_26 cd_26 ct_26),sl_26⟩)
  (q_26:codeIn K cd_26 "parted" = true) (k_26:keepIn K (.ref fa_26)=true)
  {ocd_parted:Value} {odd_parted:Option Addr} {nd_parted:Nat} {sld_parted:Array (Option Value)} (d_parted:K.lookup T_parted=some ⟨ocd_parted,odd_parted,.seq #[.none] nd_parted,sld_parted⟩)
  {fa_8:Addr} {fd_baskets_of:FuncData} (x_baskets_of:nsIn K mainGlobals "baskets_of" = some (some (.ref fa_8))) (F_baskets_of:Fun2 K "baskets_of" "baskets_of" vh .none fa_8 fd_baskets_of)
  {fa_7:Addr} {od_7 an_7:Option Addr} {sl_7:Array (Option Value)} {oc_7 kV_7 dc_7 pm_7 cd_7 ct_7:Value}
  (x_Store_too_many:findIn K (.ref C_Store) "too_many" = some (some (.ref fa_7))) (i_7:PySem.W.isFn K (.ref fa_7)=true)
  (l_7:K.lookup fa_7=some ⟨oc_7,od_7,.func (fnOf "too_many" "Store.too_many" (jk zu) (qr zu) (qc zu) .none kV_7 dc_7 pm_7 an_7 cd_7 ct_7),sl_7⟩)
  (q_7:codeIn K cd_7 "Store.too_many" = true) (k_7:keepIn K (.ref fa_7)=true)
  {fa_5:Addr} {od_5 an_5:Option Addr} {sl_5:Array (Option Value)} {oc_5 kV_5 dc_5 pm_5 cd_5 ct_5:Value}
  (x_Store_put:findIn K (.ref C_Store) "put" = some (some (.ref fa_5))) (i_5:PySem.W.isFn K (.ref fa_5)=true)
  (l_5:K.lookup fa_5=some ⟨oc_5,od_5,.func (fnOf "put" "Store.put" (jk jr) (qr jr) (qc jr) .none kV_5 dc_5 pm_5 an_5 cd_5 ct_5),sl_5⟩)
  (q_5:codeIn K cd_5 "Store.put" = true) (k_5:keepIn K (.ref fa_5)=true)
  {fa_27:Addr} {fd_runs_like:FuncData} (x_runs_like:nsIn K mainGlobals "runs_like" = some (some (.ref fa_27))) (F_runs_like:Fun2 K "runs_like" "runs_like" yc .none fa_27 fd_runs_like)
  {fa_6:Addr} {od_6 an_6:Option Addr} {sl_6:Array (Option Value)} {oc_6 kV_6 dc_6 pm_6 cd_6 ct_6:Value}
  (x_Store_take:findIn K (.ref C_Store) "take" = some (some (.ref fa_6))) (i_6:PySem.W.isFn K (.ref fa_6)=true)
  (l_6:K.lookup fa_6=some ⟨oc_6,od_6,.func (fnOf "take" "Store.take" (jk zm) (qr zm) (qc zm) .none kV_6 dc_6 pm_6 an_6 cd_6 ct_6),sl_6⟩)
  (q_6:codeIn K cd_6 "Store.take" = true) (k_6:keepIn K (.ref fa_6)=true)
  {fa_23:Addr} {fd_law_taken:FuncData} (x_law_taken:nsIn K mainGlobals "_law_taken" = some (some (.ref fa_23))) (F_law_taken:Fun2 K "_law_taken" "_law_taken" ye .none fa_23 fd_law_taken)
  {fa_20:Addr} {fd_law_refused:FuncData} (x_law_refused:nsIn K mainGlobals "_law_refused" = some (some (.ref fa_20))) (F_law_refused:Fun2 K "_law_refused" "_law_refused" xu .none fa_20 fd_law_refused)
  {fa_law:Addr} {fd_law:FuncData} (x_law:nsIn K mainGlobals "law" = some (some (.ref fa_law))) (F_law:Fun2 K "law" "law" q5o .none fa_law fd_law)
  (xa_count_piles:nsIn K mainGlobals "count_piles" = some (some (.ref fa_9)))
  {C_NotThere:Addr} (ns_NotThere:nsIn K mainGlobals "NotThere" = some (some (.ref C_NotThere)))
  {C_NoRun:Addr} (ns_NoRun:nsIn K mainGlobals "NoRun" = some (some (.ref C_NoRun)))
  {C_NoShare:Addr} (ns_NoShare:nsIn K mainGlobals "NoShare" = some (some (.ref C_NoShare)))
  {C_NoStore:Addr} (ns_NoStore:nsIn K mainGlobals "NoStore" = some (some (.ref C_NoStore)))
  {C_NoText:Addr} (ns_NoText:nsIn K mainGlobals "NoText" = some (some (.ref C_NoText)))
  {C_NoTree:Addr} (ns_NoTree:nsIn K mainGlobals "NoTree" = some (some (.ref C_NoTree)))
  {C_TooGreat:Addr} (ns_TooGreat:nsIn K mainGlobals "TooGreat" = some (some (.ref C_TooGreat)))
  {C_OftenError:Addr} (ns_OftenError:nsIn K mainGlobals "OftenError" = some (some (.ref C_OftenError)))
  {fa_0:Addr} {od_0 an_0:Option Addr} {sl_0:Array (Option Value)} {oc_0 kV_0 dc_0 pm_0 cd_0 ct_0:Value}
  (x_NotThere___init__:findIn K (.ref C_NotThere) "__init__" = some (some (.ref fa_0)))
  (l_0:K.lookup fa_0=some ⟨oc_0,od_0,.func (fnOf "__init__" "NotThere.__init__" (jk zk) (qr zk) (qc zk) .none kV_0 dc_0 pm_0 an_0 cd_0 ct_0),sl_0⟩)
  (q_0:codeIn K cd_0 "NotThere.__init__" = true) (k_0:keepIn K (.ref fa_0)=true)
  (ei_NotThere:w6 K C_NotThere fa_0=true)
  (tI_NotThere:PySem.W.typeIn K (.ref fa_0)=some (.type "function"))
  (kp_NotThere:keepIn K (.ref C_NotThere)=true)
  (tp_NotThere:PySem.W.typeIn K (.ref C_NotThere)=some (.type "type"))
  (ga_NotThere:findIn K (.ref C_NotThere) "__getattribute__" = some (some (.builtin "BaseException.__getattribute__")))
  (gk_NotThere:findIn K (.ref C_NotThere) "__getattr__" = some none)
  (cc_NotThere:findIn K (.ref C_NotThere) "__class__" = some (some (.builtin "object.__class__")))
  (cs_NotThere:PySem.W.specialIn K (.builtin "object.__class__") "__get__" = some (some (.builtin "getset_descriptor.__get__")))
  (ct_NotThere:PySem.W.takesIn K (.builtin "object.__class__")=some true)
  (cm_NotThere:PySem.W.mroIn K C_NotThere (.type "object")=some true)
  (cb_NotThere:PySem.W.mroIn K C_NotThere (.type "BaseException")=some true)
  (ciint_NotThere:PySem.W.kitOne K (.ref C_NotThere) (.type "int")=some false)
  (cibool_NotThere:PySem.W.kitOne K (.ref C_NotThere) (.type "bool")=some false)
  (cituple_NotThere:PySem.W.kitOne K (.ref C_NotThere) (.type "tuple")=some false)
  (cilist_NotThere:PySem.W.kitOne K (.ref C_NotThere) (.type "list")=some false)
  (cistr_NotThere:PySem.W.kitOne K (.ref C_NotThere) (.type "str")=some false)
  (cidict_NotThere:PySem.W.kitOne K (.ref C_NotThere) (.type "dict")=some false)
  (sa_NotThere:findIn K (.ref C_NotThere) "__setattr__" = some (some (.builtin "object.__setattr__")))
  (ov_NotThere:qes K C_NotThere=true)
  (na_NotThere:findIn K (.ref C_NotThere) "there" = some none)
  (hd_NotThere:PySem.W.hasDictIn K C_NotThere=true)
  (sp_OftenError:PySem.W.specialIn K (.ref C_OftenError) "__getattribute__" = some (some (.builtin "type.__getattribute__"))) (rd_OftenError:PySem.W.readsIn K C_OftenError (.type "type")=true) (fc_OftenError:PySem.W.findCls K (.ref C_OftenError) (.type "type") "__init__" = some (.val (.builtin "ValueError.__init__")))
  (mr_NotThere_NotThere:PySem.W.mroIn K C_NotThere (.ref C_NotThere)=some true)
  (ka_NotThere_NoRun_NoShare_NoStore_NoText:PySem.W.kitAny K (.ref C_NotThere) ([C_NoRun,C_NoShare,C_NoStore,C_NoText].map Value.ref)=some false)
  (ka_NotThere_NoTree_TooGreat:PySem.W.kitAny K (.ref C_NotThere) ([C_NoTree,C_TooGreat].map Value.ref)=some false)
  (kt_NotThere_OftenError:PySem.W.kitOne K (.ref C_NotThere) (.ref C_OftenError)=some true)
  (kt_NotThere_ValueError:PySem.W.kitOne K (.ref C_NotThere) (.type "ValueError")=some true)
  (z_isinstance:nsIn K mainGlobals "isinstance" = some none)
  (z_int:nsIn K mainGlobals "int" = some none)
  (z_bool:nsIn K mainGlobals "bool" = some none)
  (z_tuple:nsIn K mainGlobals "tuple" = some none)
  (z_zip:nsIn K mainGlobals "zip" = some none)
  (z_len:nsIn K mainGlobals "len" = some none)
  (z_max:nsIn K mainGlobals "max" = some none)
  (z_min:nsIn K mainGlobals "min" = some none)
  (z_range:nsIn K mainGlobals "range" = some none)
  (z_sum:nsIn K mainGlobals "sum" = some none)
  (z_all:nsIn K mainGlobals "all" = some none)
  (z_ValueError:nsIn K mainGlobals "ValueError" = some none)
  {tk_MOST_WARES:Tok} (y_MOST_WARES:nsIn K mainGlobals "MOST_WARES" = some (some (.int 12 tk_MOST_WARES)))
  {tk_MOST_WINDOW:Tok} (y_MOST_WINDOW:nsIn K mainGlobals "MOST_WINDOW" = some (some (.int 1000000000000000 tk_MOST_WINDOW)))
  {tk_MOST_MANY:Tok} (y_MOST_MANY:nsIn K mainGlobals "MOST_MANY" = some (some (.int 1000000000000 tk_MOST_MANY)))
  {tk_MOST_RUNS:Tok} (y_MOST_RUNS:nsIn K mainGlobals "MOST_RUNS" = some (some (.int 200 tk_MOST_RUNS)))
  : ∃fd:FuncData,(∀(s:Shared) (v:Value),BindsTo s fd ⟨[v],[]⟩ [("_law_script",v)])/\∀base:Heap,K.In base->base.Ns mainGlobals mg->FnOk l.prog w K mg base CX0 19 fa fd ["_law_script"] (qa7 K):=by
 have O_Store:ClsF K "Store" C_Store ["wares","window","runs"]:=⟨x_Store,⟨pg_Store,hd_Store,po_Store,sa_Store⟩,fun f hf=>(by simp only [mf,g0r,uk] at hf;rcases hf with rfl|rfl|rfl <;> assumption)⟩
 have k_10:=F_is_number.kp;have k_13:=F_is_within.kp;have F_Store___init__:=vd (st:=zr) l_1 q_1 k_1;have k_21:=F_law_same.kp;have F_Store_pile:=vd (st:=jg) l_4 q_4 k_4;have k_14:=F_law_cell.kp;have k_18:=F_law_mixed.kp;have k_17:=F_law_many_deeds.kp;have k_19:=F_law_number.kp;have k_22:=F_law_set.kp;have k_24:=F_law_there.kp;have k_16:=F_law_deed.kp;have k_25:=F_lies_below.kp;have k_9:=F_count.kp;have F_Store_count:=vd (st:=j8) l_3 q_3 k_3;have k_15:=F_law_counted.kp;have F_is_set:=vd (st:=vt) l_12 q_12 k_12;have k_11:=F_is_run.kp;have F_Store_check_run:=vd (st:=zl) l_2 q_2 k_2;have F_parted:=vd (st:=vv) l_26 q_26 k_26;have k_8:=F_baskets_of.kp;have F_Store_too_many:=vd (st:=zu) l_7 q_7 k_7;have F_Store_put:=vd (st:=jr) l_5 q_5 k_5;have k_27:=F_runs_like.kp;have F_Store_take:=vd (st:=zm) l_6 q_6 k_6;have k_23:=F_law_taken.kp;have k_20:=F_law_refused.kp;have k_law:=F_law.kp;have ca_count_piles:=mg_of X G xa_count_piles;have m_NotThere:=mg_of X G ns_NotThere;have m_NoRun:=mg_of X G ns_NoRun;have m_NoShare:=mg_of X G ns_NoShare;have m_NoStore:=mg_of X G ns_NoStore;have m_NoText:=mg_of X G ns_NoText;have m_NoTree:=mg_of X G ns_NoTree;have m_TooGreat:=mg_of X G ns_TooGreat;have m_OftenError:=mg_of X G ns_OftenError;have F_NotThere___init__:=vd (st:=zk) l_0 q_0 k_0;have cx_NotThere:q7v K C_NotThere:=⟨⟨ga_NotThere,gk_NotThere,cc_NotThere,cs_NotThere,ct_NotThere,cm_NotThere,cb_NotThere⟩,qkj ciint_NotThere cibool_NotThere cituple_NotThere cilist_NotThere cistr_NotThere cidict_NotThere⟩
 have ci_NotThere:ClsI K C_NotThere "there" :=⟨sa_NotThere,ov_NotThere,na_NotThere,hd_NotThere⟩
 have n_isinstance:=mg_none_of X G z_isinstance;have n_int:=mg_none_of X G z_int;have n_bool:=mg_none_of X G z_bool;have n_tuple:=mg_none_of X G z_tuple;have n_zip:=mg_none_of X G z_zip;have n_len:=mg_none_of X G z_len;have n_max:=mg_none_of X G z_max;have n_min:=mg_none_of X G z_min;have n_range:=mg_none_of X G z_range;have n_sum:=mg_none_of X G z_sum;have n_all:=mg_none_of X G z_all;have n_ValueError:=mg_none_of X G z_ValueError;have g_MOST_WARES:∃t,mg "MOST_WARES" = some (.int 12 t):=⟨_,mg_of X G y_MOST_WARES⟩
 have g_MOST_WINDOW:∃t,mg "MOST_WINDOW" = some (.int 1000000000000000 t):=⟨_,mg_of X G y_MOST_WINDOW⟩
 have g_MOST_MANY:∃t,mg "MOST_MANY" = some (.int 1000000000000 t):=⟨_,mg_of X G y_MOST_MANY⟩
 have g_MOST_RUNS:∃t,mg "MOST_RUNS" = some (.int 200 t):=⟨_,mg_of X G y_MOST_RUNS⟩
 have e:=hfa.symm.trans (mg_of X G x_law);cases e;have b_10:Binds K _ ["thing"] []:=F_is_number.bindsTo (P:=fun fd=>Binds K fd ["thing"] []) fun _ _ _ _ _ _ s us hk hl=>ln1 (fun _=>.of_eq rfl) us hl;have b_13:Binds K _ ["thing","lowest","highest"] []:=F_is_within.bindsTo (P:=fun fd=>Binds K fd ["thing","lowest","highest"] []) fun _ _ _ _ _ _ s us hk hl=>ln3 (fun _ _ _=>.of_eq rfl) us hl;have b_1:Binds K _ ["self","wares","window"] []:=F_Store___init__.bindsTo (P:=fun fd=>Binds K fd ["self","wares","window"] []) fun _ _ _ _ _ _ s us hk hl=>ln3 (fun _ _ _=>uc rfl (hk _ _ d_Store___init__) rfl rfl rfl) us hl;have bd_Store___init___1:Binds K _ ["self","wares","window"] [.none]:=F_Store___init__.bindsTo (P:=fun fd=>Binds K fd ["self","wares","window"] [.none]) fun _ _ _ _ _ _=>qjj 2 rfl fun s us hk hl=>match us,hl with | [_,_],_=>uc rfl (hk _ _ d_Store___init__) rfl rfl rfl
 have dv_Store___init___1:Vals [V.non] [.none]:=.cons rfl (.nil);have dd_Store___init___1:∀ {H:Hp},RepL K H [.non] [V.non]:=fun {H}=>RepL.cons (by simp only [Rep]) (RepL.nil);have b_21:Binds K _ ["_law_found","_law_due"] []:=F_law_same.bindsTo (P:=fun fd=>Binds K fd ["_law_found","_law_due"] []) fun _ _ _ _ _ _ s us hk hl=>ln2 (fun _ _=>.of_eq rfl) us hl;have b_4:Binds K _ ["self"] []:=F_Store_pile.bindsTo (P:=fun fd=>Binds K fd ["self"] []) fun _ _ _ _ _ _ s us hk hl=>ln1 (fun _=>.of_eq rfl) us hl;have b_14:Binds K _ ["_law_script","_law_k"] []:=F_law_cell.bindsTo (P:=fun fd=>Binds K fd ["_law_script","_law_k"] []) fun _ _ _ _ _ _ s us hk hl=>ln2 (fun _ _=>.of_eq rfl) us hl;have b_18:Binds K _ ["_law_cell_here","_law_k"] []:=F_law_mixed.bindsTo (P:=fun fd=>Binds K fd ["_law_cell_here","_law_k"] []) fun _ _ _ _ _ _ s us hk hl=>ln2 (fun _ _=>.of_eq rfl) us hl;have b_17:Binds K _ ["_law_script"] []:=F_law_many_deeds.bindsTo (P:=fun fd=>Binds K fd ["_law_script"] []) fun _ _ _ _ _ _ s us hk hl=>ln1 (fun _=>.of_eq rfl) us hl;have b_19:Binds K _ ["_law_script","_law_k"] []:=F_law_number.bindsTo (P:=fun fd=>Binds K fd ["_law_script","_law_k"] []) fun _ _ _ _ _ _ s us hk hl=>ln2 (fun _ _=>.of_eq rfl) us hl;have b_22:Binds K _ ["_law_mark","_law_wares"] []:=F_law_set.bindsTo (P:=fun fd=>Binds K fd ["_law_mark","_law_wares"] []) fun _ _ _ _ _ _ s us hk hl=>ln2 (fun _ _=>.of_eq rfl) us hl;have b_24:Binds K _ ["_law_runs","_law_basket"] []:=F_law_there.bindsTo (P:=fun fd=>Binds K fd ["_law_runs","_law_basket"] []) fun _ _ _ _ _ _ s us hk hl=>ln2 (fun _ _=>.of_eq rfl) us hl;have b_16:Binds K _ ["_law_number_here","_law_wares","_law_runs"] []:=F_law_deed.bindsTo (P:=fun fd=>Binds K fd ["_law_number_here","_law_wares","_law_runs"] []) fun _ _ _ _ _ _ s us hk hl=>ln3 (fun _ _ _=>.of_eq rfl) us hl;have b_25:Binds K _ ["one","other"] []:=F_lies_below.bindsTo (P:=fun fd=>Binds K fd ["one","other"] []) fun _ _ _ _ _ _ s us hk hl=>ln2 (fun _ _=>.of_eq rfl) us hl;have b_9:Binds K _ ["pile","some"] []:=F_count.bindsTo (P:=fun fd=>Binds K fd ["pile","some"] []) fun _ _ _ _ _ _ s us hk hl=>ln2 (fun _ _=>.of_eq rfl) us hl;have b_3:Binds K _ ["self","some"] []:=F_Store_count.bindsTo (P:=fun fd=>Binds K fd ["self","some"] []) fun _ _ _ _ _ _ s us hk hl=>ln2 (fun _ _=>.of_eq rfl) us hl;have b_15:Binds K _ ["_law_store","_law_runs","_law_some"] []:=F_law_counted.bindsTo (P:=fun fd=>Binds K fd ["_law_store","_law_runs","_law_some"] []) fun _ _ _ _ _ _ s us hk hl=>ln3 (fun _ _ _=>.of_eq rfl) us hl;have b_12:Binds K _ ["thing","wares"] []:=F_is_set.bindsTo (P:=fun fd=>Binds K fd ["thing","wares"] []) fun _ _ _ _ _ _ s us hk hl=>ln2 (fun _ _=>uc rfl (hk _ _ d_is_set) rfl rfl rfl) us hl;have b_11:Binds K _ ["thing","wares"] []:=F_is_run.bindsTo (P:=fun fd=>Binds K fd ["thing","wares"] []) fun _ _ _ _ _ _ s us hk hl=>ln2 (fun _ _=>.of_eq rfl) us hl;have b_2:Binds K _ ["self","many","basket"] []:=F_Store_check_run.bindsTo (P:=fun fd=>Binds K fd ["self","many","basket"] []) fun _ _ _ _ _ _ s us hk hl=>ln3 (fun _ _ _=>.of_eq rfl) us hl;have b_26:Binds K _ ["runs","number","chosen"] []:=F_parted.bindsTo (P:=fun fd=>Binds K fd ["runs","number","chosen"] []) fun _ _ _ _ _ _ s us hk hl=>ln3 (fun _ _ _=>uc rfl (hk _ _ d_parted) rfl rfl rfl) us hl;have bd_parted_1:Binds K _ ["runs","number","chosen"] [.none]:=F_parted.bindsTo (P:=fun fd=>Binds K fd ["runs","number","chosen"] [.none]) fun _ _ _ _ _ _=>qjj 2 rfl fun s us hk hl=>match us,hl with | [_,_],_=>uc rfl (hk _ _ d_parted) rfl rfl rfl
 have dv_parted_1:Vals [V.non] [.none]:=.cons rfl (.nil);have dd_parted_1:∀ {H:Hp},RepL K H [.non] [V.non]:=fun {H}=>RepL.cons (by simp only [Rep]) (RepL.nil);have b_8:Binds K _ ["runs"] []:=F_baskets_of.bindsTo (P:=fun fd=>Binds K fd ["runs"] []) fun _ _ _ _ _ _ s us hk hl=>ln1 (fun _=>.of_eq rfl) us hl;have b_7:Binds K _ ["self","runs"] []:=F_Store_too_many.bindsTo (P:=fun fd=>Binds K fd ["self","runs"] []) fun _ _ _ _ _ _ s us hk hl=>ln2 (fun _ _=>.of_eq rfl) us hl;have b_5:Binds K _ ["self","many","basket"] []:=F_Store_put.bindsTo (P:=fun fd=>Binds K fd ["self","many","basket"] []) fun _ _ _ _ _ _ s us hk hl=>ln3 (fun _ _ _=>.of_eq rfl) us hl;have b_27:Binds K _ ["runs","basket"] []:=F_runs_like.bindsTo (P:=fun fd=>Binds K fd ["runs","basket"] []) fun _ _ _ _ _ _ s us hk hl=>ln2 (fun _ _=>.of_eq rfl) us hl;have b_6:Binds K _ ["self","many","basket"] []:=F_Store_take.bindsTo (P:=fun fd=>Binds K fd ["self","many","basket"] []) fun _ _ _ _ _ _ s us hk hl=>ln3 (fun _ _ _=>.of_eq rfl) us hl;have b_23:Binds K _ ["_law_runs","_law_many","_law_basket"] []:=F_law_taken.bindsTo (P:=fun fd=>Binds K fd ["_law_runs","_law_many","_law_basket"] []) fun _ _ _ _ _ _ s us hk hl=>ln3 (fun _ _ _=>.of_eq rfl) us hl;have b_20:Binds K _ ["_law_store","_law_many","_law_basket","_law_there_here"] []:=F_law_refused.bindsTo (P:=fun fd=>Binds K fd ["_law_store","_law_many","_law_basket","_law_there_here"] []) fun _ _ _ _ _ _ s us hk hl=>ln4 (fun _ _ _ _=>.of_eq rfl) us hl;refine⟨_,F_law.bindsTo (P:=fun fd=>∀(s:Shared) (v:Value),BindsTo s fd ⟨[v],[]⟩ [("_law_script",v)]) (fun _ _ _ _ _ _ s v=>.of_eq rfl),fun base _ _=>?_⟩;have gI_NotThere:=q40 (P:=l.prog) (w:=w) (mg:=mg) (base:=base) F_NotThere___init__ m_OftenError sp_OftenError rd_OftenError fc_OftenError ei_NotThere ci_NotThere;have bI_NotThere:Binds K _ ["self","there"] []:=F_NotThere___init__.bindsTo (P:=fun fd=>Binds K fd ["self","there"] []) fun _ _ _ _ _ _ s us hk hl=>ln2 (fun _ _=>.of_eq rfl) us hl;have o_10:=qbv (P:=l.prog) (w:=w) (mg:=mg) (base:=base) F_is_number n_isinstance n_int n_bool;have c_10:=Cal.mk o_10 (mg_of X G x_is_number) k_10;have o_13:=qby (P:=l.prog) (w:=w) (mg:=mg) (base:=base) F_is_within c_10 b_10;have c_13:=Cal.mk o_13 (mg_of X G x_is_within) k_13;have o_1:=q5t (P:=l.prog) (w:=w) (mg:=mg) (base:=base) F_Store___init__ O_Store c_13 b_13 g_MOST_WARES g_MOST_WINDOW;have M_Store:MkF l.prog w K mg base "Store" C_Store _ _ _ _ _ _:=⟨o_1,⟨mk_Store,x_Store___init__,i_1,kp_Store⟩,mg_of X G x_Store,x_Store⟩
 have o_21:=qcv (P:=l.prog) (w:=w) (mg:=mg) (base:=base) F_law_same (mg_of X G x_law_same) k_21 b_21 n_isinstance n_tuple n_zip n_int n_bool n_len 16;have c_21:=Cal.mk o_21 (mg_of X G x_law_same) k_21;have o_4:=q9q (P:=l.prog) (w:=w) (mg:=mg) (base:=base) F_Store_pile O_Store;have c_4:CalF l.prog w K mg base "Store" "pile" C_Store _ _ _ _ _ _:=⟨o_4,⟨x_Store_pile,i_4,k_4⟩⟩
 have o_14:=qcy (P:=l.prog) (w:=w) (mg:=mg) (base:=base) F_law_cell n_len;have c_14:=Cal.mk o_14 (mg_of X G x_law_cell) k_14;have o_18:=qc0 (P:=l.prog) (w:=w) (mg:=mg) (base:=base) F_law_mixed;have c_18:=Cal.mk o_18 (mg_of X G x_law_mixed) k_18;have o_17:=q5w (P:=l.prog) (w:=w) (mg:=mg) (base:=base) F_law_many_deeds c_14 b_14 c_18 b_18 n_max n_min n_len;have c_17:=Cal.mk o_17 (mg_of X G x_law_many_deeds) k_17;have o_19:=q9t (P:=l.prog) (w:=w) (mg:=mg) (base:=base) F_law_number c_18 b_18 c_14 b_14 n_max n_len;have c_19:=Cal.mk o_19 (mg_of X G x_law_number) k_19;have o_22:=qez (P:=l.prog) (w:=w) (mg:=mg) (base:=base) F_law_set n_tuple n_range;have c_22:=Cal.mk o_22 (mg_of X G x_law_set) k_22;have o_24:=qc4 (P:=l.prog) (w:=w) (mg:=mg) (base:=base) F_law_there n_sum;have c_24:=Cal.mk o_24 (mg_of X G x_law_there) k_24;have o_16:=qd0 (P:=l.prog) (w:=w) (mg:=mg) (base:=base) F_law_deed c_22 b_22 c_24 b_24 n_min n_len;have c_16:=Cal.mk o_16 (mg_of X G x_law_deed) k_16;have o_25:=q9w (P:=l.prog) (w:=w) (mg:=mg) (base:=base) F_lies_below n_all;have c_25:=Cal.mk o_25 (mg_of X G x_lies_below) k_25;have o_9:=qix (P:=l.prog) (w:=w) (mg:=mg) (base:=base) F_count c_25 b_25 n_sum;have c_9:=Cal.mk o_9 (mg_of X G x_count) k_9;have o_3:=q8b (P:=l.prog) (w:=w) (mg:=mg) (base:=base) F_Store_count O_Store c_9 b_9 c_4 b_4 ca_count_piles;have c_3:CalF l.prog w K mg base "Store" "count" C_Store _ _ _ _ _ _:=⟨o_3,⟨x_Store_count,i_3,k_3⟩⟩
 have o_15:=q8e (P:=l.prog) (w:=w) (mg:=mg) (base:=base) F_law_counted O_Store c_21 b_21 c_3 b_3 n_sum;have c_15:=CalO.mk o_15 (mg_of X G x_law_counted) k_15;have o_12:=qgq (P:=l.prog) (w:=w) (mg:=mg) (base:=base) F_is_set c_10 b_10 n_min n_all n_isinstance n_tuple n_zip g_MOST_WARES;have c_12:=Cal.mk o_12 (mg_of X G x_is_set) k_12;have o_11:=qgt (P:=l.prog) (w:=w) (mg:=mg) (base:=base) F_is_run c_13 b_13 c_12 b_12 n_isinstance n_tuple n_len g_MOST_MANY;have c_11:=Cal.mk o_11 (mg_of X G x_is_run) k_11;have o_2:=q56 (P:=l.prog) (w:=w) (mg:=mg) (base:=base) F_Store_check_run O_Store c_11 b_11;have c_2:CalF l.prog w K mg base "Store" "check_run" C_Store _ _ _ _ _ _:=⟨o_2,⟨x_Store_check_run,i_2,k_2⟩⟩
 have o_26:=qgv (P:=l.prog) (w:=w) (mg:=mg) (base:=base) F_parted n_tuple n_min;have c_26:=Cal.mk o_26 (mg_of X G x_parted) k_26;have o_8:=q9z (P:=l.prog) (w:=w) (mg:=mg) (base:=base) F_baskets_of n_sum;have c_8:=Cal.mk o_8 (mg_of X G x_baskets_of) k_8;have o_7:=q60 (P:=l.prog) (w:=w) (mg:=mg) (base:=base) F_Store_too_many O_Store c_8 b_8 n_max;have c_7:CalF l.prog w K mg base "Store" "too_many" C_Store _ _ _ _ _ _:=⟨o_7,⟨x_Store_too_many,i_7,k_7⟩⟩
 have o_5:=qc8 (P:=l.prog) (w:=w) (mg:=mg) (base:=base) F_Store_put O_Store c_2 b_2 c_26 bd_parted_1 dv_parted_1 dd_parted_1 c_7 b_7 n_len g_MOST_RUNS;have c_5:CalF l.prog w K mg base "Store" "put" C_Store _ _ _ _ _ _:=⟨o_5,⟨x_Store_put,i_5,k_5⟩⟩
 have o_27:=qcb (P:=l.prog) (w:=w) (mg:=mg) (base:=base) F_runs_like;have c_27:=Cal.mk o_27 (mg_of X G x_runs_like) k_27;have o_6:=qa1 (P:=l.prog) (w:=w) (mg:=mg) (base:=base) F_Store_take O_Store c_2 b_2 c_8 b_8 c_27 b_27 c_26 b_26;have c_6:CalF l.prog w K mg base "Store" "take" C_Store _ _ _ _ _ _:=⟨o_6,⟨x_Store_take,i_6,k_6⟩⟩
 have gr_Store_take:=q8g (P:=l.prog) (w:=w) (mg:=mg) (base:=base) F_Store_take O_Store c_2 b_2 c_8 b_8 c_27 b_27 c_26 b_26 ei_NotThere gI_NotThere bI_NotThere tI_NotThere kp_NotThere m_NotThere ns_NotThere;have o_23:=qce (P:=l.prog) (w:=w) (mg:=mg) (base:=base) F_law_taken n_min;have c_23:=CalN.mk o_23 (mg_of X G x_law_taken) k_23;have o_20:=q8j (P:=l.prog) (w:=w) (mg:=mg) (base:=base) F_law_refused O_Store c_6 b_6 c_21 b_21 ns_NotThere cx_NotThere m_NotThere tp_NotThere mr_NotThere_NotThere gr_Store_take ci_NotThere m_NoRun m_NoShare m_NoStore m_NoText ka_NotThere_NoRun_NoShare_NoStore_NoText m_NoTree m_TooGreat ka_NotThere_NoTree_TooGreat m_OftenError kt_NotThere_OftenError kt_NotThere_ValueError n_isinstance n_ValueError;have c_20:=CalO.mk o_20 (mg_of X G x_law_refused) k_20;exact qmw (qnf (P:=l.prog) (w:=w) (mg:=mg) (base:=base) F_law O_Store M_Store b_1 bd_Store___init___1 dv_Store___init___1 dd_Store___init___1 c_21 b_21 c_4 b_4 c_17 b_17 c_19 b_19 c_16 b_16 c_24 b_24 c_14 b_14 c_15 b_15 c_5 b_5 c_6 b_6 c_23 b_23 c_22 b_22 c_20 b_20 n_range n_tuple) hm
end My
namespace PySem.W.Fast
theorem tw15729754876803715623 : True := trivial
theorem tw18417012634757085788 : True := trivial
theorem tw13680514859246621601 : True := trivial
theorem tw7441322754328409376 : True := trivial
theorem tw13574486422828851718 : True := trivial
theorem tw2802248706442831005 : True := trivial
theorem tw15213178006047854175 : True := trivial
theorem tw2280270532241031551 : True := trivial
theorem tw14703717978677125310 : True := trivial
theorem tw1123253942322596795 : True := trivial
theorem tw6893746169313991867 : True := trivial
theorem tw13453711953274364621 : True := trivial
theorem tw6442900529001163334 : True := trivial
theorem tw18091255211496231316 : True := trivial
theorem tw1762506947241708835 : True := trivial
theorem tw4886115593323236885 : True := trivial
theorem tw14801434577882697093 : True := trivial
theorem tw11360367776881152087 : True := trivial
theorem tw160545955741026277 : True := trivial
theorem tw18420092051086682514 : True := trivial
theorem tw5565541584802744260 : True := trivial
theorem tw6386363775996820215 : True := trivial
theorem tw16299174923986204938 : True := trivial
theorem tw10947151987444164998 : True := trivial
theorem tw10554351049860022804 : True := trivial
theorem tw9165977527052537638 : True := trivial
theorem tw12436952079269682410 : True := trivial
end PySem.W.Fast
open PySem PySem.W PyProof.Rows
local macro_rules | `(tactic| walk_at "F")=> `(tactic| (letI:DL.Lam:=⟨[]⟩;exact DL.vd (by k_is) (by k_is) (by k_is)))
set_option maxHeartbeats 0 in
theorem PySem.Challenge.cw_oftentogether_k41_put_and_taken_holds : PySem.Challenge.rw_oftentogether_k41_put_and_taken.Holds := by
 w_on;o_law;k_head;(case hw=>w_witness2)
 k_fill
 letI:DL.Lam:=⟨[]⟩
 refine DL.qmx rfl (l:=PySem.Challenge.rw_oftentogether_k41_put_and_taken) (k:=19) (x:="_law_script") rfl rfl ⟨rfl,by decide,by decide⟩ (fun w h Y=>PySem.W.kIn_of Y) ?F
 case F=>
  intro w mg fa h KX G hmg;refine' My.all_mk KX G hmg My.qjb ?x_Store ?mk_Store ?kp_Store ?pg_Store ?hd_Store ?po_Store ?sa_Store ?nawares_Store ?nawindow_Store ?naruns_Store ?x_is_number ?F_is_number ?x_is_within ?F_is_within ?x_Store___init__ ?i_1 ?l_1 ?q_1 ?k_1 ?d_Store___init__ ?x_law_same ?F_law_same ?x_Store_pile ?i_4 ?l_4 ?q_4 ?k_4 ?x_law_cell ?F_law_cell ?x_law_mixed ?F_law_mixed ?x_law_many_deeds ?F_law_many_deeds ?x_law_number ?F_law_number ?x_law_set ?F_law_set ?x_law_there ?F_law_there ?x_law_deed ?F_law_deed ?x_lies_below ?F_lies_below ?x_count ?F_count ?x_Store_count ?i_3 ?l_3 ?q_3 ?k_3 ?x_law_counted ?F_law_counted ?x_is_set ?l_12 ?q_12 ?k_12 ?d_is_set ?x_is_run ?F_is_run ?x_Store_check_run ?i_2 ?l_2 ?q_2 ?k_2 ?x_parted ?l_26 ?q_26 ?k_26 ?d_parted ?x_baskets_of ?F_baskets_of ?x_Store_too_many ?i_7 ?l_7 ?q_7 ?k_7 ?x_Store_put ?i_5 ?l_5 ?q_5 ?k_5 ?x_runs_like ?F_runs_like ?x_Store_take ?i_6 ?l_6 ?q_6 ?k_6 ?x_law_taken ?F_law_taken ?x_law_refused ?F_law_refused ?x_law ?F_law ?xa_count_piles ?ns_NotThere ?ns_NoRun ?ns_NoShare ?ns_NoStore ?ns_NoText ?ns_NoTree ?ns_TooGreat ?ns_OftenError ?x_NotThere___init__ ?l_0 ?q_0 ?k_0 ?ei_NotThere ?tI_NotThere ?kp_NotThere ?tp_NotThere ?ga_NotThere ?gk_NotThere ?cc_NotThere ?cs_NotThere ?ct_NotThere ?cm_NotThere ?cb_NotThere ?ciint_NotThere ?cibool_NotThere ?cituple_NotThere ?cilist_NotThere ?cistr_NotThere ?cidict_NotThere ?sa_NotThere ?ov_NotThere ?na_NotThere ?hd_NotThere ?sp_OftenError ?rd_OftenError ?fc_OftenError ?mr_NotThere_NotThere ?ka_NotThere_NoRun_NoShare_NoStore_NoText ?ka_NotThere_NoTree_TooGreat ?kt_NotThere_OftenError ?kt_NotThere_ValueError ?z_isinstance ?z_int ?z_bool ?z_tuple ?z_zip ?z_len ?z_max ?z_min ?z_range ?z_sum ?z_all ?z_ValueError ?y_MOST_WARES ?y_MOST_WINDOW ?y_MOST_MANY ?y_MOST_RUNS
  (case x_Store=>k_is)
  (case mk_Store=>k_is)
  (case kp_Store=>k_is)
  (case pg_Store=>k_is)
  (case hd_Store=>k_is)
  (case po_Store=>k_is)
  (case sa_Store=>k_is)
  (case nawares_Store=>k_is)
  (case nawindow_Store=>k_is)
  (case naruns_Store=>k_is)
  (case x_is_number=>k_is)
  (case F_is_number=>walk_at "F")
  (case x_is_within=>k_is)
  (case F_is_within=>walk_at "F")
  (case x_Store___init__=>k_is)
  (case i_1=>k_is)
  (case l_1=>k_is)
  (case q_1=>k_is)
  (case k_1=>k_is)
  (case d_Store___init__=>k_is)
  (case x_law_same=>k_is)
  (case F_law_same=>walk_at "F")
  (case x_Store_pile=>k_is)
  (case i_4=>k_is)
  (case l_4=>k_is)
  (case q_4=>k_is)
  (case k_4=>k_is)
  (case x_law_cell=>k_is)
  (case F_law_cell=>walk_at "F")
  (case x_law_mixed=>k_is)
  (case F_law_mixed=>walk_at "F")
  (case x_law_many_deeds=>k_is)
  (case F_law_many_deeds=>walk_at "F")
  (case x_law_number=>k_is)
  (case F_law_number=>walk_at "F")
  (case x_law_set=>k_is)
  (case F_law_set=>walk_at "F")
  (case x_law_there=>k_is)
  (case F_law_there=>walk_at "F")
  (case x_law_deed=>k_is)
  (case F_law_deed=>walk_at "F")
  (case x_lies_below=>k_is)
  (case F_lies_below=>walk_at "F")
  (case x_count=>k_is)
  (case F_count=>walk_at "F")
  (case x_Store_count=>k_is)
  (case i_3=>k_is)
  (case l_3=>k_is)
  (case q_3=>k_is)
  (case k_3=>k_is)
  (case x_law_counted=>k_is)
  (case F_law_counted=>walk_at "F")
  (case x_is_set=>k_is)
  (case l_12=>k_is)
  (case q_12=>k_is)
  (case k_12=>k_is)
  (case d_is_set=>k_is)
  (case x_is_run=>k_is)
  (case F_is_run=>walk_at "F")
  (case x_Store_check_run=>k_is)
  (case i_2=>k_is)
  (case l_2=>k_is)
  (case q_2=>k_is)
  (case k_2=>k_is)
  (case x_parted=>k_is)
  (case l_26=>k_is)
  (case q_26=>k_is)
  (case k_26=>k_is)
  (case d_parted=>k_is)
  (case x_baskets_of=>k_is)
  (case F_baskets_of=>walk_at "F")
  (case x_Store_too_many=>k_is)
  (case i_7=>k_is)
  (case l_7=>k_is)
  (case q_7=>k_is)
  (case k_7=>k_is)
  (case x_Store_put=>k_is)
  (case i_5=>k_is)
  (case l_5=>k_is)
  (case q_5=>k_is)
  (case k_5=>k_is)
  (case x_runs_like=>k_is)
  (case F_runs_like=>walk_at "F")
  (case x_Store_take=>k_is)
  (case i_6=>k_is)
  (case l_6=>k_is)
  (case q_6=>k_is)
  (case k_6=>k_is)
  (case x_law_taken=>k_is)
  (case F_law_taken=>walk_at "F")
  (case x_law_refused=>k_is)
  (case F_law_refused=>walk_at "F")
  (case x_law=>k_is)
  (case F_law=>walk_at "F")
  (case xa_count_piles=>k_is)
  (case ns_NotThere=>k_is)
  (case ns_NoRun=>k_is)
  (case ns_NoShare=>k_is)
  (case ns_NoStore=>k_is)
  (case ns_NoText=>k_is)
  (case ns_NoTree=>k_is)
  (case ns_TooGreat=>k_is)
  (case ns_OftenError=>k_is)
  (case x_NotThere___init__=>k_is)
  (case l_0=>k_is)
  (case q_0=>k_is)
  (case k_0=>k_is)
  (case ei_NotThere=>first|kernel_rfl|rfl)
  (case tI_NotThere=>k_is)
  (case kp_NotThere=>k_is)
  (case tp_NotThere=>first|k_is|kernel_rfl|rfl)
  (case ga_NotThere=>k_is)
  (case gk_NotThere=>k_is)
  (case cc_NotThere=>k_is)
  (case cs_NotThere=>k_is)
  (case ct_NotThere=>k_is)
  (case cm_NotThere=>k_is)
  (case cb_NotThere=>k_is)
  (case ciint_NotThere=>first|kernel_rfl|rfl)
  (case cibool_NotThere=>first|kernel_rfl|rfl)
  (case cituple_NotThere=>first|kernel_rfl|rfl)
  (case cilist_NotThere=>first|kernel_rfl|rfl)
  (case cistr_NotThere=>first|kernel_rfl|rfl)
  (case cidict_NotThere=>first|kernel_rfl|rfl)
  (case sa_NotThere=>k_is)
  (case ov_NotThere=>first|kernel_rfl|rfl)
  (case na_NotThere=>k_is)
  (case hd_NotThere=>k_is)
  (case sp_OftenError=>k_is)
  (case rd_OftenError=>k_is)
  (case fc_OftenError=>k_is)
  (case mr_NotThere_NotThere=>first|k_is|kernel_rfl|rfl)
  (case ka_NotThere_NoRun_NoShare_NoStore_NoText=>first|kernel_rfl|rfl)
  (case ka_NotThere_NoTree_TooGreat=>first|kernel_rfl|rfl)
  (case kt_NotThere_OftenError=>first|kernel_rfl|rfl)
  (case kt_NotThere_ValueError=>first|kernel_rfl|rfl)
  (case z_isinstance=>k_is)
  (case z_int=>k_is)
  (case z_bool=>k_is)
  (case z_tuple=>k_is)
  (case z_zip=>k_is)
  (case z_len=>k_is)
  (case z_max=>k_is)
  (case z_min=>k_is)
  (case z_range=>k_is)
  (case z_sum=>k_is)
  (case z_all=>k_is)
  (case z_ValueError=>k_is)
  (case y_MOST_WARES=>k_is)
  (case y_MOST_WINDOW=>k_is)
  (case y_MOST_MANY=>k_is)
  (case y_MOST_RUNS=>k_is)
