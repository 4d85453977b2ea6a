import PyProof.Rows.All
import Wide.All
import OpenK.AllK
import Wide.FinOn
import Lean
import PyProof.EqAt
import PyProof.EqKinds
import PyProof.TupleCall
import PyProof.AutoSeq1
import PyProof.NeKinds
import PySem.Challenge.RW_oftentogether_k42_window
set_option maxRecDepth 100000
set_option maxHeartbeats 4000000
set_option Elab.async false
set_option linter.all false
abbrev g6:=@Option.bind_eq_some_iff
abbrev g9:=@PySem.wpAny_bind
abbrev gc:=@Option.bind_some
abbrev gf:=@List.getElem?_set_ne
abbrev gh:=@PySem.Heap.get?_push_of_some
abbrev gi:=@PySem.wpAny_pure
abbrev gj:=@Option.map_eq_some_iff
abbrev gp:=@List.size_toArray
abbrev gq:=@Bool.false_ne_true
abbrev gs:=@PySem.Heap.lt_size
abbrev gu:=@decide_eq_false
abbrev gv:=@List.length_map
abbrev gw:=@if_pos
abbrev gx:=@Option.map_some
abbrev gy:=@Nat.le_refl
abbrev gz:=@List.mem_cons_of_mem
abbrev m4:=@decide_eq_true
abbrev m5:=@PySem.Heap.get?_push_size
abbrev m6:=@Ne.symm
abbrev m7:=@if_neg
abbrev m8:=@Nat.lt_of_lt_of_le
abbrev m9:=@List.length_append
abbrev ma:=@List.getElem?_map
abbrev md:=@List.mem_cons_self
abbrev mf:=@List.length_cons
abbrev mh:=@Nat.ne_of_lt
abbrev mi:=@Bool.and_eq_true
abbrev mj:=@Nat.le_trans
abbrev ml:=@List.map_cons
abbrev mm:=@List.lookup_cons
abbrev mn:=@Option.some.inj
abbrev mq:=@List.getElem?_append_left
abbrev mr:=@List.mem_append_right
abbrev mv:=@List.mem_cons
abbrev mw:=@PyProof.Rows.slot_tuple_getitem
abbrev mx:=@List.getElem?_append_right
abbrev my:=@List.getElem?_eq_some_iff
abbrev mz:=@PySem.AutoSeq1.wpAny_loadPart'
abbrev n8:=@PySem.wpAny_field
abbrev n9:=@List.getElem?_replicate
abbrev nc:=@List.length_set
abbrev ng:=@PySem.wpAny_callSpecial?_slot
abbrev nh:=@List.append_nil
abbrev ni:=@PySem.wpAny_holding
abbrev nj:=@if_true
abbrev nk:=@Int.emod_lt_of_pos
abbrev nq:=@Int.emod_nonneg
abbrev nr:=@List.map_append
abbrev nt:=@PySem.wpAny_newObj_type
abbrev nu:=@List.append_assoc
abbrev nv:=@List.replicate_succ
abbrev ny:=@PySem.Heap.size_push
abbrev nz:=@PySem.wpAny_seqItems
abbrev p0:=@List.not_mem_nil
abbrev p5:=@PySem.wpAny_mono
abbrev p6:=@Bool.false_eq_true
abbrev p7:=@PySem.wpAny_setField_rec
abbrev p8:=@PySem.F.slot_tuple_iterator_next
abbrev p9:=@PySem.wpAny_truthy_bool
abbrev pb:=@congrArg
abbrev pd:=@PySem.wpAny_call_entry
abbrev pe:=@PySem.mem_of_lookup
abbrev pf:=@List.getElem?_cons_succ
abbrev ph:=@Nat.lt_irrefl
abbrev pj:=@List.mem_filter
abbrev pk:=@beq_iff_eq
abbrev pq:=@Nat.not_lt_zero
abbrev pw:=@List.nil_append
abbrev pz:=@List.eq_nil_of_length_eq_zero
abbrev t4:=@Int.toNat_natCast
abbrev t5:=@List.flatten_cons
abbrev t6:=@List.cons.sizeOf_spec
abbrev t7:=@List.map_map
abbrev t8:=@PyProof.Rows.callWith_type1
abbrev t9:=@List.length_take
abbrev td:=@PySem.F.slot_tuple_mul
abbrev tf:=@beq_eq_false_iff_ne
abbrev tj:=@List.filter_eq_self
abbrev tq:=@PySem.BindsTo.of_defaults
abbrev tu:=@PySem.wpAny_passesOwn
abbrev tw:=@Bool.eq_iff_iff
abbrev tx:=@List.drop_eq_getElem_cons
abbrev u0:=@PySem.PassesOwn.never
abbrev u6:=@PySem.wpAny_Call_Name_kw
abbrev u9:=@Option.isSome_iff_exists
abbrev ua:=@PySem.F.args_tuple_add_2
abbrev ub:=@if_false
abbrev uc:=@PySem.AutoSeq1.sub_tuple_tuple
abbrev ud:=@PySem.F.entry_tuple_add
abbrev ue:=@List.getElem?_set
abbrev uf:=@of_decide_eq_true
abbrev ug:=@PySem.wpAny_pyIter_list
abbrev uh:=@PySem.F.slot_tuple_add
abbrev ui:=@List.take_of_length_le
abbrev uj:=@List.all_cons
abbrev uk:=@Nat.lt_succ_self
abbrev um:=@Option.join_some
abbrev uo:=@or_false
abbrev uq:=@List.length_replicate
abbrev ur:=@List.length_filter_le
abbrev uu:=@List.mem_append
abbrev uv:=@Nat.ne_of_gt
abbrev uw:=@List.nodup_cons
abbrev ux:=@List.forIn_cons
abbrev uy:=@Bool.or_eq_true
abbrev uz:=@PySem.wpAny_rule
abbrev g00:=@PySem.wpAny_updateSeq_pair
abbrev g01:=@PySem.F.slot_zip_next
abbrev g02:=@PySem.wpAny_ite_false
abbrev g03:=@List.filterMap_cons
abbrev g04:=@Array.length_toList
abbrev g05:=@PySem.W.plainGet_of
abbrev g06:=@List.length_zipWith
abbrev g07:=@Int.toNat_of_nonneg
abbrev g08:=@List.mem_range
abbrev g09:=@PySem.F.args_tuple_iterator_next_1
abbrev g0a:=@PySem.sizeLine_eq
abbrev g0b:=@PySem.F.attrBase_ValueError
abbrev g0c:=@PySem.F.entry_tuple_iterator_next
abbrev g0d:=@PySem.F.args_tuple_mul_2
abbrev g0e:=@Int.fdiv_eq_ediv_of_nonneg
abbrev g0f:=@PySem.wpAny_attempt
abbrev g0g:=@PySem.wpAny_onRaise
abbrev g0h:=@Option.some.injEq
abbrev g0i:=@decide_eq_true_eq
abbrev g0j:=@PySem.F.entry_tuple_mul
abbrev g0k:=@PySem.call_meets
abbrev g0l:=@PySem.codeAny_mono
abbrev g0m:=@PySem.concat_meets
abbrev g0n:=@PySem.noFill_tuple_add
abbrev g0o:=@List.length_drop
abbrev g0p:=@List.map_nil
abbrev g0q:=@List.drop_length
abbrev g0r:=@List.all_eq_true
abbrev g0s:=@PySem.AutoSeq1.idx_int
abbrev g0t:=@List.filter_cons
abbrev g0u:=@List.getElem?_eq_getElem
abbrev g0v:=@PySem.wpAny_execs_nil
abbrev g0w:=@List.of_mem_zip
abbrev g0x:=@PySem.SeqAt.EqAt.same
abbrev g0y:=@PySem.W.kia_one
abbrev g0z:=@List.length_nil
abbrev g10:=@List.getElem?_set_self
abbrev g11:=@Nat.zero_le
abbrev g12:=@PySem.W.cellsFrom_some
abbrev g13:=@List.range_succ_eq_map
abbrev g14:=@List.sum_replicate_nat
abbrev g15:=@PySem.W.methodCall_KW
abbrev g16:=@List.length_singleton
abbrev g17:=@List.drop_zero
abbrev g18:=@List.getElem?_zipWith
abbrev g19:=@Option.some_or
abbrev g1a:=@Nat.le_of_lt
abbrev g1b:=@List.all_map
abbrev g1c:=@List.mem_map
namespace L2
open PySem PySem.Spec PyProof.Rows
abbrev Key:=Sum Int Str
def qg2:Key->Value->Bool
 | .inl k,v=>Value.isInt k v
 | .inr x,v=>Value.isStrOf x v
def qkw(w:World): Key->Int
 | .inl k=>hashInt k
 | .inr x=>hashStr w x
theorem jh:∀ {k:Key} {v:Value},qg2 k v=true->(∃i t,k=Sum.inl i/\v=Value.int i t)\/(∃x t,k=Sum.inr x/\v=Value.str x t)
 | .inl i,v,h=>by
  obtain⟨t,e⟩:=Value.isInt_shape (k:=i) (v:=v) h;exact .inl ⟨i,t,rfl,e⟩
 | .inr x,v,h=>by
  obtain⟨t,e⟩:=Value.isStrOf_shape (x:=x) (v:=v) h;exact .inr ⟨x,t,rfl,e⟩
theorem qht(a b:Int): decide ((Sum.inl a:Key)=Sum.inl b)=(a==b):=by
 by_cases e:a=b
 ·subst e;simp
 ·have h:¬(Sum.inl a:Key)=Sum.inl b:=fun q=>e (Sum.inl.inj q)
  rw [gu h];exact(tf.mpr e).symm
theorem qhu(a b:Str): decide ((Sum.inr a:Key)=Sum.inr b)=decide (a=b):=by
 by_cases e:a=b
 ·subst e;simp
 ·have h:¬(Sum.inr a:Key)=Sum.inr b:=fun q=>e (Sum.inr.inj q)
  rw [gu h,gu e]
theorem qhv(a:Int)(b:Str): decide ((Sum.inl a:Key)=Sum.inr b)=false:=gu (fun q=>nomatch q)
theorem qhw(a:Str)(b:Int): decide ((Sum.inr a:Key)=Sum.inl b)=false:=gu (fun q=>nomatch q)
def mixKind(prog:Program)(w:World): PySem.KeyKind prog w Key where
 is:=qg2
 hash:=qkw w
 inj:=fun v a b ha hb=>by
  rcases jh ha with⟨i,t,rfl,rfl⟩|⟨x,t,rfl,rfl⟩
  ·rcases jh hb with⟨j,u,rfl,e⟩|⟨y,u,rfl,e⟩
   ·injection e with e1 _;rw [e1]
   ·exact nomatch e
  ·rcases jh hb with⟨j,u,rfl,e⟩|⟨y,u,rfl,e⟩
   ·exact nomatch e
   ·injection e with e1 _;rw [e1]
 byValue:=fun k v h=>by
  rcases jh h with⟨i,t,rfl,rfl⟩|⟨x,t,rfl,rfl⟩ <;> rfl
 pyHash:=fun hv h=>by
  rcases jh hv with⟨i,t,rfl,rfl⟩|⟨x,t,rfl,rfl⟩
  ·exact wpAny_pyHash_int h
  ·exact wpAny_pyHash_str h
 eqBool:=fun hu hv h=>by
  rcases jh hu with⟨i,t,rfl,rfl⟩|⟨x,t,rfl,rfl⟩
  ·rcases jh hv with⟨j,u,rfl,rfl⟩|⟨y,u,rfl,rfl⟩
   ·rw [qht] at h;exact wpAny_eqBool_int h
   ·rw [qhv] at h;exact SeqAt.EqAt.int_str i t y u _ _ _ _ h
  ·rcases jh hv with⟨j,u,rfl,rfl⟩|⟨y,u,rfl,rfl⟩
   ·rw [qhw] at h;exact SeqAt.EqAt.str_int x t j u _ _ _ _ h
   ·rw [qhu] at h;exact wpAny_eqBool_str h
 «strs» :=fun k x t v h=>by
  rcases jh h with⟨i,u,rfl,e⟩|⟨y,u,rfl,e⟩
  ·exact nomatch e
  ·injection e with e1 _
   subst e1;cases v <;> rfl
inductive V where
 | non|bl (b:Bool)|int (i:Int)|str (x:Str)|byt (b:Array UInt8)|flt (b:UInt64)|ref (a:Addr)|ty (n:String)
 deriving DecidableEq
def RelV:V->Value->Prop
 | .non,u=>u=Value.none
 | .bl b,u=>u=Value.bool b
 | .int i,u=>∃t,u=Value.int i t
 | .str x,u=>∃t,u=Value.str x t
 | .byt b,u=>∃t,u=Value.bytes b t
 | .flt b,u=>∃t,u=Value.float b t
 | .ref a,u=>u=Value.ref a
 | .ty n,u=>u=Value.type n
abbrev Vals:List V->List Value->Prop:=Paired RelV
theorem Vals.length{xs:List V}{us:List Value}(r:Vals xs us): xs.length=us.length:=Paired.length r
theorem Vals.get:∀ {xs:List V} {us:List Value} {i:Nat} {x:V},Vals xs us->xs[i]? = some x->∃u,us[i]? = some u/\RelV x u
 | _,_,_,_,.nil,e=>by simp at e
 | _,_,0,_,.cons r _,e=>by simp at e;subst e;exact⟨_,rfl,r⟩
 | _,_,i+1,x,.cons _ t,e=>by
  obtain⟨u,h1,h2⟩:=Vals.get (i:=i) (x:=x) t (by simpa using e);exact⟨u,by simpa using h1,h2⟩
theorem Vals.append:∀ {xs ys:List V} {us ws:List Value},Vals xs us->Vals ys ws->Vals (xs++ys) (us++ws)
 | _,_,_,_,.nil,s=>s
 | _,_,_,_,.cons r t,s=>.cons r (Vals.append t s)
theorem Vals.take:∀ {xs:List V} {us:List Value} (n:Nat),Vals xs us->Vals (xs.take n) (us.take n)
 | _,_,0,_=>.nil
 | _,_,_+1,.nil=>.nil
 | _,_,n+1,.cons r t=>.cons r (Vals.take n t)
theorem Vals.drop:∀ {xs:List V} {us:List Value} (n:Nat),Vals xs us->Vals (xs.drop n) (us.drop n)
 | _,_,0,r=>r
 | _,_,_+1,.nil=>.nil
 | _,_,n+1,.cons _ t=>Vals.drop n t
def RelO:Option V->Option Value->Prop
 | some v,some u=>RelV v u
 | none,none=>True
 | _,_=>False
def KV{κ : Type}: List (κ × V)->List (κ × Value)->Prop:=Paired fun(p : κ × V) (q : κ × Value)=>p.1=q.1/\RelV p.2 q.2
def kV:Key->V
 | .inl i=>.int i
 | .inr x=>.str x
inductive HO where
 /-- a list -/
 | lst (xs:List V)
 /-- a tuple (never changes) -/
 | tup (xs:List V)
 /-- a dict whose keys are ints and texts; one whose keys are tuples of ints and texts (the empty one is both) -/
 | dK (kvs:List (Key×V))|dT (kvs:List (List Key×V))
 /-- a set of ints: its members, its size -/
 | set (S:Int->Bool) (n:Nat)
 /-- an instance of the class at C, its dict at dx, its attributes -/
 | ins (C dx:Addr) (fs:List (Str×V))
 /-- the dict of the instance at x -/
 | own (x:Addr)
 /-- the dict of an exception -/
 | xd (fs:List (Str×V))
 /-- a bound method, f of x -/
 | met (f x:Addr)
 /-- a range object lo, lo + 1, .. below hi -/
 | rng (lo hi:Int)
 /-- a thing that is known to the object (the script; a dict while a loop walks it): read, never written while it is so -/
 | frz (o:Obj) (u:HO)
 /-- a code object's table -/
 | tbl (ps:Array Value)
 /-- any other thing, by what is true of its one object (a def of one's own: SetO a S n := HO.ext fun h => ..) -/
 | ext (φ : Heap->Prop)
abbrev Hp:=Addr->Option HO
def upd(H:Hp)(a:Addr)(o:HO): Hp:=fun b=>if b=a then some o else H b
theorem qz{H:Hp}{a:Addr}{o:HO}: upd H a o a=some o:=by unfold upd;rw [gw rfl]
theorem ql{H:Hp}{a b:Addr}{o:HO}(h:b≠a): upd H a o b=H b:=by unfold upd;rw [m7 h]
theorem ji{H:Hp}{a b:Addr}{o:HO}(h:H a=some o)(h':H b=none): a≠b:=by
 intro e;subst e;rw [h] at h';cases h'
def TupX(h:Heap)(a:Addr)(items:Array Value): Prop:=∃o,h.get? a=some o/\o.cls=.type "tuple" /\ o.dict=none/\∃n,o.data=.seq items n
theorem TupX.up{h:Heap}{a:Addr}{items:Array Value}(p:TupX h a items): IsTup h a items:=let⟨o,x,y,_,z⟩:=p; ⟨o,x,y,z⟩
theorem TupX.new(h:Heap)(items:Array Value): TupX (h.push {cls:=.type "tuple",data:=.seq items}) h.objs.size items:=⟨_,m5 _ rfl,rfl,rfl,_,rfl⟩
section
variable(P:Program)(w:World)
def ObjOk(H:Hp)(h:Heap)(a:Addr): HO->Prop
 | .lst xs=>xs.length<=sizeLine/\∃(its:List Value) (n:Nat),Vals xs its/\h.get? a=some {cls:=.type "list",data:=.seq its.toArray n}
 | .tup xs=>xs.length<=sizeLine/\∃its:List Value,Vals xs its/\TupX h a its.toArray
 | .dK kvs=>kvs.length<=sizeLine/\(a==sysModules)=false/\∃vs,KV kvs vs/\h.DictOf (mixKind P w) a vs
 | .dT kvs=>kvs.length<=sizeLine/\(a==sysModules)=false/\∃xs:List (List Key×Addr×Value),
   Paired (fun(p:List Key×V) (q:List Key×Addr×Value)=>p.1=q.1/\H q.2.1=some (.tup (p.1.map kV))/\RelV p.2 q.2.2) kvs xs /\
   ∃o es ep,h.get? a=some o/\o.ExactDict/\o.data=.dict es ep/\es.toList=xs.map (entryOfKey (tupleKind (mixKind P w)))/\(xs.map (·.1)).Nodup
 | .set S n=>h.SetOf (intKind P w) a S n
 | .ins C dx fs=>H dx=some (.own a)/\fs.length<=1000/\dx≠a/\h.get? a=some (PySem.W.instObj C dx) /\
   ∃mA,h.Ns1 dx mA/\(∀f,RelO (fs.lookup f) (mA f))/\PySem.Within mA (fs.map (·.1))
 | .own _=>∃o,h.get? a=some o
 | .xd fs=>∃mA,h.Ns1 a mA/\∀f,RelO (fs.lookup f) (mA f)
 | .rng lo hi=>∃t u v,h.get? a=some {cls:=.type "range",data:=.fields #[.int lo t,.int hi u,.int 1 v]}
 | .frz o u=>h.get? a=some o/\ObjOk H h a u
 | .tbl ps=>h.get? a=some {cls:=.none,data:=.fields ps}
 | .met f x=>h.get? a=some (PySem.W.methodObj (.ref f) (.ref x))
 | .ext φ => φ h/\(∃o,h.get? a=some o)/\∀h1 h2:Heap, φ h1->(∀o,h1.get? a=some o->h2.get? a=some o) -> φ h2
def HOk(H:Hp)(h:Heap): Prop:=∀a o,H a=some o->ObjOk P w H h a o
end
section
variable{P:Program}{w:World}{H H':Hp}{h h':Heap}{a:Addr}{o:HO}
theorem ObjOk.lt(x:ObjOk P w H h a o): a<h.objs.size:=by
 cases o with
 | lst xs=>obtain⟨_,_,_,_,e⟩:=x;exact gs e
 | tup xs=>obtain⟨_,_,_,p⟩:=x;exact p.up.lt
 | dK kvs=>obtain⟨_,_,_,_,o,_,_,e,_⟩:=x;exact gs e
 | dT kvs=>obtain⟨_,_,_,_,o,_,_,e,_⟩:=x;exact gs e
 | set S n=>obtain⟨o,_,_,_,e,_⟩:=x;exact gs e
 | ins C dx fs=>obtain⟨_,_,_,e,_⟩:=x;exact gs e
 | own y=>obtain⟨_,e⟩:=x;exact gs e
 | xd fs=>obtain⟨_,⟨_,_,_,e,_⟩,_⟩:=x;exact gs e
 | rng lo hi=>obtain⟨_,_,_,e⟩:=x;exact gs e
 | frz ob u=>obtain⟨e,_⟩:=x;exact gs e
 | tbl ps=>exact gs (show h.get? a=some _ from x)
 | met f y=>exact gs (show h.get? a=some _ from x)
 | ext φ =>obtain⟨_,⟨_,e⟩,_⟩:=x;exact gs e
theorem Paired.mapP{α β : Type}{F G : α -> β -> Prop}: ∀ {l₁:List α} {l₂:List β},Paired F l₁ l₂->(∀a b,F a b->G a b)->Paired G l₁ l₂
 | _,_,.nil,_=>.nil
 | _,_,.cons r t,f=>.cons (f _ _ r) (Paired.mapP t f)
theorem ObjOk.stay(x:ObjOk P w H h a o)(k:∀b u,(b=a\/H b=some (.own a))->h.get? b=some u->h'.get? b=some u)
  (ho:∀b,H b=some (.own a)->H' b=some (.own a)) (ht:∀b xs,H b=some (.tup xs)->H' b=some (.tup xs)):ObjOk P w H' h' a o:=by
 induction o with
 | lst xs=>obtain⟨z,its,n,r,e⟩:=x;exact⟨z,its,n,r,k _ _ (.inl rfl) e⟩
 | tup xs=>obtain⟨z,its,r,ob,e,c⟩:=x;exact⟨z,its,r,ob,k _ _ (.inl rfl) e,c⟩
 | dK kvs=>obtain⟨z,y,vs,r,ob,es,ep,e,c⟩:=x;exact⟨z,y,vs,r,ob,es,ep,k _ _ (.inl rfl) e,c⟩
 | dT kvs=>
  obtain⟨z,y,xs,r,ob,es,ep,e,c⟩:=x;exact⟨z,y,xs,Paired.mapP r fun p q z=>⟨z.1,ht _ _ z.2.1,z.2.2⟩,ob,es,ep,k _ _ (.inl rfl) e,c⟩
 | set S n=>obtain⟨ob,es,ep,t,e,c⟩:=x;exact⟨ob,es,ep,t,k _ _ (.inl rfl) e,c⟩
 | ins C dx fs=>
  obtain⟨d,z,ne,e,mA,⟨od,es,ep,e2,c⟩,r⟩:=x;exact⟨ho _ d,z,ne,k _ _ (.inl rfl) e,mA,⟨od,es,ep,k _ _ (.inr d) e2,c⟩,r⟩
 | own y=>obtain⟨ob,e⟩:=x;exact⟨ob,k _ _ (.inl rfl) e⟩
 | xd fs=>obtain⟨mA,⟨od,es,ep,e,c⟩,r⟩:=x;exact⟨mA,⟨od,es,ep,k _ _ (.inl rfl) e,c⟩,r⟩
 | rng lo hi=>obtain⟨t,u,v,e⟩:=x;exact⟨t,u,v,k _ _ (.inl rfl) e⟩
 | frz ob u ih=>obtain⟨e,q⟩:=x;exact⟨k _ _ (.inl rfl) e,ih q⟩
 | tbl ps=>
  have e:h.get? a=some {cls:=.none,data:=.fields ps}:=x;show h'.get? a=some {cls:=.none,data:=.fields ps};exact k a _ (.inl rfl) e
 | met f y=>
  have e:h.get? a=some (PySem.W.methodObj (.ref f) (.ref y)):=x;show h'.get? a=some (PySem.W.methodObj (.ref f) (.ref y));exact k a _ (.inl rfl) e
 | ext φ =>obtain⟨p,⟨o,e⟩,st⟩:=x;exact⟨st _ _ p fun o q=>k _ _ (.inl rfl) q,⟨o,k _ _ (.inl rfl) e⟩,st⟩
theorem HOk.lt(x:HOk P w H h)(e:H a=some o): a<h.objs.size:=(x a o e).lt
theorem HOk.fresh(x:HOk P w H h)(e:h.objs.size<=a): H a=none:=by
 cases q:H a with
 | none=>rfl
 | some u=>exact absurd (m8 (x.lt q) e) (ph _)
theorem HOk.kept(x:HOk P w H h)(k:∀b u,h.get? b=some u->h'.get? b=some u): HOk P w H h':=fun a o e=>
 (x a o e).stay (fun b u _ q=>k b u q) (fun _ q=>q) fun _ _ q=>q
theorem HOk.laid(x:HOk P w H h)(k:∀b u,h.get? b=some u->h'.get? b=some u)(hp:h.objs.size<=a)(new:ObjOk P w (upd H a o) h' a o): HOk P w (upd H a o) h':=fun b u e=>by
 have hn:=x.fresh hp
 by_cases hb:b=a
 ·subst hb;rw [qz] at e;cases e;exact new
 ·rw [ql hb] at e
  exact(x b u e).stay (fun c v _ q=>k c v q) (fun c q=>by rw [ql (ji q hn)];exact q) fun c xs q=>by rw [ql (ji q hn)];exact q
end
def Rd(H:Hp)(a:Addr)(u:HO): Prop:=H a=some u\/∃o,H a=some (.frz o u)
theorem Rd.ok{P:Program}{w:World}{H:Hp}{h:Heap}{a:Addr}{u:HO}(r:Rd H a u)(x:HOk P w H h): ObjOk P w H h a u:=by
 rcases r with r|⟨o,r⟩
 ·exact x a u r
 ·obtain⟨_,q⟩:=x a _ r
  exact q
def Mut:Option HO->Prop
 | some (.lst _)=>True
 | some (.dK _)=>True
 | some (.dT _)=>True
 | some (.set _ _)=>True
 | some (.ins _ _ _)=>True
 | some (.ext _)=>True
 | _=>False
section
variable{P:Program}{w:World}{H:Hp}{h h':Heap}{x e:Addr}{o':HO}
theorem HOk.write(ok:HOk P w H h)(mu:Mut (H x))(he:e=x\/H e=some (.own x))(k:∀b u,b≠e->h.get? b=some u->h'.get? b=some u)(heo:∃u,h'.get? e=some u)
  (new:ObjOk P w (upd H x o') h' x o'):HOk P w (upd H x o') h':=fun b u q=>by
 have nown:∀c y,H c=some (.own y)->c≠x:=fun c y r z=>by subst z;rw [r] at mu;exact mu
 have ntup:∀c xs,H c=some (.tup xs)->c≠x:=fun c xs r z=>by subst z;rw [r] at mu;exact mu
 by_cases hb:b=x
 ·subst hb;rw [qz] at q;cases q;exact new
 ·rw [ql hb] at q
  by_cases hbe:b=e
  ·have q':H b=some (.own x):=by
    rcases he with z|z
    ·exact absurd (hbe.trans z) hb
    ·rw [hbe];exact z
   rw [q] at q';cases q';obtain⟨v,hv⟩:=heo;exact⟨v,by rw [hbe];exact hv⟩
  ·refine(ok b u q).stay (fun c v hc r=>k c v ?_ r) (fun c r=>by rw [ql (nown c b r)];exact r) fun c xs r=>by rw [ql (ntup c xs r)];exact r
   rcases hc with rfl|hc
   ·exact hbe
   ·rintro rfl
    rcases he with z|z
    ·exact nown c b hc z
    ·rw [hc] at z;cases z;exact hb rfl
end
structure Un(fs ex:List Addr)(H H':Hp)(h h':Heap): Prop where
 keep:∀b o,h.get? b=some o->H b=none->b∉fs->b∉ex->h'.get? b=some o
 slot:∀b o,h.get? b=some o->H b=none->b∈fs->b∉ex->∃sl,h'.get? b=some {o with slots:=sl}
 free:∀b o,h.get? b=some o->H b=none->b∉ex->H' b=none
 there:∀b o,h.get? b=some o->b∉ex->∃o',h'.get? b=some o'
 tups:∀b xs,H b=some (.tup xs)->H' b=some (.tup xs)
 frzs:∀b o u,H b=some (.frz o u)->H' b=some (.frz o u)
 tbls:∀b ps,H b=some (.tbl ps)->∃more,H' b=some (.tbl (ps++more))
section
variable{fs fs' ex ex':List Addr}{H H1 H2:Hp}{h h1 h2 h':Heap}{a x e:Addr}{o:HO}
theorem Un.any(u:Un fs ex H H1 h h1){b:Addr}{ob:Obj}(q:h.get? b=some ob)(n:H b=none)(hx:b∉ex): ∃sl,h1.get? b=some {ob with slots:=sl}:=by
 by_cases hb:b∈fs
 ·exact u.slot b ob q n hb hx
 ·exact⟨ob.slots,u.keep b ob q n hb hx⟩
theorem Un.trans(a:Un fs ex H H1 h h1)(b:Un fs ex H1 H2 h1 h2): Un fs ex H H2 h h2 where
 keep:=fun c ob q n hc hx=>b.keep c ob (a.keep c ob q n hc hx) (a.free c ob q n hx) hc hx
 slot:=fun c ob q n hc hx=>by
  obtain⟨sl,e1⟩:=a.slot c ob q n hc hx;obtain⟨sl',e2⟩:=b.slot c _ e1 (a.free c ob q n hx) hc hx;exact⟨sl',e2⟩
 free:=fun c ob q n hx=>by
  obtain⟨o',e1⟩:=a.there c ob q hx;exact b.free c o' e1 (a.free c ob q n hx) hx
 there:=fun c ob q hx=>by
  obtain⟨o',e1⟩:=a.there c ob q hx;exact b.there c o' e1 hx
 tups:=fun c xs q=>b.tups c xs (a.tups c xs q)
 frzs:=fun c ob xs q=>b.frzs c ob xs (a.frzs c ob xs q)
 tbls:=fun c ps q=>by
  obtain⟨m1,e1⟩:=a.tbls c ps q;obtain⟨m2,e2⟩:=b.tbls c _ e1;exact⟨m1++m2,by rw [e2,Array.append_assoc]⟩
theorem Un.kept(k:∀b u,h.get? b=some u->h'.get? b=some u): Un fs ex H H h h':=
 ⟨fun b ob q _ _ _=>k b ob q,fun b ob q _ _ _=>⟨ob.slots,k b ob q⟩,fun _ _ _ n _=>n,fun b ob q _=>⟨ob,k b ob q⟩,fun _ _ q=>q,fun _ _ _ q=>q,fun _ ps q=>⟨#[],by rw [q];simp⟩⟩
theorem Un.refl:Un fs ex H H h h:=Un.kept fun _ _ q=>q
theorem Un.laid(k:∀b u,h.get? b=some u->h'.get? b=some u)(hp:h.objs.size<=a)(hn:H a=none): Un fs ex H (upd H a o) h h' where
 keep:=fun b u q _ _ _=>k b u q
 slot:=fun b u q _ _ _=>⟨u.slots,k b u q⟩
 free:=fun b u q n _=>by rw [ql (mh (m8 (gs q) hp))];exact n
 there:=fun b u q _=>⟨u,k b u q⟩
 tups:=fun b xs q=>by rw [ql (ji q hn)];exact q
 frzs:=fun b u xs q=>by rw [ql (ji q hn)];exact q
 tbls:=fun b ps q=>⟨#[],by rw [ql (ji q hn),q];simp⟩
theorem Un.write(mu:Mut (H x))(he:e=x\/H e=some (.own x))(k:∀b u,b≠e->h.get? b=some u->h'.get? b=some u)(heo:∃u,h'.get? e=some u): Un fs ex H (upd H x o) h h':=by
 have hx:∀b,H b=none->b≠x:=fun b n z=>by subst z;rw [n] at mu;exact mu
 have hb:∀b,H b=none->b≠e:=fun b n z=>by
  subst z;rcases he with r|r
  ·exact hx b n r
  ·rw [n] at r;cases r
 have hm:∀b u,H b=some u->¬Mut (some u)->b≠x:=fun b u q nm z=>by subst z;rw [q] at mu;exact nm mu
 refine⟨fun b u q n _ _=>k b u (hb b n) q,fun b u q n _ _=>⟨u.slots,k b u (hb b n) q⟩,fun b u q n _=>by rw [ql (hx b n)];exact n,fun b u q _=>?_,
  fun b xs q=>by rw [ql (hm b _ q fun z=>z)];exact q,fun b u xs q=>by rw [ql (hm b _ q fun z=>z)];exact q,fun b ps q=>⟨#[],by rw [ql (hm b _ q fun z=>z),q];simp⟩⟩
 by_cases hbe:b=e
 ·subst hbe;exact heo
 ·exact⟨u,k b u hbe q⟩
end
def trk(h:Heap)(H:Hp): List Addr:=(List.range h.objs.size).filter fun a=>(H a).isSome
def q2f(h:Heap)(H:Hp): Heap:=PySem.W.hideAll h (trk h H)
theorem qcc(h:Heap)(H:Hp): (q2f h H).objs.size=h.objs.size:=PySem.W.hideAll_size _ _
theorem qeb{h:Heap}{H:Hp}{b:Addr}{o:Obj}(e:h.get? b=some o)(n:H b=none): (q2f h H).get? b=some o:=
 PySem.W.hideAll_get _ e fun hm=>by
  have q:(H b).isSome=true:=(pj.mp hm).2;rw [n] at q;simp at q
theorem qgh{h:Heap}{H:Hp}{b:Addr}{o:Obj}(e:(q2f h H).get? b=some o): h.get? b=some o/\H b=none:=by
 have e':h.get? b=some o:=PySem.W.of_hideAll (trk h H) e;refine⟨e',?_⟩;cases q:H b with
 | none=>rfl
 | some x=>
  have hm:b∈trk h H:=pj.mpr ⟨g08.mpr (gs e'),by simp [q]⟩;have z:(q2f h H).get? b=none:=PySem.W.hideAll_none (trk h H) hm;rw [z] at e;cases e
def qgi(g h:Heap)(L:Addr): List (Addr×Obj):=(List.range h.objs.size).filterMap fun a=>if a=L\/(g.get? a).isSome=true then none else(h.get? a).map fun o=>(a,o)
def rest(g h:Heap)(L d:Addr): List (Addr×Obj):=(qgi g h L).filter fun p=>decide (p.1≠d)
structure Mod(K:PySem.W.Frag)(mg:Str->Option Value)(base:Heap): Prop where
 kin:K.In base
 glob:base.Ns mainGlobals mg
 blt:∃mb,base.Ns builtinsNs mb/\∀x:Str,x≠"__name__" -> mb x=bootBuiltins x
 nolimit:base.NoLimit
structure Cx where
 prog:Program
 w:World
 K:PySem.W.Frag
 mg:Str->Option Value
 base:Heap
 A:Around
 N:List Str
 s₀:Shared
 H₀:Hp
 env:Env
 outer:List Env
 stack:List Env
 ex:List Addr
 fn:Str->Bool
 calm:Bool
 pn:List (Addr×Obj)
 xe:Value->Shared->Prop
def frs(l:List Env): List Addr:=l.filterMap (·.frame)
abbrev Cx.fs(X:Cx): List Addr:=frs X.outer
def Vis(sc:Scope)(x:Str): Prop:=sc.names.lookup x=some .local\/sc.names.lookup x=some .cell\/sc.names.lookup x=some .free
def Loc(sc:Scope)(x:Str): Prop:=sc.names.lookup x=some .local\/sc.names.lookup x=some .cell
def Look(env:Env)(h:Heap)(m:Str->Option Value)(x:Str)(u:Value): Prop:=
 (env.kindOf x=some .local/\m x=some u)\/((env.kindOf x=some .cell\/env.kindOf x=some .free)/\∃c,env.cells.lookup x=some c/\h.IsCell c (some u))
structure Cx.Ok(X:Cx): Prop where
 mod:Mod X.K X.mg X.base
 kind:X.env.scope.kind=.function
 glob:X.env.globals=mainGlobals
 blt:X.env.builtins=builtinsNs
 above:X.s₀.heap.objs.size<=X.env.locals
 inj:∀x y c,X.env.cells.lookup x=some c->X.env.cells.lookup y=some c->x=y
 has:∀x,(X.env.kindOf x=some .cell\/X.env.kindOf x=some .free)->∃c,X.env.cells.lookup x=some c
 cab:∀x c,X.fn x=true->X.env.cells.lookup x=some c->X.s₀.heap.objs.size<=c
 hd:X.calm=true->X.A.handled=none
 frames:X.A.frames=some X.stack
 stk:X.stack=X.outer\/(X.stack=X.env :: X.outer/\X.env.frame=some X.env.locals)
 exf:∀b∈X.ex,b≠X.env.locals/\∀x c,X.env.cells.lookup x=some c->c≠b
 bs:∀b o,X.base.get? b=some o->X.s₀.heap.get? b=some o/\X.H₀ b=none
 bsz:X.base.objs.size<=X.s₀.heap.objs.size
 noex:∀b o,X.base.get? b=some o->b∉X.ex
 exfs:∀b∈X.ex,b∉X.fs
 funs:X.s₀.heap.FunFrames X.base X.outer
 frf:∀b∈X.fs,X.H₀ b=none
structure Inv(X:Cx)(pins:List (Addr×Obj))(σ : List (Option V))(H:Hp)(s:Shared): Prop where
 ok:X.Ok
 os:s.os=X.s₀.os
 bare:AllBare s.gens
 base:Un X.fs X.ex X.H₀ H X.s₀.heap s.heap
 loc:∃m,s.heap.Ns X.env.locals m/\∀(i:Nat) (x:Str) (v:V),X.N[i]? = some x -> σ[i]? = some (some v)->Vis X.env.scope x->∃u,RelV v u/\Look X.env s.heap m x u
 cell:∀x c,X.env.cells.lookup x=some c->∃v,s.heap.IsCell c v
 free:H X.env.locals=none
 freeC:∀x c,X.env.cells.lookup x=some c->H c=none
 pin:∀p∈X.pn++pins,s.heap.get? p.1=some p.2/\H p.1=none/\p.1≠X.env.locals/\p.1∉X.fs/\∀v,p.2.data ≠ .cell v
 hok:HOk X.prog X.w H s.heap
 len : σ.length=X.N.length
section
variable{X:Cx}{pins:List (Addr×Obj)}{σ : List (Option V)}{H H':Hp}{s:Shared}{h':Heap}
theorem Cx.Ok.nofr(ok:X.Ok){b:Addr}{o:Obj}(e:X.base.get? b=some o): b∉X.fs:=fun hb=>by
 have:=(ok.funs.mem hb).1;rw [e] at this;cases this
theorem Inv.bs(I:Inv X pins σ H s): ∀b o,X.base.get? b=some o->s.heap.get? b=some o/\H b=none:=fun b o e=>
 ⟨I.base.keep b o (I.ok.bs b o e).1 (I.ok.bs b o e).2 (I.ok.nofr e) (I.ok.noex b o e),I.base.free b o (I.ok.bs b o e).1 (I.ok.bs b o e).2 (I.ok.noex b o e)⟩
theorem Inv.bk(I:Inv X pins σ H s): ∀b o,X.base.get? b=some o->s.heap.get? b=some o:=fun b o e=>(I.bs b o e).1
theorem Inv.mod(I:Inv X pins σ H s): Mod X.K X.mg X.base:=I.ok.mod
theorem Inv.kIn(I:Inv X pins σ H s): X.K.In s.heap:=I.ok.mod.kin.keeps I.bk
theorem Inv.lt(I:Inv X pins σ H s): X.env.locals<s.heap.objs.size:=let⟨_,hn,_⟩:=I.loc;hn.lt
theorem Inv.sz(I:Inv X pins σ H s): X.s₀.heap.objs.size<=s.heap.objs.size:=mj I.ok.above (g1a I.lt)
theorem Inv.nofs(I:Inv X pins σ H s){a:Addr}(h:s.heap.objs.size<=a): a∉X.fs:=fun hb=>by
 obtain⟨_,o,ho,_⟩:=I.ok.funs.mem hb;exact absurd (m8 (gs ho) (mj I.sz h)) (ph _)
theorem Inv.cne(I:Inv X pins σ H s): ∀x c,X.env.cells.lookup x=some c->c≠X.env.locals:=fun x c e z=>by
 obtain⟨v,o,ho,hd⟩:=I.cell x c e;obtain⟨m,⟨o',es,ep,ho',hd',_⟩,_⟩:=I.loc;rw [z,ho'] at ho;cases ho;rw [hd'] at hd;cases hd
theorem Inv.funs(I:Inv X pins σ H s): s.heap.FunFrames X.base X.outer:=by
 have all:∀(l:List Env),(∀b∈frs l,b∈X.fs)->X.s₀.heap.FunFrames X.base l->s.heap.FunFrames X.base l:=by
  intro l
  induction l with
  | nil=>intro _ _;trivial
  | cons env r ih=>
   intro hs hl;obtain⟨hk,⟨L,o,hf,hn,ho,hd⟩,hr⟩:=hl;have hL:L∈X.fs:=hs L (by unfold frs;rw [g03,hf];exact md);obtain⟨sl,e⟩:=I.base.slot L o ho (I.ok.frf L hL) hL fun z=>I.ok.exfs L z hL;exact⟨hk,⟨L,_,hf,hn,e,hd⟩,ih (fun b hb=>hs b (by unfold frs;rw [g03,hf];exact gz _ hb)) hr⟩
 exact all X.outer (fun _ hb=>hb) I.ok.funs
theorem Inv.stack(I:Inv X pins σ H s): s.heap.FunFrames X.base X.stack:=by
 rcases I.ok.stk with e|⟨e,hf⟩
 ·rw [e];exact I.funs
 ·rw [e]
  obtain⟨m,hn,_⟩:=I.loc;refine .cons (by rw [I.ok.kind];decide) hf hn ?_ I.funs;exact Heap.get?_none_of_le (mj I.ok.bsz I.ok.above)
theorem Inv.stkSub(I:Inv X pins σ H s): ∀b∈frs X.stack,b∈X.env.locals :: X.fs:=fun b hb=>by
 rcases I.ok.stk with e|⟨e,hf⟩
 ·rw [e] at hb;exact gz _ hb
 ·rw [e] at hb
  unfold frs at hb;rw [g03,hf] at hb;exact hb
theorem Inv.stkFree(I:Inv X pins σ H s): ∀b∈frs X.stack,H b=none:=fun b hb=>by
 rcases mv.mp (I.stkSub b hb) with e|hb
 ·rw [e];exact I.free
 ·obtain⟨_,o,ho,_⟩:=I.ok.funs.mem hb
  exact I.base.free b o ho (I.ok.frf b hb) fun z=>I.ok.exfs b z hb
theorem Inv.step{g':Array GenState}{t':Nat}{d':Drawn}{ch:List Addr}(I:Inv X pins σ H s)
  (hch:∀b∈ch,(b∈X.ex\/X.s₀.heap.objs.size<=b)/\b≠X.env.locals/\(∀x c,X.env.cells.lookup x=some c->c≠b)/\∀p∈X.pn++pins,p.1≠b)
  (keep:∀b o,b≠X.env.locals->b∉X.fs->b∉ch->s.heap.get? b=some o->H b=none->h'.get? b=some o)
  (slot:∀b o,b≠X.env.locals->b∈X.fs->b∉ch->s.heap.get? b=some o->H b=none->∃sl,h'.get? b=some {o with slots:=sl}) (free:∀b o,b∉ch->s.heap.get? b=some o->H b=none->H' b=none)
  (there:∀b o,b∉ch->s.heap.get? b=some o->∃o',h'.get? b=some o')
  (tups:∀b xs,H b=some (.tup xs)->H' b=some (.tup xs)) (frzs:∀b o u,H b=some (.frz o u)->H' b=some (.frz o u)) (tbls:∀b ps,H b=some (.tbl ps)->∃more,H' b=some (.tbl (ps++more)))
  (ns:∀m,s.heap.Ns X.env.locals m->h'.Ns X.env.locals m) (hok:HOk X.prog X.w H' h') (hg:AllBare g') :
  Inv X pins σ H' {s with heap:=h',gens:=g',drawn:=d',toks:=t'}:=by
 have neL:∀b o,X.s₀.heap.get? b=some o->b≠X.env.locals:=fun b o e=>mh (m8 (gs e) I.ok.above);have neC:∀b o,X.s₀.heap.get? b=some o->b∉X.ex->b∉ch:=fun b o e hx hb=>by
  rcases(hch b hb).1 with z|z
  ·exact hx z
  ·exact absurd (m8 (gs e) z) (ph _)
 have cellK:∀x c,X.env.cells.lookup x=some c->∀v,s.heap.IsCell c v->h'.IsCell c v:=fun x c e v ⟨o,ho,hd⟩=>by
  have nch:c∉ch:=fun z=>(hch c z).2.2.1 x c e rfl
  by_cases hc:c∈X.fs
  ·obtain⟨sl,q⟩:=slot c o (I.cne x c e) hc nch ho (I.freeC x c e)
   exact⟨_,q,hd⟩
  ·exact⟨o,keep c o (I.cne x c e) hc nch ho (I.freeC x c e),hd⟩
 refine⟨I.ok,I.os,hg,⟨fun b o e n hb hx=>?_,fun b o e n hb hx=>?_,fun b o e n hx=>?_,fun b o e hx=>?_,fun b xs e=>tups b xs (I.base.tups b xs e),fun b o xs e=>frzs b o xs (I.base.frzs b o xs e),fun b ps e=>?_⟩,?_,fun x c e=>?_,?_,fun x c e=>?_,fun p hp=>?_,hok,I.len⟩
 ·exact keep b o (neL b o e) hb (neC b o e hx) (I.base.keep b o e n hb hx) (I.base.free b o e n hx)
 ·obtain⟨sl,e1⟩:=I.base.slot b o e n hb hx
  obtain⟨sl',e2⟩:=slot b _ (neL b o e) hb (neC b o e hx) e1 (I.base.free b o e n hx);exact⟨sl',e2⟩
 ·obtain⟨o',e1⟩:=I.base.there b o e hx
  exact free b o' (neC b o e hx) e1 (I.base.free b o e n hx)
 ·obtain⟨o',e1⟩:=I.base.there b o e hx
  exact there b o' (neC b o e hx) e1
 ·obtain⟨m1,e1⟩:=I.base.tbls b ps e
  obtain⟨m2,e2⟩:=tbls b _ e1;exact⟨m1++m2,by rw [e2,Array.append_assoc]⟩
 ·obtain⟨m,hn,hl⟩:=I.loc
  refine⟨m,ns m hn,fun i x v e1 e2 e3=>?_⟩;obtain⟨u,r,l⟩:=hl i x v e1 e2 e3;refine⟨u,r,?_⟩;rcases l with l|⟨k,c,e,z⟩
  ·exact .inl l
  ·exact .inr ⟨k,c,e,cellK x c e _ z⟩
 ·obtain⟨v,z⟩:=I.cell x c e
  exact⟨v,cellK x c e v z⟩
 ·obtain⟨m,⟨o,_,_,ho,_⟩,_⟩:=I.loc
  exact free _ o (fun z=>(hch _ z).2.1 rfl) ho I.free
 ·obtain⟨v,o,ho,hd⟩:=I.cell x c e
  exact free c o (fun z=>(hch c z).2.2.1 x c e rfl) ho (I.freeC x c e)
 ·obtain⟨e,n,ne,nf,d⟩:=I.pin p hp
  have nch:p.1∉ch:=fun z=>(hch p.1 z).2.2.2 p hp rfl;exact⟨keep p.1 p.2 ne nf nch e n,free p.1 p.2 nch e n,ne,nf,d⟩
theorem Inv.un{t':Nat}(I:Inv X pins σ H s)(u:Un X.fs [] H H' s.heap h')(hok:HOk X.prog X.w H' h'): Inv X pins σ H' {s with heap:=h',toks:=t'}:=by
 obtain⟨m,⟨o,es,ep,ho,r⟩,_⟩:=id I.loc;obtain⟨sl,hL⟩:=u.any ho I.free (by simp);exact I.step (g':=s.gens) (d':=s.drawn) (ch:=[]) (fun _ z=>nomatch z) (fun b o _ hb _ e n=>u.keep b o e n hb (by simp)) (fun b o _ hb _ e n=>u.slot b o e n hb (by simp)) (fun b o _ e n=>u.free b o e n (by simp)) (fun b o _ e=>u.there b o e (by simp)) u.tups u.frzs u.tbls (fun m' hm=>by
  obtain⟨o',es',ep',ho',r'⟩:=hm;rw [ho] at ho';cases ho';exact⟨_,es',ep',hL,r'⟩) hok I.bare
theorem Inv.call{g':Array GenState}{t':Nat}{d':Drawn}{ch:List Addr}(I:Inv X pins σ H s)(u:Un (frs X.stack) ch H H' s.heap h')(hok:HOk X.prog X.w H' h')(hg:AllBare g')
  (hch:∀b∈ch,(b∈X.ex\/X.s₀.heap.objs.size<=b)/\b≠X.env.locals/\(∀x c,X.env.cells.lookup x=some c->c≠b)/\∀p∈X.pn++pins,p.1≠b) :
  Inv X pins σ H' {s with heap:=h',gens:=g',drawn:=d',toks:=t'}:=by
 obtain⟨m,⟨o,es,ep,ho,r⟩,_⟩:=id I.loc;obtain⟨sl,hL⟩:=u.any ho I.free fun z=>(hch _ z).2.1 rfl;exact I.step (ch:=ch) hch (fun b o hL hb hc e n=>u.keep b o e n (fun z=>(mv.mp (I.stkSub b z)).elim hL hb) hc) (fun b o _ _ hc e n=>u.any e n hc) (fun b o hc e n=>u.free b o e n hc) (fun b o hc e=>u.there b o e hc) u.tups u.frzs u.tbls (fun m' hm=>by
  obtain⟨o',es',ep',ho',r'⟩:=hm;rw [ho] at ho';cases ho';exact⟨_,es',ep',hL,r'⟩) hok hg
theorem Inv.turned{t':Nat}{it:Addr}(I:Inv X pins σ H s)(k:∀b o,b≠it->s.heap.get? b=some o->h'.get? b=some o)(hn:H it=none)(hL:it≠X.env.locals)
  (h1:it∈X.ex\/X.s₀.heap.objs.size<=it) (h2:∀x c,X.env.cells.lookup x=some c->c≠it) (h3:∀p∈X.pn++pins,p.1≠it):Inv X pins σ H {s with heap:=h',toks:=t'}:=by
 have nit:∀b u,H b=some u->b≠it:=fun b u e z=>by rw [z,hn] at e;cases e
 refine I.step (g':=s.gens) (d':=s.drawn) (ch:=[it]) (fun b hb=>?_) (fun b o _ _ hc e _=>k b o (fun z=>hc (by simp [z])) e) (fun b o _ _ hc e _=>⟨o.slots,k b o (fun z=>hc (by simp [z])) e⟩) (fun _ _ _ _ n=>n)
  (fun b o hc e=>⟨o,k b o (fun z=>hc (by simp [z])) e⟩) (fun _ _ e=>e) (fun _ _ _ e=>e) (fun b ps e=>⟨#[],by rw [e];simp⟩) (fun m hm=>?_) (fun b u e=>?_) I.bare
 ·have e:b=it:=by simpa using hb
  subst e;exact⟨h1,hL,h2,h3⟩
 ·obtain⟨o,es,ep,ho,r⟩:=hm
  exact⟨o,es,ep,k _ o (m6 hL) ho,r⟩
 ·refine(I.hok b u e).stay (fun c v hc q=>k c v ?_ q) (fun _ q=>q) fun _ _ q=>q
  rcases hc with z|z
  ·rw [z];exact nit b u e
  ·exact nit c _ z
theorem Inv.tok(I:Inv X pins σ H s)(t:Nat): Inv X pins σ H {s with toks:=t}:=I.un (h':=s.heap) (t':=t) Un.refl I.hok
theorem Inv.kept{t':Nat}(I:Inv X pins σ H s)(k:∀b u,s.heap.get? b=some u->h'.get? b=some u): Inv X pins σ H {s with heap:=h',toks:=t'}:=I.un (Un.kept k) (I.hok.kept k)
theorem Inv.laid{a:Addr}{o:HO}{t':Nat}(I:Inv X pins σ H s)(k:∀b u,s.heap.get? b=some u->h'.get? b=some u)(hp:s.heap.objs.size<=a)(new:ObjOk X.prog X.w (upd H a o) h' a o):
  Inv X pins σ (upd H a o) {s with heap:=h',toks:=t'}:=I.un (Un.laid k hp (I.hok.fresh hp)) (I.hok.laid k hp new)
theorem Inv.write{x e:Addr}{o:HO}{t':Nat}(I:Inv X pins σ H s)(mu:Mut (H x))(he:e=x\/H e=some (.own x))(k:∀b u,b≠e->s.heap.get? b=some u->h'.get? b=some u)(heo:∃u,h'.get? e=some u)
  (new:ObjOk X.prog X.w (upd H x o) h' x o):Inv X pins σ (upd H x o) {s with heap:=h',toks:=t'}:=I.un (Un.write mu he k heo) (I.hok.write mu he k heo new)
theorem Inv.pins_of{pins':List (Addr×Obj)}(I:Inv X pins σ H s)(h:∀p∈pins',s.heap.get? p.1=some p.2/\H p.1=none/\p.1≠X.env.locals/\p.1∉X.fs/\∀v,p.2.data ≠ .cell v): Inv X pins' σ H s:=
 ⟨I.ok,I.os,I.bare,I.base,I.loc,I.cell,I.free,I.freeC,fun p hp=>(uu.mp hp).elim (fun z=>I.pin p (List.mem_append_left _ z)) (h p),I.hok,I.len⟩
theorem q8f{N:List Str}(hN:N.Nodup){i j:Nat}{x:Str}(a:N[i]? = some x)(b:N[j]? = some x): i=j:=by
 obtain⟨h1,e1⟩:=my.mp a;obtain⟨h2,e2⟩:=my.mp b;exact(List.getElem_inj hN).mp (e1.trans e2.symm)
theorem qcd{M:Model}{A:Around}{E:Value->Shared->Prop}{i:Nat}{x:Str}{v:V}{u:Value}{Q:Unit->Shared->Prop}(I:Inv X pins σ H s)(hN:X.N.Nodup)(hi:X.N[i]? = some x)(hx:Loc X.env.scope x)(r:RelV v u)
  (h:∀s',Inv X pins (σ.set i (some v)) H s'->(∃a,Heap.SameBut a s.heap s'.heap/\(a=X.env.locals\/X.env.cells.lookup x=some a))->Q () s') (hf:X.fn x=true\/X.env.scope.names.lookup x=some .local:=by first|exact .inl rfl|exact .inr rfl|assumption):wpAny M A (storeName X.env x u) Q E s:=by
 obtain⟨m,hn,hl⟩:=id I.loc;have hcls:(X.env.scope.kind == .class || (X.env.scope.kind == .module&&X.env.locals != X.env.globals))=false:=by rw [I.ok.kind];rfl
 have hiσ : i < σ.length:=by rw [I.len];exact(my.mp hi).1
 have cne:=I.cne;have tracked:∀ {a:Addr} {h':Heap},(∃o,s.heap.get? a=some o/\H a=none)->Heap.SameBut a s.heap h'->HOk X.prog X.w H h':=fun {a h'} ha hs b ob e=>by
  obtain⟨_,_,hfree⟩:=ha;refine(I.hok b ob e).stay (fun c w' hc q=>(hs.2 c ?_).trans q) (fun _ q=>q) fun _ _ q=>q
  rintro rfl
  rcases hc with rfl|hc
  ·rw [hfree] at e;cases e
  ·rw [hfree] at hc;cases hc
 rcases hx with hk|hk
 ·refine wpAny_storeName_local hk hn (fun h' hn' hs=>?_) hcls
  obtain⟨oL,_,_,hoL,_⟩:=id hn;refine h _ ⟨I.ok,I.os,I.bare,⟨fun b o e n hb hx=>?_,fun b o e n hb hx=>?_,I.base.free,fun b o e hx=>?_,I.base.tups,I.base.frzs,I.base.tbls⟩,⟨_,hn',fun j y v' e1 e2 e3=>?_⟩,fun y c e=>?_,I.free,I.freeC,fun p hp=>?_,tracked ⟨oL,hoL,I.free⟩ hs,by simpa using I.len⟩ ⟨_,hs,.inl rfl⟩
  ·exact(hs.2 b (mh (m8 (gs e) I.ok.above))).trans (I.base.keep b o e n hb hx)
  ·obtain⟨sl,e1⟩:=I.base.slot b o e n hb hx
   exact⟨sl,(hs.2 b (mh (m8 (gs e) I.ok.above))).trans e1⟩
  ·obtain⟨o',e1⟩:=I.base.there b o e hx
   exact⟨o',(hs.2 b (mh (m8 (gs e) I.ok.above))).trans e1⟩
  ·by_cases hj:j=i
   ·subst hj
    rw [hi] at e1;cases e1;rw [g10 hiσ] at e2;cases e2;exact⟨u,r,.inl ⟨hk,by simp⟩⟩
   ·rw [gf (m6 hj)] at e2
    obtain⟨u',r',q⟩:=hl j y v' e1 e2 e3;refine⟨u',r',?_⟩;rcases q with⟨k,e⟩|⟨k,c,e,z⟩
    ·refine .inl ⟨k,?_⟩
     have:y≠x:=fun e=>hj (q8f hN e1 (e ▸ hi));simp [this,e]
    ·exact .inr ⟨k,c,e,z.sameBut hs (cne y c e)⟩
  ·obtain⟨w',z⟩:=I.cell y c e
   exact⟨w',z.sameBut hs (cne y c e)⟩
  ·obtain⟨e,n,ne,nf,d⟩:=I.pin p hp
   exact⟨(hs.2 p.1 ne).trans e,n,ne,nf,d⟩
 ·have hfn:X.fn x=true:=by
   rcases hf with z|z
   ·exact z
   ·rw [z] at hk;cases hk
  obtain⟨c,hc⟩:=I.ok.has x (.inl hk);obtain⟨w',z⟩:=I.cell x c hc;refine wpAny_storeName_cell I.ok.kind hk hc z (fun h' hc' hs=>?_);obtain⟨oc,hoc,hocd⟩:=id z;refine h {s with heap:=h'} ⟨I.ok,I.os,I.bare,⟨fun b o e n hb hx=>?_,fun b o e n hb hx=>?_,I.base.free,fun b o e hx=>?_,I.base.tups,I.base.frzs,I.base.tbls⟩,⟨m,hn.sameBut hs (m6 (cne x c hc)),fun j y v' e1 e2 e3=>?_⟩,fun y c' e=>?_,I.free,I.freeC,fun p hp=>?_,tracked ⟨oc,hoc,I.freeC x c hc⟩ hs,by simpa using I.len⟩ ⟨c,hs,.inr hc⟩
  ·exact(hs.2 b (mh (m8 (gs e) (I.ok.cab x c hfn hc)))).trans (I.base.keep b o e n hb hx)
  ·obtain⟨sl,e1⟩:=I.base.slot b o e n hb hx
   exact⟨sl,(hs.2 b (mh (m8 (gs e) (I.ok.cab x c hfn hc)))).trans e1⟩
  ·obtain⟨o',e1⟩:=I.base.there b o e hx
   exact⟨o',(hs.2 b (mh (m8 (gs e) (I.ok.cab x c hfn hc)))).trans e1⟩
  ·by_cases hj:j=i
   ·subst hj
    rw [hi] at e1;cases e1;rw [g10 hiσ] at e2;cases e2;exact⟨u,r,.inr ⟨.inl hk,c,hc,hc'⟩⟩
   ·rw [gf (m6 hj)] at e2
    obtain⟨u',r',q⟩:=hl j y v' e1 e2 e3;refine⟨u',r',?_⟩;rcases q with q|⟨k,c',e,z'⟩
    ·exact .inl q
    ·refine .inr ⟨k,c',e,z'.sameBut hs ?_⟩
     rintro rfl
     exact hj (q8f hN e1 (I.ok.inj _ _ _ e hc ▸ hi))
  ·by_cases hcc:c'=c
   ·subst hcc;exact⟨_,hc'⟩
   ·obtain⟨w2,z2⟩:=I.cell y c' e
    exact⟨w2,z2.sameBut hs hcc⟩
  ·obtain⟨e,n,ne,nf,d⟩:=I.pin p hp
   refine⟨(hs.2 p.1 ?_).trans e,n,ne,nf,d⟩;intro q;rw [q,hoc] at e;have q':oc=p.2:=mn e;exact d w' (by rw [<- q'];exact hocd)
theorem q4x{M:Model}{A:Around}{E:Value->Shared->Prop}{i:Nat}{x:Str}{v:V}{u:Value}{Q:Unit->Shared->Prop}(I:Inv X pins σ H s)(hN:X.N.Nodup)(hi:X.N[i]? = some x)(hx:Loc X.env.scope x)(r:RelV v u)
  (h:∀s',Inv X pins (σ.set i (some v)) H s'->Q () s') (hf:X.fn x=true\/X.env.scope.names.lookup x=some .local:=by first|exact .inl rfl|exact .inr rfl|assumption):wpAny M A (storeName X.env x u) Q E s:=
 qcd I hN hi hx r (fun s' I' _=>h s' I') hf
theorem Inv.call'{s':Shared}{ch:List Addr}(I:Inv X pins σ H s)(ho:s'.os=s.os)(u:Un (frs X.stack) ch H H' s.heap s'.heap)(hok:HOk X.prog X.w H' s'.heap)(hg:AllBare s'.gens)
  (hch:∀b∈ch,(b∈X.ex\/X.s₀.heap.objs.size<=b)/\b≠X.env.locals/\(∀x c,X.env.cells.lookup x=some c->c≠b)/\∀p∈X.pn++pins,p.1≠b):Inv X pins σ H' s':=by
 obtain⟨h',g',d',t',o'⟩:=s';have e:o'=s.os:=ho;subst e;exact I.call (g':=g') (t':=t') (d':=d') u hok hg hch
end
abbrev XK:=Value->Option Addr->Hp->Prop
abbrev St:=List (Option V)
abbrev VK:=V->Hp->Prop
abbrev TE:=St->Hp->VK->Prop
abbrev TT:=St->Hp->(Bool->Hp->Prop)->Prop
abbrev TA:=St->Hp->(List V->Hp->Prop)->Prop
structure Ends where
 nx:St->Hp->Prop
 rt:VK
 bk:St->Hp->Prop:=fun _ _=>False
 ct:St->Hp->Prop:=fun _ _=>False
abbrev TS:=Ends->St->Hp->Prop
def EP(X:Cx)(pins:List (Addr×Obj))(σ : St)(Q:VK)(u:Value)(s':Shared): Prop:=∃v H',Inv X pins σ H' s'/\RelV v u/\Q v H'
def TP(X:Cx)(pins:List (Addr×Obj))(σ : St)(Q:Bool->Hp->Prop)(b:Bool)(s':Shared): Prop:=∃H',Inv X pins σ H' s'/\Q b H'
def AP(X:Cx)(pins:List (Addr×Obj))(σ : St)(Q:List V->Hp->Prop)(us:List Value)(s':Shared): Prop:=∃vs H',Inv X pins σ H' s'/\Vals vs us/\Q vs H'
def SP(X:Cx)(pins:List (Addr×Obj))(D:Ends)(f:Flow)(s':Shared): Prop:=
 match f with
 | .next=>∃ σ' H',Inv X pins σ' H' s'/\D.nx σ' H'
 | .brk=>∃ σ' H',Inv X pins σ' H' s'/\D.bk σ' H'
 | .cont=>∃ σ' H',Inv X pins σ' H' s'/\D.ct σ' H'
 | .ret u=>∃v σ' H',Inv X pins σ' H' s'/\RelV v u/\D.rt v H'
def PE(X:Cx)(e:Expr)(t:TE): Prop:=
 ∀(pins:List (Addr×Obj)) (s:Shared) (σ : St) (H:Hp) (Q:VK),Inv X pins σ H s->t σ H Q->wpAny (model X.prog X.w) X.A (eval e X.env) (EP X pins σ Q) X.xe s
def PT(X:Cx)(e:Expr)(t:TT): Prop:=
 ∀(pins:List (Addr×Obj)) (s:Shared) (σ : St) (H:Hp) (Q:Bool->Hp->Prop),Inv X pins σ H s->t σ H Q->wpAny (model X.prog X.w) X.A (isTrue e X.env (eval e X.env)) (TP X pins σ Q) X.xe s
def PW(X:Cx)(e:Expr)(t:TT): Prop:=
 ∀(whole:Sem Value) (pins:List (Addr×Obj)) (s:Shared) (σ : St) (H:Hp) (Q:Bool->Hp->Prop),Inv X pins σ H s->t σ H Q->wpAny (model X.prog X.w) X.A (isTrue e X.env whole) (TP X pins σ Q) X.xe s
theorem PW.pt{X:Cx}{e:Expr}{t:TT}(h:PW X e t): PT X e t:=h _
def PA(X:Cx)(es:List Expr)(t:TA): Prop:=
 ∀(pos:Pos) (pins:List (Addr×Obj)) (s:Shared) (σ : St) (H:Hp) (Q:List V->Hp->Prop),Inv X pins σ H s->t σ H Q->wpAny (model X.prog X.w) X.A (spliced (backTo pos (starEach es X.env))) (AP X pins σ Q) X.xe s
def PS(X:Cx)(st:Stmt)(t:TS): Prop:=
 ∀(pins:List (Addr×Obj)) (s:Shared) (σ : St) (H:Hp) (D:Ends),Inv X pins σ H s->t D σ H->wpAny (model X.prog X.w) X.A (exec st X.env) (SP X pins D) X.xe s
def PSs(X:Cx)(st:List Stmt)(t:TS): Prop:=
 ∀(pins:List (Addr×Obj)) (s:Shared) (σ : St) (H:Hp) (D:Ends),Inv X pins σ H s->t D σ H->wpAny (model X.prog X.w) X.A (execs st X.env) (SP X pins D) X.xe s
theorem thn{α : Type}{t:Sem α}{Q Q' : α -> Shared->Prop}{M:Model}{A:Around}{E:Value->Shared->Prop}{s:Shared}(h:wpAny M A t Q E s)(hQ:∀a s,Q a s->Q' a s): wpAny M A t Q' E s:=p5 h hQ fun _ _ x=>x
section
variable{X:Cx}
def q2g(i:Nat): TE:=fun σ H Q=>∃v, σ[i]? = some (some v)/\Q v H
def tC(v:V): TE:=fun _ H Q=>Q v H
theorem qhx{i:Nat}{x:Str}{pos:Pos}(hN:X.N[i]? = some x)(hv:Vis X.env.scope x)(hd:(x==("__debug__" : Str))=false:=by decide)(hcd:(x==("__classdict__" : Str))=false:=by decide): PE X (.Name x pos) (q2g i):=by
 intro pins s σ H Q I h;obtain⟨v,e,h⟩:=h;obtain⟨m,hn,hl⟩:=I.loc;obtain⟨u,r,l⟩:=hl i x v hN e hv;have fin:EP X pins σ Q u s:=⟨v,H,I,r,h⟩
 rcases l with⟨hk,hm⟩|⟨hk,c,hc,hcell⟩
 ·exact wpAny_Name (wpAny_loadName_local I.ok.kind hk hn hm fin) hd
 ·rcases hk with hk|hk
  ·exact wpAny_Name (wpAny_loadName_cell I.ok.kind hk hc hcell fin) hd
  ·exact wpAny_Name (wpAny_loadName_free I.ok.kind hk hc hcell fin hcd) hd
theorem qhy{i j pos}: PE X (.Constant (.int i) j pos) (tC (.int i)):=fun _ _ _ H _ I h=>wpAny_Constant_int ⟨.int i,H,I.tok _,⟨_,rfl⟩,h⟩
theorem qjw{b j pos}: PE X (.Constant (.bool b) j pos) (tC (.bl b)):=fun _ _ _ H _ I h=>Constant_bool ⟨.bl b,H,I,rfl,h⟩
theorem qhz{j pos}: PE X (.Constant .none j pos) (tC .non):=fun _ _ _ H _ I h=>Constant_none ⟨.non,H,I,rfl,h⟩
def Gl(X:Cx)(x:Str): Prop:=X.env.kindOf x=some .globalImplicit
theorem q68{E:Value->Shared->Prop}{pins:List (Addr×Obj)}{s:Shared}{σ : St}{H:Hp}{x:Str}{u:Value}{pos:Pos}{Q:Value->Shared->Prop}(I:Inv X pins σ H s)(hg:Gl X x)(hm:X.mg x=some u)(h:Q u s)
  (hd:(x==("__debug__" : Str))=false:=by decide):wpAny (model X.prog X.w) X.A (eval (.Name x pos) X.env) Q E s:=
 Calls.Name_function_global I.ok.kind hg (Calls.loadGlobal_global (by rw [I.ok.glob];exact I.mod.glob.keeps I.bk) hm h) hd
theorem q33{E:Value->Shared->Prop}{pins:List (Addr×Obj)}{s:Shared}{σ : St}{H:Hp}{x:Str}{u:Value}{pos:Pos}{Q:Value->Shared->Prop}(I:Inv X pins σ H s)(hg:Gl X x)(hm:X.mg x=none)(hv:bootBuiltins x=some u)(h:Q u s)
  (hn:x≠"__name__" :=by decide) (hd:(x==("__debug__" : Str))=false:=by decide):wpAny (model X.prog X.w) X.A (eval (.Name x pos) X.env) Q E s:=by
 obtain⟨mb,h1,h2⟩:=I.mod.blt;exact Calls.Name_function_global I.ok.kind hg (Calls.loadGlobal_builtin (by rw [I.ok.glob];exact I.mod.glob.keeps I.bk) hm (by rw [I.ok.blt];exact h1.keeps I.bk) ((h2 x hn).trans hv) h) hd
theorem qgj{x:Str}{v:V}{u:Value}{pos:Pos}(hg:Gl X x)(hm:X.mg x=some u)(r:RelV v u)(hd:(x==("__debug__" : Str))=false:=by decide): PE X (.Name x pos) (tC v):=
 fun _ _ _ H _ I h=>q68 I hg hm ⟨v,H,I,r,h⟩ hd
theorem qgk{x:Str}{v:V}{u:Value}{pos:Pos}(hg:Gl X x)(hm:X.mg x=none)(hv:bootBuiltins x=some u)(r:RelV v u)(hn:x≠"__name__" :=by decide)(hd:(x==("__debug__" : Str))=false:=by decide): PE X (.Name x pos) (tC v):=
 fun _ _ _ H _ I h=>q33 I hg hm hv ⟨v,H,I,r,h⟩ hn hd
variable{a b:Expr}{ta tb:TE}{pos:Pos}
theorem q8g(b:Expr){op:CmpOp}(h:op ≠ .In)(h2:op ≠ .NotIn): behindInMarks op b=false:=by
 have e1:(op==CmpOp.In)=false:=by cases op <;> first|rfl|exact absurd rfl h
 have e2:(op==CmpOp.NotIn)=false:=by cases op <;> first|rfl|exact absurd rfl h2
 cases b <;> simp [behindInMarks,e1,e2]
variable{tA tB':TT}{rest:List Expr}
def qkx(t u:TT): TT:=fun σ H Q=>t σ H fun c H1=>if c=true then u σ H1 Q else Q false H1
def tOr(t u:TT): TT:=fun σ H Q=>t σ H fun c H1=>if c=true then Q true H1 else u σ H1 Q
def qky(t:TT): TT:=fun σ H Q=>t σ H fun c H1=>Q (!c) H1
theorem qgl(ha:PT X a tA): PW X (.BoolOp .And [a] pos) tA:=by
 intro wh pins s σ H Q I h;refine isTrue_and (thn (ha pins s σ H Q I h) fun c s1 e=>?_);cases c with
 | true=>exact isTrue_and_nil e
 | false=>exact e
theorem qi0(ha:PT X a tA): PW X (.BoolOp .Or [a] pos) tA:=by
 intro wh pins s σ H Q I h;refine isTrue_or (thn (ha pins s σ H Q I h) fun c s1 e=>?_);cases c with
 | false=>exact isTrue_or_nil e
 | true=>exact e
theorem qi1(ha:PT X a tA)(hb:PW X (.BoolOp .And (b :: rest) pos) tB'): PW X (.BoolOp .And (a :: b :: rest) pos) (qkx tA tB'):=by
 intro wh pins s σ H Q I h;refine isTrue_and (thn (ha pins s σ H _ I h) fun c s1 ⟨H1,I1,q1⟩=>?_);cases c with
 | true=>exact hb wh pins s1 σ H1 Q I1 q1
 | false=>exact⟨H1,I1,q1⟩
theorem qjx(ha:PT X a tA)(hb:PW X (.BoolOp .Or (b :: rest) pos) tB'): PW X (.BoolOp .Or (a :: b :: rest) pos) (tOr tA tB'):=by
 intro wh pins s σ H Q I h;refine isTrue_or (thn (ha pins s σ H _ I h) fun c s1 ⟨H1,I1,q1⟩=>?_);cases c with
 | true=>exact⟨H1,I1,q1⟩
 | false=>exact hb wh pins s1 σ H1 Q I1 q1
theorem qce(ha:PT X a tA): PT X (.UnaryOp .Not a pos) (qky tA):=by
 intro pins s σ H Q I h;exact isTrue_not (ha pins s σ H (fun c H1=>Q (!c) H1) I h)
def qjy(ta tb:TE): TE:=fun σ H Q=>ta σ H fun x H1=>∃c,x=.bl c/\if c=true then tb σ H1 Q else Q (.bl false) H1
def qjz(ta:TE): TE:=fun σ H Q=>ta σ H fun x H1=>∃c,x=.bl c/\Q (.bl (!c)) H1
theorem qi2{op}{t:TE}(h:PE X a t): PE X (.BoolOp op [a] pos) t:=fun pins s σ H Q I hw=>BoolOp_one (h pins s σ H Q I hw)
theorem qi3(ha:PE X a ta)(hb:PE X (.BoolOp .And (b :: rest) pos) tb): PE X (.BoolOp .And (a :: b :: rest) pos) (qjy ta tb):=by
 intro pins s σ H Q I h;refine BoolOp_and (thn (ha pins s σ H _ I h) fun v s1 ⟨x,H1,I1,r1,q1⟩=>?_);obtain⟨c,rfl,q1⟩:=q1;cases r1;refine p9 ?_;cases c with
 | true=>exact hb pins s1 σ H1 Q I1 q1
 | false=>exact⟨.bl false,H1,I1,rfl,q1⟩
theorem qi4(ha:PE X a ta): PE X (.UnaryOp .Not a pos) (qjz ta):=by
 intro pins s σ H Q I h;refine UnaryOp_ (thn (ha pins s σ H _ I h) fun v s1 ⟨x,H1,I1,r1,q1⟩=>?_);obtain⟨c,rfl,q1⟩:=q1;cases r1;exact not_of (p9 ⟨.bl (!c),H1,I1,rfl,q1⟩)
def tIf(t:TT)(ta tb:TE): TE:=fun σ H Q=>t σ H fun c H1=>if c=true then ta σ H1 Q else tb σ H1 Q
theorem qec{c:Expr}(hc:PT X c tA)(ha:PE X a ta)(hb:PE X b tb): PE X (.IfExp c a b pos) (tIf tA ta tb):=by
 intro pins s σ H Q I h;refine wpAny_IfExp (thn (hc pins s σ H _ I h) fun d s1 ⟨H1,I1,q1⟩=>?_);cases d with
 | true=>exact ha pins s1 σ H1 Q I1 q1
 | false=>exact hb pins s1 σ H1 Q I1 q1
end
def SqL(K:PySem.W.Frag)(H:Hp)(a:Addr)(xs:List V): Prop:=
 Rd H a (.lst xs) \/
  ∃(o:Obj) (its:Array Value) (n:Nat),K.lookup a=some o/\o.cls=.type "list" /\ o.dict=none/\o.data=.seq its n/\its.size<=sizeLine/\Vals xs its.toList
def SqT(K:PySem.W.Frag)(H:Hp)(a:Addr)(xs:List V): Prop:=
 Rd H a (.tup xs) \/
  ∃(o:Obj) (its:Array Value) (n:Nat),K.lookup a=some o/\o.cls=.type "tuple" /\ o.dict=none/\o.data=.seq its n/\its.size<=sizeLine/\Vals xs its.toList
def qkz:Value->Option V
 | .none=>some .non
 | .bool b=>some (.bl b)
 | .int i _=>some (.int i)
 | .str x _=>some (.str x)
 | .bytes b _=>some (.byt b)
 | .float b _=>some (.flt b)
 | .ref a=>some (.ref a)
 | .type n=>some (.ty n)
 | _=>none
theorem RelV.abs{x:V}{u:Value}(r:RelV x u): qkz u=some x:=by
 cases x with
 | non=>cases r;rfl
 | bl _=>cases r;rfl
 | int _=>obtain⟨t,rfl⟩:=r;rfl
 | str _=>obtain⟨t,rfl⟩:=r;rfl
 | byt _=>obtain⟨t,rfl⟩:=r;rfl
 | flt _=>obtain⟨t,rfl⟩:=r;rfl
 | ref _=>cases r;rfl
 | ty _=>cases r;rfl
theorem RelV.inj{x y:V}{u:Value}(r:RelV x u)(q:RelV y u): x=y:=mn (r.abs.symm.trans q.abs)
theorem Vals.inj:∀ {xs ys:List V} {us:List Value},Vals xs us->Vals ys us->xs=ys
 | _,_,_,.nil,.nil=>rfl
 | _,_,_,.cons r t,.cons r' t'=>by rw [r.inj r',Vals.inj t t']
section
variable{X:Cx}{pins:List (Addr×Obj)}{σ : St}{H:Hp}{s:Shared}{a:Addr}{xs ys:List V}
theorem SqL.of{K:PySem.W.Frag}(h:H a=some (.lst xs)): SqL K H a xs:=.inl (.inl h)
theorem SqT.of{K:PySem.W.Frag}(h:H a=some (.tup xs)): SqT K H a xs:=.inl (.inl h)
theorem Inv.list(I:Inv X pins σ H s)(h:SqL X.K H a xs): ∃its:List Value,Vals xs its/\PlainL s.heap a its.toArray/\xs.length<=sizeLine:=by
 rcases h with h|⟨o,its,n,hk,hc,hd,hs,hz,r⟩
 ·obtain⟨z,its,n,r,e⟩:=h.ok I.hok
  exact⟨its,r,⟨_,n,e,rfl,rfl,rfl⟩,z⟩
 ·refine⟨its.toList,r,⟨o,n,I.kIn a o hk,hc,hd,by simpa using hs⟩,?_⟩
  have e:=r.length;simp only [g04] at e;omega
theorem Inv.tupleX(I:Inv X pins σ H s)(h:SqT X.K H a xs): ∃its:List Value,Vals xs its/\TupX s.heap a its.toArray/\xs.length<=sizeLine:=by
 rcases h with h|⟨o,its,n,hk,hc,hd,hs,hz,r⟩
 ·obtain⟨z,its,r,p⟩:=h.ok I.hok
  exact⟨its,r,p,z⟩
 ·refine⟨its.toList,r,⟨o,I.kIn a o hk,hc,hd,n,by simpa using hs⟩,?_⟩
  have e:=r.length;simp only [g04] at e;omega
theorem Inv.tuple(I:Inv X pins σ H s)(h:SqT X.K H a xs): ∃its:List Value,Vals xs its/\IsTup s.heap a its.toArray/\xs.length<=sizeLine:=let⟨its,r,p,z⟩:=I.tupleX h; ⟨its,r,p.up,z⟩
theorem Inv.list_inj(I:Inv X pins σ H s)(h:SqL X.K H a xs)(h':SqL X.K H a ys): xs=ys:=by
 obtain⟨its,r,⟨o,n,e,_,_,d⟩,_⟩:=I.list h;obtain⟨its',r',⟨o',n',e',_,_,d'⟩,_⟩:=I.list h';rw [e] at e';cases e';rw [d] at d';injection d' with d1 _
 have:its=its':=by simpa using pb Array.toList d1
 subst this;exact r.inj r'
theorem Inv.tuple_inj(I:Inv X pins σ H s)(h:SqT X.K H a xs)(h':SqT X.K H a ys): xs=ys:=by
 obtain⟨its,r,⟨o,e,_,n,d⟩,_⟩:=I.tuple h;obtain⟨its',r',⟨o',e',_,n',d'⟩,_⟩:=I.tuple h';rw [e] at e';cases e';rw [d] at d';injection d' with d1 _
 have:its=its':=by simpa using pb Array.toList d1
 subst this;exact r.inj r'
end
abbrev Cx.wish(X:Cx)(E:Value->Shared->Prop): Cx:={X with xe:=E}
abbrev Cx.nox(X:Cx): Cx:=X.wish fun _ _=>False
theorem Cx.Ok.wish{X:Cx}(ok:X.Ok)(E:Value->Shared->Prop): (X.wish E).Ok:=
 ⟨ok.mod,ok.kind,ok.glob,ok.blt,ok.above,ok.inj,ok.has,ok.cab,ok.hd,ok.frames,ok.stk,ok.exf,ok.bs,ok.bsz,ok.noex,ok.exfs,ok.funs,ok.frf⟩
theorem Cx.Ok.unwish{X:Cx}{E:Value->Shared->Prop}(ok:(X.wish E).Ok): X.Ok:=
 ⟨ok.mod,ok.kind,ok.glob,ok.blt,ok.above,ok.inj,ok.has,ok.cab,ok.hd,ok.frames,ok.stk,ok.exf,ok.bs,ok.bsz,ok.noex,ok.exfs,ok.funs,ok.frf⟩
section
variable{X:Cx}{pins:List (Addr×Obj)}{σ : St}{H:Hp}{s:Shared}{E:Value->Shared->Prop}
theorem Inv.wish(I:Inv X pins σ H s)(E:Value->Shared->Prop): Inv (X.wish E) pins σ H s:=⟨I.ok.wish E,I.os,I.bare,I.base,I.loc,I.cell,I.free,I.freeC,I.pin,I.hok,I.len⟩
theorem Inv.unwish(I:Inv (X.wish E) pins σ H s): Inv X pins σ H s:=⟨I.ok.unwish,I.os,I.bare,I.base,I.loc,I.cell,I.free,I.freeC,I.pin,I.hok,I.len⟩
theorem SP.unwish{D:Ends}{f:Flow}{s':Shared}(h:SP (X.wish E) pins D f s'): SP X pins D f s':=by
 cases f with
 | next=>obtain⟨σ',H',I,q⟩:=h;exact⟨σ',H',I.unwish,q⟩
 | brk=>obtain⟨σ',H',I,q⟩:=h;exact⟨σ',H',I.unwish,q⟩
 | cont=>obtain⟨σ',H',I,q⟩:=h;exact⟨σ',H',I.unwish,q⟩
 | ret u=>obtain⟨v, σ',H',I,r,q⟩:=h;exact⟨v, σ',H',I.unwish,r,q⟩
theorem PSs.nox{st:List Stmt}{t:TS}(h:PSs X.nox st t): PSs X st t:=fun pins s σ H D I hw=>
 p5 (h pins s σ H D (I.wish _) hw) (fun _ _ q=>q.unwish) fun _ _ z=>False.elim z
end
section
variable{X:Cx}{st:Stmt}{rest:List Stmt}{t u:TS}{e:Expr}{te:TE}{pos:Pos}
def tNext:TS:=fun D σ H=>D.nx σ H
def ql0(t u:TS): TS:=fun D σ H=>t {D with nx:=u D} σ H
theorem qgm:PSs X [] tNext:=fun _ _ σ H _ I h=>g0v ⟨σ,H,I,h⟩
theorem qed(h1:PS X st t)(h2:PSs X rest u): PSs X (st :: rest) (ql0 t u):=by
 intro pins s σ H D I h;refine wpAny_execs_cons (thn (h1 pins s σ H {D with nx:=u D} I h) fun f s1 q=>?_);cases f with
 | next=>
  obtain⟨σ',H',I',q⟩:=q;exact h2 pins s1 σ' H' D I' q
 | ret v=>exact q
 | brk=>exact q
 | cont=>exact q
theorem qgn(h1:PS X st t): PSs X [st] t:=by
 intro pins s σ H D I h;refine wpAny_execs_cons (thn (h1 pins s σ H D I h) fun f s1 q=>?_);cases f with
 | next=>exact g0v q
 | ret v=>exact q
 | brk=>exact q
 | cont=>exact q
theorem Inv.quiet{pins:List (Addr×Obj)}{σ : St}{H:Hp}{s:Shared}(I:Inv X pins σ H s): interactive X.env=false:=by simp [interactive,I.ok.kind]
def qk0(te:TE): TS:=fun D σ H=>te σ H fun _ H1=>D.nx σ H1
theorem qal(he:PE X e te)(hs:swapsWith e none pos.line X.env=pure false:=by rfl): PS X (.Expr e pos) (qk0 te):=by
 intro pins s σ H D I h;exact wpAny_Expr_any (thn (he pins s σ H _ I h) fun v s1 ⟨x,H1,I1,r1,q1⟩=>⟨σ,H1,I1,q1⟩) I.quiet hs
def ql1(te:TE): TS:=fun D σ H=>te σ H D.rt
theorem qcf(he:PE X e te): PS X (.Return (some e) pos) (ql1 te):=by
 intro pins s σ H D I h;exact wpAny_Return_some (thn (he pins s σ H _ I h) fun v s1 ⟨x,H1,I1,r1,q1⟩=>⟨x, σ,H1,I1,r1,q1⟩)
def ql2(c:TT)(t u:TS): TS:=fun D σ H=>c σ H fun b H1=>if b=true then t D σ H1 else u D σ H1
theorem qg3{c:Expr}{a b:List Stmt}{tc:TT}(hc:PT X c tc)(ha:PSs X a t)(hb:PSs X b u): PS X (.If c a b pos) (ql2 tc t u):=by
 intro pins s σ H D I h;refine wpAny_If (thn (hc pins s σ H _ I h) fun d s1 ⟨H1,I1,q1⟩=>?_);cases d with
 | true=>exact ha pins s1 σ H1 D I1 q1
 | false=>exact hb pins s1 σ H1 D I1 q1
end
abbrev TG:=V->St->Hp->(St->Hp->Prop)->Prop
abbrev TGs:=List V->St->Hp->(St->Hp->Prop)->Prop
def PG(X:Cx)(target:Expr)(t:TG): Prop:=
 ∀(pins:List (Addr×Obj)) (s:Shared) (σ : St) (H:Hp) (v:V) (u:Value) (Q:St->Hp->Prop),Inv X pins σ H s->RelV v u->t v σ H Q ->
  wpAny (model X.prog X.w) X.A (assign target X.env u) (fun _ s'=>∃ σ' H',Inv X pins σ' H' s'/\Q σ' H') X.xe s
def PGs(X:Cx)(ts:List Expr)(t:TGs): Prop:=
 ∀(pins:List (Addr×Obj)) (s:Shared) (σ : St) (H:Hp) (vs:List V) (us:List Value) (Q:St->Hp->Prop),Inv X pins σ H s->Vals vs us->t vs σ H Q ->
  wpAny (model X.prog X.w) X.A (assignInOrder ((assignEach ts X.env).map (·.2)) us) (fun _ s'=>∃ σ' H',Inv X pins σ' H' s'/\Q σ' H') X.xe s
abbrev TIp:=V->V->Hp->VK->Prop
def PIp(X:Cx)(op:Operator)(t:TIp): Prop:=
 ∀(pins:List (Addr×Obj)) (s:Shared) (σ : St) (H:Hp) (x y:V) (v u:Value) (Q:VK),Inv X pins σ H s->RelV x v->RelV y u->t x y H Q ->
  wpAny (model X.prog X.w) X.A (inplaceOp op v u) (EP X pins σ Q) X.xe s
section
variable{X:Cx}{pos:Pos}
def q85(i:Nat): TG:=fun v σ H Q=>Q (σ.set i (some v)) H
theorem qgo{i:Nat}{x:Str}(hN:X.N.Nodup)(hi:X.N[i]? = some x)(hx:Loc X.env.scope x)(hf:X.fn x=true\/X.env.scope.names.lookup x=some .local:=by first|exact .inl rfl|exact .inr rfl|assumption): PG X (.Name x pos) (q85 i):=by
 intro pins s σ H v u Q I r h;exact wpAny_assign_Name (q4x I hN hi hx r (fun s' I'=>⟨_,H,I',h⟩) hf)
def gNil:TGs:=fun vs σ H Q=>vs=[]/\Q σ H
def qk1(t:TG)(u:TGs): TGs:=fun vs σ H Q=>∃v r,vs=v :: r/\t v σ H fun σ' H'=>u r σ' H' Q
theorem qgp:PGs X [] gNil:=by
 intro pins s σ H vs us Q I r h;obtain⟨e,h⟩:=h;subst e;cases r;exact assignInOrder_nil ⟨σ,H,I,h⟩
theorem qee{e:Expr}{es:List Expr}{t:TG}{u:TGs}(h1:PG X e t)(h2:PGs X es u)
  (hs:(assignEach (e :: es) X.env).map (·.2)=assign e X.env :: (assignEach es X.env).map (·.2):=by rfl):PGs X (e :: es) (qk1 t u):=by
 intro pins s σ H vs us Q I r h;obtain⟨v,vr,e1,h⟩:=h;subst e1;cases r with
 | cons r rr=>
  rw [hs];refine assignInOrder_cons (thn (h1 pins s σ H _ _ _ I r h) fun _ s1 ⟨σ1,H1,I1,q1⟩=>?_);exact h2 pins s1 σ1 H1 _ _ Q I1 rr q1
def ql3(K:PySem.W.Frag)(n:Nat)(t:TGs): TG:=fun v σ H Q=>∃a xs,v=.ref a/\SqT K H a xs/\xs.length=n/\t xs σ H Q
theorem qi5{es:List Expr}{k:Nat}{t:TGs}{n:Nat}(hc:X.calm=true)(h:PGs X es t)
  (hn:(assignEach es X.env).length=n:=by rfl) (hst:(assignEach es X.env).findIdx? (·.1)=none:=by rfl):PG X (.Tuple es k pos) (ql3 X.K n t):=by
 intro pins s σ H v u Q I r hw;obtain⟨a,xs,e1,hq,hl,hw⟩:=hw;subst e1;cases r;obtain⟨its,rv,ht,hz⟩:=I.tuple hq;refine assign_Tuple_tuple (I.ok.hd hc) ht (by simp [hn, <- hl,rv.length]) hst fun h' hx=>?_;have I1:Inv X pins σ H {s with heap:=h'}:=I.kept (t':=s.toks) fun b o e=>hx b o (mh (gs e)) e;exact h pins _ σ H xs _ Q I1 (by simpa using rv) hw
def qi6(te:TE)(g:TG): TS:=fun D σ H=>te σ H fun x H1=>g x σ H1 D.nx
theorem qi7{tg e:Expr}{te:TE}{g:TG}(he:PE X e te)(hg:PG X tg g)(hs:swapsWithSole [tg] e pos.line X.env=pure false:=by rfl)(hw:swappedStores [tg] e X.env=pure none:=by rfl)
  (h1:(assignEach [tg] X.env).map (·.2)=[assign tg X.env]:=by rfl):PS X (.Assign [tg] e pos) (qi6 te g):=by
 intro pins s σ H D I h;refine wpAny_Assign_stores (thn (he pins s σ H _ I h) fun v s1 ⟨x,H1,I1,r1,q1⟩=>?_) hs hw;rw [h1];exact thn (hg pins s1 σ H1 x v _ I1 r1 q1) fun _ s2 q=>q
theorem q5c{i:Nat}{x:Str}{e:Expr}{te:TE}{pos':Pos}(hN:X.N.Nodup)(hi:X.N[i]? = some x)(hx:Loc X.env.scope x)(he:PE X e te)(hs:swapsWith e (some (.Name x pos')) pos.line X.env=pure false:=by rfl)(hf:X.fn x=true\/X.env.scope.names.lookup x=some .local:=by first|exact .inl rfl|exact .inr rfl|assumption):
  PS X (.Assign [.Name x pos'] e pos) (qi6 te (q85 i)):=by
 intro pins s σ H D I h;refine wpAny_Assign_Name (thn (he pins s σ H _ I h) fun v s1 ⟨y,H1,I1,r1,q1⟩=>?_) hs;exact q4x I1 hN hi hx r1 (fun s2 I2=>⟨_,H1,I2,q1⟩) hf
def qi8(i:Nat)(te:TE)(ti:TIp): TS:=fun D σ H=>∃x, σ[i]? = some (some x)/\te σ H fun y H1=>ti x y H1 fun z H2=>D.nx (σ.set i (some z)) H2
theorem qi9{i:Nat}{x:Str}{e:Expr}{te:TE}{op:Operator}{ti:TIp}{pos':Pos}(hN:X.N.Nodup)(hi:X.N[i]? = some x)(hx:Loc X.env.scope x)(he:PE X e te)(ho:PIp X op ti)(hf:X.fn x=true\/X.env.scope.names.lookup x=some .local:=by first|exact .inl rfl|exact .inr rfl|assumption):
  PS X (.AugAssign (.Name x pos') op e pos) (qi8 i te ti):=by
 intro pins s σ H D I h;obtain⟨v,e1,h⟩:=h;obtain⟨m,hn,hl⟩:=I.loc;have vis:Vis X.env.scope x:=by rcases hx with k|k;exact .inl k;exact .inr (.inl k)
 obtain⟨u,r,l⟩:=hl i x v hi e1 vis;refine wpAny_AugAssign_Name ?_;have go:wpAny (model X.prog X.w) X.A (eval e X.env) (fun w s₂=>wpAny (model X.prog X.w) X.A (inplaceOp op u w) (fun r s₃=>wpAny (model X.prog X.w) X.A (storeName X.env x r) (fun _=>SP X pins D .next) X.xe s₃) X.xe s₂) X.xe s:=by
  refine thn (he pins s σ H _ I h) fun w s1 ⟨y,H1,I1,r1,q1⟩=>?_;refine thn (ho pins s1 σ H1 v y u w _ I1 r r1 q1) fun z s2 ⟨zv,H2,I2,r2,q2⟩=>?_;exact q4x I2 hN hi hx r2 (fun s3 I3=>⟨_,H2,I3,q2⟩) hf
 rcases l with⟨hk,hm⟩|⟨hk,c,hc,hcell⟩
 ·exact wpAny_loadName_local I.ok.kind hk hn hm go
 ·rcases hk with hk|hk
  ·exact wpAny_loadName_cell I.ok.kind hk hc hcell go
  ·rcases hx with k|k
   ·have:X.env.scope.names.lookup x=some .free:=hk
    rw [k] at this;cases this
   ·have:X.env.scope.names.lookup x=some .free:=hk
    rw [k] at this;cases this
def ipI(f:Int->Int->Int): TIp:=fun x y H Q=>∃i j,x=.int i/\y=.int j/\Q (.int (f i j)) H
theorem qia:PIp X .Sub (ipI fun i j=>i-j):=by
 intro pins s σ H x y v u Q I r1 r2 h;obtain⟨i,j,e1,e2,q⟩:=h;subst e1;subst e2;obtain⟨t,rfl⟩:=r1;obtain⟨t',rfl⟩:=r2;exact isub_int ⟨.int _,H,I.tok _,⟨_,rfl⟩,q⟩
end
section
variable{X:Cx}{pos:Pos}
end
structure It where
 go:Nat->Hp->Prop
 yld:Nat->Hp->V->Hp->Prop
 stop:Nat->Hp->Prop
def k7(X:Cx)(pins:List (Addr×Obj))(H:Hp)(b:Addr): Prop:=
 H b=none/\b≠X.env.locals/\b∉X.fs/\(b∈X.ex\/X.s₀.heap.objs.size<=b)/\(∀x c,X.env.cells.lookup x=some c->c≠b)/\∀p∈X.pn++pins,p.1≠b
theorem Inv.fpOk{X:Cx}{pins:List (Addr×Obj)}{σ : St}{H H':Hp}{s:Shared}{b:Addr}(I:Inv X pins σ H s)(hb:s.heap.objs.size<=b)(hn:H' b=none): k7 X pins H' b:=by
 refine⟨hn,uv (m8 I.lt hb),I.nofs hb,.inr (mj I.sz hb),fun x c e z=>?_,fun p hp z=>?_⟩
 ·obtain⟨v,q⟩:=I.cell x c e
  exact absurd (m8 q.lt (by rw [z];exact hb)) (ph _)
 ·exact absurd (m8 (gs (I.pin p hp).1) (by rw [z];exact hb)) (ph _)
structure Turn(P:Program)(w:World)(K:PySem.W.Frag)(tg:Expr)(J:It)(fp:List Addr)(it:Addr)(tn:Nat->Heap->Prop): Prop where
 mem:it∈fp
 obj:∀i h,tn i h->∀b∈fp,∃o,h.get? b=some o/\∀v,o.data ≠ .cell v
 keep:∀i h h',tn i h->(∀b∈fp,∀o,h.get? b=some o->h'.get? b=some o)->tn i h'
 item:∀(X:Cx),X.prog=P->X.w=w->X.K=K->X.calm=true->∀(i:Nat) (pins:List (Addr×Obj)) (s:Shared) (σ : St) (H:Hp) (E:Value->Shared->Prop),Inv X pins σ H s->(∀b∈fp,k7 X pins H b)->tn i s.heap->J.go i H ->
  wpAny (model P w) X.A (pyNext (.ref it)) (fun r s1=>∃u,r=some u /\
   wpAny (model P w) X.A (letOwnedTupleGo tg (.ref it) u) (fun _ s2=>∃x H',Inv X pins σ H' s2/\RelV x u/\J.yld i H x H'/\tn (i+1) s2.heap/\∀b∈fp,H' b=none) E s1) E s
 done:∀(X:Cx),X.prog=P->X.w=w->X.K=K->X.calm=true->∀(i:Nat) (pins:List (Addr×Obj)) (s:Shared) (σ : St) (H:Hp) (E:Value->Shared->Prop),Inv X pins σ H s->(∀b∈fp,k7 X pins H b)->tn i s.heap->J.stop i H ->
  wpAny (model P w) X.A (pyNext (.ref it)) (fun r s1=>r=none/\Inv X pins σ H s1) E s
 self:∀(A:Around) (i:Nat) (s:Shared) (Q:Value->Shared->Prop) (E:Value->Shared->Prop),tn i s.heap->Q (.ref it) s->wpAny (model P w) A (pyIter (.ref it)) Q E s
abbrev TI:=St->Hp->(It->Hp->Prop)->Prop
def PIE(X:Cx)(pins:List (Addr×Obj))(σ : St)(tg:Expr)(R:It->Hp->Prop)(itv:Value)(s2:Shared): Prop:=
 ∃(it:Addr) (fp:List Addr) (tn:Nat->Heap->Prop) (J:It) (H':Hp),itv=.ref it/\Inv X pins σ H' s2/\Turn X.prog X.w X.K tg J fp it tn/\tn 0 s2.heap/\(∀b∈fp,k7 X pins H' b)/\R J H'
def PI(X:Cx)(tg iter:Expr)(wi:TI): Prop:=
 ∀(pins:List (Addr×Obj)) (s:Shared) (σ : St) (H:Hp) (R:It->Hp->Prop),Inv X pins σ H s->wi σ H R ->
  wpAny (model X.prog X.w) X.A (eval iter X.env) (fun v s1=>wpAny (model X.prog X.w) X.A (pyIter v) (PIE X pins σ tg R) X.xe s1) X.xe s
theorem qbf{M:Model}{A:Around}{E:Value->Shared->Prop}{s:Shared}{tg:Expr}{it:Addr}{u:Value}{o:Obj}{n:String}{vs:Array Value}{Q:Unit->Shared->Prop}(ho:s.heap.get? it=some o)(hc:o.cls=.type n)(hd:o.data=.fields vs)
  (hn:["enumerate","zip","dict_itemiterator","dict_reverseitemiterator","odict_iterator","itertools.zip_longest","itertools.pairwise"].contains n=false) (hQ:Q () s):wpAny M A (letOwnedTupleGo tg (.ref it) u) Q E s:=by
 unfold letOwnedTupleGo;cases tg <;> first
  | exact gi hQ
  | (cases u <;> first
    | exact gi hQ
    | (refine g9 (wpAny_load ho ?_);rw [hc,hd];show wpAny M A (if(["enumerate","zip","dict_itemiterator","dict_reverseitemiterator","odict_iterator","itertools.zip_longest","itertools.pairwise"].contains n&&vs[0]? == some (rawInt _))=true then _ else _) Q E s;rw [m7 (by intro h;rw [hn,Bool.false_and] at h;cases h)];exact gi hQ))
def Itl(K:PySem.W.Frag)(a:Addr): It:=
 ⟨fun i H=>∃xs x,SqL K H a xs/\xs[i]? = some x,fun i H x H'=>H'=H/\∀xs,SqL K H a xs->xs[i]? = some x,fun i H=>∃xs,SqL K H a xs/\xs.length<=i⟩
def Itt(K:PySem.W.Frag)(a:Addr): It:=
 ⟨fun i H=>∃xs x,SqT K H a xs/\xs[i]? = some x,fun i H x H'=>H'=H/\∀xs,SqT K H a xs->xs[i]? = some x,fun i H=>∃xs,SqT K H a xs/\xs.length<=i⟩
def Itr(lo:Int)(n:Nat): It:=⟨fun i _=>i<n,fun i H x H'=>H'=H/\x=.int (lo+i),fun i _=>n<=i⟩
theorem qcg{P:Program}{w:World}{K:PySem.W.Frag}{tg:Expr}(a it:Addr): Turn P w K tg (Itl K a) [it] it (fun i h=>h.IsListIter it a i) where
 mem:=by simp
 obj:=fun i h st b hb=>by
  have e:b=it:=by simpa using hb
  subst e;obtain⟨o,e,c,d⟩:=st;exact⟨o,e,fun v z=>by rw [d] at z;cases z⟩
 keep:=fun i h h' st k=>st.at fun o e=>k it (by simp) o e
 item:=by
  intro X hP hw hK hc i pins s σ H E I hf st hg;subst hP hw hK;obtain⟨xs,x,hq,hx⟩:=hg;obtain⟨its,rv,p,hz⟩:=I.list hq;obtain⟨u,hu,ru⟩:=rv.get hx;obtain⟨f0,f1,f2,f3,f4,f5⟩:=hf it (by simp);refine wpAny_pyNext_list_item st p.isList (x:=u) (by simpa using hu) fun h' st' sb=>?_;have I1:Inv X pins σ H {s with heap:=h'}:=I.turned (t':=s.toks) (fun b o hb e=>(sb.2 b hb).trans e) f0 f1 f3 f4 f5;obtain⟨o,e,c,d⟩:=id st';exact⟨u,rfl,qbf (s:={s with heap:=h'}) e c d (by decide) ⟨x,H,I1,ru,⟨rfl,fun ys hy=>by rw [I.list_inj hy hq];exact hx⟩,st',fun b hb=>(hf b hb).1⟩⟩
 done:=by
  intro X hP hw hK hc i pins s σ H E I hf st hg;subst hP hw hK;obtain⟨xs,hq,hx⟩:=hg;obtain⟨its,rv,p,hz⟩:=I.list hq;obtain⟨f0,f1,f2,f3,f4,f5⟩:=hf it (by simp);have hl:=rv.length;exact wpAny_pyNext_list_end (I.ok.hd hc) st p.isList (by simp;omega) fun h' eb=>⟨rfl,I.turned (t':=s.toks) (fun b o hb e=>eb b o hb e) f0 f1 f3 f4 f5⟩
 self:=fun _ _ _ _ _ st h=>wpAny_pyIter_listiter st h
theorem qbg{P:Program}{w:World}{K:PySem.W.Frag}{tg:Expr}(a it:Addr): Turn P w K tg (Itt K a) [it] it (fun i h=>h.IsTupleIter it a i) where
 mem:=by simp
 obj:=fun i h st b hb=>by
  have e:b=it:=by simpa using hb
  subst e;obtain⟨o,e,c,d⟩:=st;exact⟨o,e,fun v z=>by rw [d] at z;cases z⟩
 keep:=fun i h h' st k=>st.at fun o e=>k it (by simp) o e
 item:=by
  intro X hP hw hK hc i pins s σ H E I hf st hg;subst hP hw hK;obtain⟨xs,x,hq,hx⟩:=hg;obtain⟨its,rv,p,hz⟩:=I.tuple hq;obtain⟨u,hu,ru⟩:=rv.get hx;obtain⟨f0,f1,f2,f3,f4,f5⟩:=hf it (by simp);refine wpAny_pyNext_tuple_item st (show s.heap.IsTuple a its.toArray from p) (x:=u) (by simpa using hu) fun h' st' sb=>?_;have I1:Inv X pins σ H {s with heap:=h'}:=I.turned (t':=s.toks) (fun b o hb e=>(sb.2 b hb).trans e) f0 f1 f3 f4 f5;obtain⟨o,e,c,d⟩:=id st';exact⟨u,rfl,qbf (s:={s with heap:=h'}) e c d (by decide) ⟨x,H,I1,ru,⟨rfl,fun ys hy=>by rw [I.tuple_inj hy hq];exact hx⟩,st',fun b hb=>(hf b hb).1⟩⟩
 done:=by
  intro X hP hw hK hc i pins s σ H E I hf st hg;subst hP hw hK;obtain⟨xs,hq,hx⟩:=hg;obtain⟨its,rv,p,hz⟩:=I.tuple hq;obtain⟨f0,f1,f2,f3,f4,f5⟩:=hf it (by simp);have hl:=rv.length;exact wpAny_pyNext_tuple_end (I.ok.hd hc) st (show s.heap.IsTuple a its.toArray from p) (by simp;omega) fun h' eb=>⟨rfl,I.turned (t':=s.toks) (fun b o hb e=>eb b o hb e) f0 f1 f3 f4 f5⟩
 self:=fun _ _ _ _ _ st h=>wpAny_pyIter_tupleiter st h
theorem qbh{P:Program}{w:World}{K:PySem.W.Frag}{tg:Expr}(it:Addr)(lo:Int)(n:Nat): Turn P w K tg (Itr lo n) [it] it (fun i h=>IsRangeIter h it (lo+(i:Nat)*1) ((n:Int)-(i:Nat)) 1) where
 mem:=by simp
 obj:=fun i h st b hb=>by
  have e:b=it:=by simpa using hb
  subst e;exact⟨_,st,fun v z=>by
   have z':Data.fields _=Data.cell v:=z;cases z'⟩
 keep:=fun i h h' st k=>k it (by simp) _ st
 item:=by
  intro X hP hw hK hc i pins s σ H E I hf st hg;subst hP hw hK;obtain⟨f0,f1,f2,f3,f4,f5⟩:=hf it (by simp);have W:=Walks.range (prog:=X.prog) (w:=X.w) (I.ok.hd hc) it lo 1 n;refine W.item i s _ _ hg st fun v h' tk hv st' kk=>?_;obtain⟨t,rfl⟩:=hv;have I1:Inv X pins σ H {s with heap:=h',toks:=tk}:=I.turned (fun b o hb e=>kk b o (by simpa using hb) e) f0 f1 f3 f4 f5;refine⟨_,rfl,qbf (s:={s with heap:=h',toks:=tk}) (n:="range_iterator") st' rfl rfl (by decide) ⟨.int (lo+i),H,I1,⟨t,?_⟩,⟨rfl,rfl⟩,st',fun b hb=>(hf b hb).1⟩⟩;rw [Int.mul_one]
 done:=by
  intro X hP hw hK hc i pins s σ H E I hf st hg;subst hP hw hK;obtain⟨f0,f1,f2,f3,f4,f5⟩:=hf it (by simp);exact wpAny_pyNext_range_end (I.ok.hd hc) st (by have:n<=i:=hg;omega) fun h' eb=>⟨rfl,I.turned (t':=s.toks) (fun b o hb e=>eb b o hb e) f0 f1 f3 f4 f5⟩
 self:=fun _ _ _ _ _ st h=>wpAny_pyIter_rangeiter st h
section
variable{X:Cx}{tg:Expr}
theorem qef{pins:List (Addr×Obj)}{σ : St}{H:Hp}{s:Shared}{R:It->Hp->Prop}{E:Value->Shared->Prop}{lo hi:Int}{t u v:Tok}{tk:Nat}(I:Inv X pins σ H s)(h1 : -(2 ^ 62)<=lo)(h2:lo<2 ^ 62)(h3 : -(2 ^ 62)<=hi)(h4:hi<2 ^ 62)
  (q:R (Itr lo (hi-lo).toNat) H):wpAny (model X.prog X.w) X.A (pyIter (.ref s.heap.objs.size)) (PIE X pins σ tg R) E {s with heap:=s.heap.push {cls:=.type "range",data:=.fields #[.int lo t,.int hi u,.int 1 v]},toks:=tk}:=by
 refine wpAny_pyIter_range (IsRange.new ..) (small_one h1 h2 h3 h4) ?_;have I1:Inv X pins σ H {s with heap:=s.heap.push {cls:=.type "range",data:=.fields #[.int lo t,.int hi u,.int 1 v]},toks:=tk}:=I.kept fun b o e=>gh _ e;refine⟨(s.heap.push {cls:=.type "range",data:=.fields #[.int lo t,.int hi u,.int 1 v]}).objs.size,[(s.heap.push {cls:=.type "range",data:=.fields #[.int lo t,.int hi u,.int 1 v]}).objs.size],_,_,H,rfl,
  I1.kept (t':=tk) fun b o e=>gh _ e,qbh _ lo (hi-lo).toNat,?_,fun b hb=>?_,q⟩
 ·have e1:lo+((0:Nat):Int)*1=lo:=by simp
  have e2:(((hi-lo).toNat:Nat):Int)-((0:Nat):Int)=Builtin.Range.rangeSize lo hi 1:=by rw [rangeSize_one];split <;> omega
  show IsRangeIter _ _ (lo+((0:Nat):Int)*1) ((((hi-lo).toNat:Nat):Int)-((0:Nat):Int)) 1;rw [e1,e2];exact m5 _ rfl
 ·have e:b=(s.heap.push {cls:=.type "range",data:=.fields #[.int lo t,.int hi u,.int 1 v]}).objs.size:=by simpa using hb
  subst e;exact I1.fpOk (gy _) (I1.hok.fresh (gy _))
def qk2(ta:TA): TI:=fun σ H R=>ta σ H fun vs H1=>∃j:Int,vs=[.int j] /\ -(2 ^ 62)<=j/\j<2 ^ 62/\R (Itr 0 j.toNat) H1
theorem qch{a:Expr}{ta:TA}{p pos:Pos}(hg:Gl X "range")(hm:X.mg "range" = none)(ha:PA X [a] ta)(hs:starEach [a] X.env=[(false,eval a X.env)]:=by rfl): PI X tg (.Call (.Name "range" p) [a] [] pos) (qk2 ta):=by
 intro pins s σ H R I h;refine Call_ (q33 I hg hm boot_range (t8 (thn (ha pos pins s σ H _ I h) fun us s1 ⟨vs,H1,I1,r1,q1⟩=>?_) hs rfl));obtain⟨j,e,q1,q2,q⟩:=q1;subst e;cases r1 with
 | cons r rr=>
  cases rr;obtain⟨t,rfl⟩:=r;exact call_range_1 (qef I1 (by omega) (by omega) q1 q2 (by simpa using q))
def ql4(wi:TI)(g:TG)(tb:TS): TS:=fun D σ H=>wi σ H fun J H1=>∃W:Nat->Nat->St->Hp->Prop,(∃m,W 0 m σ H1)/\∀i m σ H,W i m σ H ->
 (J.stop i H/\D.nx σ H)\/(J.go i H/\∃N:St->Hp->Prop,(∀ σ' H',N σ' H'->∃m',m'<m/\W (i+1) m' σ' H')/\∀x H',J.yld i H x H'->g x σ H' fun σ2 H2=>tb {D with nx:=N,ct:=N,bk:=D.nx} σ2 H2)
def q21(fp:List Addr)(h:Heap): List (Addr×Obj):=fp.filterMap fun b=>(h.get? b).map fun o=>(b,o)
theorem q0l{fp:List Addr}{h:Heap}{b:Addr}{o:Obj}(hb:b∈fp)(e:h.get? b=some o): (b,o)∈q21 fp h:=List.mem_filterMap.mpr ⟨b,hb,by rw [e];rfl⟩
theorem qci{fp:List Addr}{h:Heap}{p:Addr×Obj}(hp:p∈q21 fp h): p.1∈fp/\h.get? p.1=some p.2:=by
 obtain⟨b,hb,e⟩:=List.mem_filterMap.mp hp;cases q:h.get? b with
 | none=>rw [q] at e;cases e
 | some o=>
  rw [q] at e;have e':(b,o)=p:=mn e;subst e';exact⟨hb,q⟩
theorem Inv.pinned{pins:List (Addr×Obj)}{σ : St}{H:Hp}{s:Shared}{fp:List Addr}(I:Inv X pins σ H s)(hf:∀b∈fp,k7 X pins H b)(ho:∀b∈fp,∃o,s.heap.get? b=some o/\∀v,o.data ≠ .cell v): Inv X (pins++q21 fp s.heap) σ H s:=
 I.pins_of fun p hp=>(uu.mp hp).elim (fun z=>I.pin p (mr _ z)) fun z=>by
  obtain⟨hb,e⟩:=qci z;obtain⟨f0,f1,f2,_⟩:=hf p.1 hb;obtain⟨o,e',d⟩:=ho p.1 hb;rw [e] at e';cases e';exact⟨e,f0,f1,f2,d⟩
theorem Inv.unpinned{pins pl:List (Addr×Obj)}{σ : St}{H:Hp}{s:Shared}(I:Inv X (pins++pl) σ H s): Inv X pins σ H s:=I.pins_of fun p hp=>I.pin p (mr _ (List.mem_append_left _ hp))
theorem qib{iter:Expr}{body:List Stmt}{wi:TI}{g:TG}{tb:TS}{pos:Pos}(hp:PassesOwn (model X.prog X.w) X.A X.env X.xe)(hc:X.calm=true)(hi:PI X tg iter wi)(hg:PG X tg g)(hb:PSs X body tb)
  (hs:∀x,foldedSetIterable iter X.env x=pure x:=by intro _;rfl):PS X (.For tg iter body [] pos) (ql4 wi g tb):=by
 intro pins s σ H D I h;refine wpAny_For (thn (hi pins s σ H _ I h) fun v s1 h1=>thn h1 fun itv s2 h2=>?_) hs;obtain⟨it,fp,tn,J,H2,e,I2,T,st2,f2,W,⟨m0,w0⟩,turn⟩:=h2;subst e
 -- what stays true of the iterator's objects through the loop
 have stat:∀ {H':Hp},(∀b∈fp,H' b=none)->∀b∈fp,k7 X pins H' b:=fun hn b hb=>⟨hn b hb,(f2 b hb).2⟩
 refine codeAny_forLoop_any (fun n s'=>∃i σ' H',Inv X pins σ' H' s'/\tn i s'.heap/\(∀b∈fp,H' b=none)/\W i n σ' H') ?_ m0 ⟨0, σ,H2,I2,st2,fun b hb=>(f2 b hb).1,w0⟩
 rintro n s3 ⟨i, σ3,H3,I3,st3,fr3,w3⟩
 rcases turn i n σ3 H3 w3 with⟨stop,qn⟩|⟨go,N,hN,step⟩
 ·refine tu hp (thn (T.done X rfl rfl rfl hc i pins s3 σ3 H3 X.xe I3 (stat fr3) st3 stop) fun r s4 ⟨hr,I4⟩=>?_)
  subst hr;exact g0v ⟨σ3,H3,I4,qn⟩
 ·refine tu hp (thn (T.item X rfl rfl rfl hc i pins s3 σ3 H3 X.xe I3 (stat fr3) st3 go) fun r s4 ⟨u,hr,h4⟩=>?_)
  subst hr;refine tu hp (thn h4 fun _ s5 ⟨x,H5,I5,r5,y5,st5,fr5⟩=>?_);have I5':=I5.pinned (stat fr5) (T.obj _ _ st5);refine tu hp (thn (hg _ s5 σ3 H5 x u _ I5' r5 (step x H5 y5)) fun _ s6 ⟨σ6,H6,I6,q6⟩=>?_);refine tu hp (thn (hb _ s6 σ6 H6 _ I6 q6) fun f s7 q7=>?_);have again:∀ {σ7:St} {H7:Hp},Inv X (pins++q21 fp s5.heap) σ7 H7 s7->N σ7 H7->∃m,m<n/\∃i σ' H',Inv X pins σ' H' s7/\tn i s7.heap/\(∀b∈fp,H' b=none)/\W i m σ' H':=fun {σ7 H7} I7 n7=>by
   obtain⟨m',hm,w7⟩:=hN σ7 H7 n7;refine⟨m',hm,i+1, σ7,H7,I7.unpinned,T.keep _ _ _ st5 fun b hb o e=>(I7.pin (b,o) (mr _ (mr _ (q0l hb e)))).1,fun b hb=>?_,w7⟩;obtain⟨o,e,d⟩:=T.obj _ _ st5 b hb;exact(I7.pin (b,o) (mr _ (mr _ (q0l hb e)))).2.1
  cases f with
  | next=>obtain⟨σ7,H7,I7,n7⟩:=q7;exact again I7 n7
  | cont=>obtain⟨σ7,H7,I7,n7⟩:=q7;exact again I7 n7
  | brk=>obtain⟨σ7,H7,I7,q7⟩:=q7;exact⟨σ7,H7,I7.unpinned,q7⟩
  | ret v=>obtain⟨x7, σ7,H7,I7,r7,q7⟩:=q7;exact⟨x7, σ7,H7,I7.unpinned,r7,q7⟩
end
abbrev R2:=V->V->Hp->VK->Prop
def OpR(X:Cx)(f:Value->Value->Sem Value)(r:R2): Prop:=
 ∀(pins:List (Addr×Obj)) (s:Shared) (σ : St) (H:Hp) (x y:V) (v u:Value) (Q:VK),Inv X pins σ H s->RelV x v->RelV y u->r x y H Q ->
  wpAny (model X.prog X.w) X.A (f v u) (EP X pins σ Q) X.xe s
def xf(X:Cx)(f:Value)(r:List V->Hp->VK->Prop): Prop:=
 ∀(pins:List (Addr×Obj)) (s:Shared) (σ : St) (H:Hp) (xs:List V) (us:List Value) (Q:VK),Inv X pins σ H s->Vals xs us->r xs H Q ->
  wpAny (model X.prog X.w) X.A (call f us) (EP X pins σ Q) X.xe s
def ql5(X:Cx)(r:V->Hp->(Bool->Hp->Prop)->Prop): Prop:=
 ∀(pins:List (Addr×Obj)) (s:Shared) (σ : St) (H:Hp) (x:V) (v:Value) (Q:Bool->Hp->Prop),Inv X pins σ H s->RelV x v->r x H Q ->
  wpAny (model X.prog X.w) X.A (truthy v) (TP X pins σ Q) X.xe s
def tOp(r:R2)(ta tb:TE): TE:=fun σ H Q=>ta σ H fun x H1=>tb σ H1 fun y H2=>r x y H2 Q
def rI(C:Int->Int->Prop)(g:Int->Int->V): R2:=fun x y H Q=>∃i j,x=.int i/\y=.int j/\C i j/\Q (g i j) H
def rI0(g:Int->Int->V): R2:=fun x y H Q=>∃i j,x=.int i/\y=.int j/\Q (g i j) H
section
variable{X:Cx}{a b c:Expr}{ta tb tc:TE}{pos:Pos}
theorem qeg(ha:PE X a ta)(hb:PE X b tb){pins:List (Addr×Obj)}{s:Shared}{σ : St}{H:Hp}{R:V->V->Hp->Prop}(I:Inv X pins σ H s)
  (h:ta σ H fun x H1=>tb σ H1 fun y H2=>R x y H2) {Q:Value->Shared->Prop} {f:Value->Value->Sem Value}
  (hf:∀v u s2 x y H2,Inv X pins σ H2 s2->RelV x v->RelV y u->R x y H2->wpAny (model X.prog X.w) X.A (f v u) Q X.xe s2) :
  wpAny (model X.prog X.w) X.A (eval a X.env) (fun v s₁=>wpAny (model X.prog X.w) X.A (eval b X.env) (fun u s₂=>wpAny (model X.prog X.w) X.A (f v u) Q X.xe s₂) X.xe s₁) X.xe s:=by
 refine thn (ha pins s σ H _ I h) fun v s1 ⟨x,H1,I1,r1,q1⟩=>?_;refine thn (hb pins s1 σ H1 _ I1 q1) fun u s2 ⟨y,H2,I2,r2,q2⟩=>?_;exact hf v u s2 x y H2 I2 r1 r2 q2
theorem qk3{op:Operator}{r:R2}(ho:OpR X (binaryOp op) r)(ha:PE X a ta)(hb:PE X b tb): PE X (.BinOp a op b pos) (tOp r ta tb):=by
 intro pins s σ H Q I h;exact wpAny_BinOp (qeg ha hb I h fun v u s2 x y H2 I2 rx ry q=>ho pins s2 σ H2 x y v u Q I2 rx ry q)
theorem opI{f:Value->Value->Sem Value}{C:Int->Int->Prop}{g:Int->Int->Int}
  (rule:∀(i j:Int) (t u:Tok) (s:Shared) (Q:Value->Shared->Prop) (E:Value->Shared->Prop),C i j->Q (.int (g i j) s.toks) {s with toks:=s.toks+1}->wpAny (model X.prog X.w) X.A (f (.int i t) (.int j u)) Q E s) :
  OpR X f (rI C fun i j=>.int (g i j)):=by
 intro pins s σ H x y v u Q I rx ry h;obtain⟨i,j,rfl,rfl,hc,q⟩:=h;obtain⟨t,rfl⟩:=rx;obtain⟨t',rfl⟩:=ry;exact rule i j t t' s _ _ hc ⟨.int (g i j),H,I.tok _,⟨_,rfl⟩,q⟩
theorem qic{f:Value->Value->Sem Value}{g:Int->Int->Int}
  (rule:∀(i j:Int) (t u:Tok) (s:Shared) (Q:Value->Shared->Prop) (E:Value->Shared->Prop),Q (.int (g i j) s.toks) {s with toks:=s.toks+1}->wpAny (model X.prog X.w) X.A (f (.int i t) (.int j u)) Q E s) :
  OpR X f (rI0 fun i j=>.int (g i j)):=by
 intro pins s σ H x y v u Q I rx ry h;obtain⟨i,j,rfl,rfl,q⟩:=h;obtain⟨t,rfl⟩:=rx;obtain⟨t',rfl⟩:=ry;exact rule i j t t' s _ _ ⟨.int (g i j),H,I.tok _,⟨_,rfl⟩,q⟩
theorem qbi{f:Value->Value->Sem Value}{g:Int->Int->Bool}
  (rule:∀(i j:Int) (t u:Tok) (s:Shared) (Q:Value->Shared->Prop) (E:Value->Shared->Prop),Q (.bool (g i j)) s->wpAny (model X.prog X.w) X.A (f (.int i t) (.int j u)) Q E s) :
  OpR X f (rI0 fun i j=>.bl (g i j)):=by
 intro pins s σ H x y v u Q I rx ry h;obtain⟨i,j,rfl,rfl,q⟩:=h;obtain⟨t,rfl⟩:=rx;obtain⟨t',rfl⟩:=ry;exact rule i j t t' s _ _ ⟨.bl (g i j),H,I,rfl,q⟩
def ql6(i j:Int): Prop:=0<j/\j<1073741824
def ql7(i j:Int): Prop:=0<=j/\j<=1000000/\i.natAbs<2 ^ 64
def CMul(i j:Int): Prop:=(-(2 ^ 64)<i/\i<2 ^ 64)\/(-(2 ^ 64)<j/\j<2 ^ 64)
theorem CMul.ok{i j:Int}(h:CMul i j): IntMulOk i j:=by
 rcases h with⟨h1,h2⟩|⟨h1,h2⟩
 ·exact .of_left (intBits_le_64 h1 h2)
 ·exact .of_right (intBits_le_64 h1 h2)
theorem qid:OpR X (binaryOp .Add) (rI0 fun i j=>.int (i+j)):=qic fun _ _ _ _ _ _ _ q=>add_int q
theorem qie:OpR X (binaryOp .Sub) (rI0 fun i j=>.int (i-j)):=qic fun _ _ _ _ _ _ _ q=>sub_int q
theorem qif:OpR X (binaryOp .Mult) (rI CMul fun i j=>.int (i*j)):=opI fun _ _ _ _ _ _ _ hc q=>mul_int q hc.ok
theorem qgq:OpR X (binaryOp .FloorDiv) (rI ql6 fun i j=>.int (i / j)):=opI fun i j _ _ _ _ _ hc q=>by
 have h1:(0:Int)<j:=hc.1;have h2:j<1073741824:=hc.2;exact floordiv_int (by omega) (by rw [g0e i (by omega)];exact q) (.inl (PyProof.noPylong_small (by omega)))
theorem qig:OpR X (binaryOp .Mod) (rI (fun _ j=>0<j) fun i j=>.int (i%j)):=opI fun i j _ _ _ _ _ hc q=>by
 have h1:(0:Int)<j:=hc;exact mod_int' (by omega) (by rw [Int.fmod_eq_emod_of_nonneg i (by omega)];exact q)
theorem qih:OpR X (binaryOp .Pow) (rI ql7 fun i j=>.int (i ^ j.toNat)):=opI fun _ _ _ _ _ _ _ hc q=>pow_int_small hc.1 hc.2.1 hc.2.2 q
end
def q69:V->V->Bool
 | .non,.non=>true | .non,.int _=>true | .int _,.non=>true | .non,.bl _=>true | .bl _,.non=>true | .non,.str _=>true | .str _,.non=>true
 | .int _,.int _=>true | .bl _,.bl _=>true | .str _,.str _=>true | .byt _,.byt _=>true
 | .int _,.str _=>true | .str _,.int _=>true | .bl _,.str _=>true | .str _,.bl _=>true
 | _,_=>false
def rEq:R2:=fun x y H Q=>q69 x y=true/\Q (.bl (decide (x=y))) H
def rNe:R2:=fun x y H Q=>q69 x y=true/\Q (.bl (!decide (x=y))) H
theorem qam{i j:Int}: decide (V.int i=V.int j)=(i==j):=by
 rw [tw];simp
theorem qcj{i j:Bool}: decide (V.bl i=V.bl j)=(i==j):=by
 rw [tw];simp
theorem qan{i j:Str}: decide (V.str i=V.str j)=(i==j):=by
 rw [tw];simp
theorem qao{i j:Array UInt8}: decide (V.byt i=V.byt j)=(i.toList==j.toList):=by
 rw [tw];cases i;cases j;simp
section
variable{X:Cx}{a b c:Expr}{ta tb tc:TE}{pos:Pos}
theorem z5{pins:List (Addr×Obj)}{σ : St}{H:Hp}{s:Shared}{Q:VK}{k k':Bool}(I:Inv X pins σ H s)(q:Q (.bl k) H)(e:k=k'): EP X pins σ Q (.bool k') s:=by
 subst e;exact⟨.bl k,H,I,rfl,q⟩
theorem qk4:OpR X (compareOp .Eq) rEq:=by
 intro pins s σ H x y v u Q I rx ry h;obtain⟨hs,q⟩:=h;cases x with
 | non=>
  cases rx;cases y with
  | non=>cases ry;exact PySem.EqNone.eq_none_none (z5 I q (by simp))
  | bl j=>cases ry;exact PySem.EqNone.eq_none_bool (z5 I q (by simp))
  | int j=>obtain⟨t',rfl⟩:=ry;exact PySem.EqNone.eq_none_int (z5 I q (by simp))
  | str j=>obtain⟨t',rfl⟩:=ry;exact PySem.EqNone.eq_none_str (z5 I q (by simp))
  | _=>exact absurd (show false=true from hs) gq
 | bl i=>
  cases rx;cases y with
  | non=>cases ry;exact PySem.EqNone.eq_bool_none (z5 I q (by simp))
  | bl j=>cases ry;exact eq_bool (z5 I q qcj)
  | str j=>obtain⟨t',rfl⟩:=ry;exact PySem.EqMixed.eq_bool_str (z5 I q (by simp))
  | _=>exact absurd (show false=true from hs) gq
 | int i=>
  obtain⟨t,rfl⟩:=rx;cases y with
  | non=>cases ry;exact PySem.EqNone.eq_int_none (z5 I q (by simp))
  | int j=>obtain⟨t',rfl⟩:=ry;exact eq_int (z5 I q qam)
  | str j=>obtain⟨t',rfl⟩:=ry;exact PySem.EqMixed.eq_int_str (z5 I q (by simp))
  | _=>exact absurd (show false=true from hs) gq
 | str i=>
  obtain⟨t,rfl⟩:=rx;cases y with
  | non=>cases ry;exact PySem.EqNone.eq_str_none (z5 I q (by simp))
  | bl j=>cases ry;exact PySem.EqMixed.eq_str_bool (z5 I q (by simp))
  | int j=>obtain⟨t',rfl⟩:=ry;exact PySem.EqMixed.eq_str_int (z5 I q (by simp))
  | str j=>obtain⟨t',rfl⟩:=ry;exact eq_str (z5 I q qan)
  | _=>exact absurd (show false=true from hs) gq
 | byt i=>
  obtain⟨t,rfl⟩:=rx;cases y with
  | byt j=>obtain⟨t',rfl⟩:=ry;exact PySem.W.eq_bytes (z5 I q qao)
  | _=>exact absurd (show false=true from hs) gq
 | _=>cases y <;> exact absurd (show false=true from hs) gq
theorem qk5:OpR X (compareOp .NotEq) rNe:=by
 intro pins s σ H x y v u Q I rx ry h;obtain⟨hs,q⟩:=h;cases x with
 | non=>
  cases rx;cases y with
  | non=>cases ry;exact PySem.EqNone.ne_none_none (z5 I q (by simp))
  | bl j=>cases ry;exact PySem.EqNone.ne_none_bool (z5 I q (by simp))
  | int j=>obtain⟨t',rfl⟩:=ry;exact PySem.EqNone.ne_none_int (z5 I q (by simp))
  | str j=>obtain⟨t',rfl⟩:=ry;exact PySem.EqNone.ne_none_str (z5 I q (by simp))
  | _=>exact absurd (show false=true from hs) gq
 | bl i=>
  cases rx;cases y with
  | non=>cases ry;exact PySem.EqNone.ne_bool_none (z5 I q (by simp))
  | bl j=>cases ry;exact ne_bool (z5 I q (pb not qcj))
  | str j=>obtain⟨t',rfl⟩:=ry;exact PySem.EqMixed.ne_bool_str (z5 I q (by simp))
  | _=>exact absurd (show false=true from hs) gq
 | int i=>
  obtain⟨t,rfl⟩:=rx;cases y with
  | non=>cases ry;exact PySem.EqNone.ne_int_none (z5 I q (by simp))
  | int j=>obtain⟨t',rfl⟩:=ry;exact ne_int (z5 I q (pb not qam))
  | str j=>obtain⟨t',rfl⟩:=ry;exact PySem.EqMixed.ne_int_str (z5 I q (by simp))
  | _=>exact absurd (show false=true from hs) gq
 | str i=>
  obtain⟨t,rfl⟩:=rx;cases y with
  | non=>cases ry;exact PySem.EqNone.ne_str_none (z5 I q (by simp))
  | bl j=>cases ry;exact PySem.EqMixed.ne_str_bool (z5 I q (by simp))
  | int j=>obtain⟨t',rfl⟩:=ry;exact PySem.EqMixed.ne_str_int (z5 I q (by simp))
  | str j=>obtain⟨t',rfl⟩:=ry;exact ne_str (z5 I q (pb not qan))
  | _=>exact absurd (show false=true from hs) gq
 | byt i=>
  obtain⟨t,rfl⟩:=rx;cases y with
  | byt j=>obtain⟨t',rfl⟩:=ry;exact PySem.W.ne_bytes (z5 I q (pb not qao))
  | _=>exact absurd (show false=true from hs) gq
 | _=>cases y <;> exact absurd (show false=true from hs) gq
theorem qk6:OpR X (compareOp .Lt) (rI0 fun i j=>.bl (decide (i<j))):=qbi fun _ _ _ _ _ _ _ q=>lt_int q
theorem qk7:OpR X (compareOp .LtE) (rI0 fun i j=>.bl (decide (i<=j))):=qbi fun _ _ _ _ _ _ _ q=>le_int q
theorem qk8:OpR X (compareOp .Gt) (rI0 fun i j=>.bl (decide (j<i))):=qbi fun _ _ _ _ _ _ _ q=>gt_int q
theorem qk9:OpR X (compareOp .GtE) (rI0 fun i j=>.bl (decide (j<=i))):=qbi fun _ _ _ _ _ _ _ q=>ge_int q
theorem qgr{op:CmpOp}{r:R2}(ho:OpR X (compareOp op) r)(ha:PE X a ta)(hb:PE X b tb)(hm:behindInMarks op b=false): PE X (.Compare a [op] [b] pos) (tOp r ta tb):=by
 intro pins s σ H Q I h;exact wpAny_Compare1 (qeg ha hb I h fun v u s2 x y H2 I2 rx ry q=>ho pins s2 σ H2 x y v u Q I2 rx ry q) hm
def qka(t:TE): TT:=fun σ H Q=>t σ H fun x H'=>∃k,x=.bl k/\Q k H'
theorem qgs{op:CmpOp}{r:R2}(ho:OpR X (compareOp op) r)(ha:PE X a ta)(hb:PE X b tb)(hm:behindInMarks op b=false): PT X (.Compare a [op] [b] pos) (qka (tOp r ta tb)):=by
 intro pins s σ H Q I h;refine wpAny_isTrue_Compare1 (thn (ha pins s σ H _ I h) fun v s1 ⟨x,H1,I1,r1,q1⟩=>thn (hb pins s1 σ H1 _ I1 q1) fun u s2 ⟨y,H2,I2,r2,q2⟩=>
  thn (ho pins s2 σ H2 x y v u _ I2 r1 r2 q2) fun c s3 ⟨z,H3,I3,r3,k,e,q3⟩=>?_) hm
 subst e;cases r3;exact p9 ⟨H3,I3,q3⟩
def qck(r r':R2)(ta tb tc:TE): TE:=fun σ H Q=>ta σ H fun x H1=>tb σ H1 fun y H2=>r x y H2 fun z H3=>∃k,z=.bl k /\
 (if k=true then tc σ H3 fun w' H4=>r' y w' H4 Q else Q (.bl false) H3)
theorem qeh{op op':CmpOp}{r r':R2}(ho:OpR X (compareOp op) r)(ho':OpR X (compareOp op') r')(ha:PE X a ta)(hb:PE X b tb)(hc:PE X c tc)
  (hm:lastMarks [op,op'] [b,c]=false:=by with_unfolding_all rfl):PE X (.Compare a [op,op'] [b,c] pos) (qck r r' ta tb tc):=by
 intro pins s σ H Q I h;refine Compare_chain (thn (ha pins s σ H _ I h) fun v s1 ⟨x,H1,I1,r1,q1⟩=>chain_link (thn (hb pins s1 σ H1 _ I1 q1) fun u s2 ⟨y,H2,I2,r2,q2⟩=>
  thn (ho pins s2 σ H2 x y v u _ I2 r1 r2 q2) fun d s3 ⟨z,H3,I3,r3,k,e,q3⟩=>?_)) hm
 subst e;cases r3;refine p9 ?_;cases k with
 | false=>exact ite_ff ⟨.bl false,H3,I3,rfl,q3⟩
 | true=>exact ite_tt (chain_last (thn (hc pins s3 σ H3 _ I3 q3) fun w' s4 ⟨z',H4,I4,r4,q4⟩=>ho' pins s4 σ H4 y z' u w' Q I4 r2 r4 q4))
def qei(K:PySem.W.Frag)(x:V)(H:Hp)(k:Bool): Prop:=
 match x with
 | .non=>k=false
 | .bl b=>k=b
 | .int i=>k=(i != 0)
 | .str y=>y.length<=sizeLine/\k=((y.length:Int) != 0)
 | .byt y=>y.size<=sizeLine/\k=((y.size:Int) != 0)
 | .ref p=>(∃xs,SqL K H p xs/\k = !xs.isEmpty)\/(∃xs,SqT K H p xs/\k = !xs.isEmpty)\/∃kvs,H p=some (.dK kvs)/\k = !kvs.isEmpty
 | _=>False
theorem qbj{κ : Type}{kvs:List (κ × V)}{vs:List (κ × Value)}(r:KV kvs vs): (!vs.isEmpty) = !kvs.isEmpty:=by
 cases r <;> rfl
theorem q5d{xs:List V}{its:List Value}(r:Vals xs its): (!its.toArray.isEmpty) = !xs.isEmpty:=by
 cases r <;> simp
theorem q34:(sizeLine:Nat)<2 ^ 63:=by rw [g0a];decide
theorem qii:ql5 X (fun x H Q=>∃k,qei X.K x H k/\Q k H):=by
 intro pins s σ H x v Q I rx h;obtain⟨k,e,q⟩:=h;have hl:=q34;have hs:sizeLine=16777216:=g0a;cases x with
 | non=>
  cases rx;have e':k=false:=e;subst e';exact truthy_none ⟨H,I,q⟩
 | bl b=>
  cases rx;have e':k=b:=e;subst e';exact p9 ⟨H,I,q⟩
 | int i=>
  obtain⟨t,rfl⟩:=rx;have e':k=(i != 0):=e;subst e';exact PySem.P.truthy_int ⟨H,I,q⟩
 | str y=>
  obtain⟨t,rfl⟩:=rx;obtain⟨hy,e'⟩:y.length<=sizeLine/\k=((y.length:Int) != 0):=e;subst e';exact PySem.P.truthy_str (by omega) ⟨H,I.tok _,q⟩
 | byt y=>
  obtain⟨t,rfl⟩:=rx;obtain⟨hy,e'⟩:y.size<=sizeLine/\k=((y.size:Int) != 0):=e;subst e';exact PySem.W.truthy_bytes (by omega) ⟨H,I.tok _,q⟩
 | ref p=>
  cases rx;have e':(∃xs,SqL X.K H p xs/\k = !xs.isEmpty)\/(∃xs,SqT X.K H p xs/\k = !xs.isEmpty)\/∃kvs,H p=some (.dK kvs)/\k = !kvs.isEmpty:=e;rcases e' with⟨xs,hx,e'⟩|⟨xs,hx,e'⟩|⟨kvs,hx,e'⟩
  ·subst e'
   obtain⟨its,r,pl,hz⟩:=I.list hx;have hlen:=r.length;exact wpAny_truthy_list pl.isList (by simp only [gp];omega) ⟨H,I.tok _,by rw [q5d r];exact q⟩
  ·subst e'
   obtain⟨its,r,pl,hz⟩:=I.tuple hx;have hlen:=r.length;exact truthy_tuple pl (by simp only [gp];omega) ⟨H,I.tok _,by rw [q5d r];exact q⟩
  ·subst e'
   obtain⟨hz,hS,vs,r,m⟩:kvs.length<=sizeLine/\(p==sysModules)=false/\∃vs,KV kvs vs/\s.heap.DictOf (mixKind X.prog X.w) p vs:=I.hok p _ hx;have hlen:kvs.length=vs.length:=Paired.length r;exact wpAny_truthy_dict hS m (by omega) ⟨H,I.tok _,by rw [qbj r];exact q⟩
 | _=>exact(show False from e).elim
theorem q8h(ha:PE X a ta)(he:∀whole,isTrue a X.env whole=(do let v <- whole;standAt a.pos;holding [v] (truthy v))):
  PT X a (fun σ H Q=>ta σ H fun x H'=>∃k,qei X.K x H' k/\Q k H'):=by
 intro pins s σ H Q I h;exact isTrue_plain (thn (ha pins s σ H _ I h) fun v s1 ⟨x,H1,I1,r1,q1⟩=>qii pins s1 σ H1 x v Q I1 r1 q1) (he _)
theorem vals1{x:V}{us:List Value}(r:Vals [x] us): ∃u,us=[u]/\RelV x u:=by
 cases r with
 | cons r1 r2=>cases r2;exact⟨_,rfl,r1⟩
theorem vals2{x y:V}{us:List Value}(r:Vals [x,y] us): ∃u w',us=[u,w']/\RelV x u/\RelV y w':=by
 cases r with
 | cons r1 r2=>
  cases r2 with
  | cons r3 r4=>cases r4;exact⟨_,_,rfl,r1,r3⟩
theorem qcl(hc:X.calm=true): xf X (.builtin "max") (fun xs H Q=>∃i j,xs=[.int i,.int j]/\Q (.int (if j>i then j else i)) H):=by
 intro pins s σ H xs us Q I r h;obtain⟨i,j,rfl,q⟩:=h;obtain⟨u,w',rfl,⟨t,rfl⟩,⟨t',rfl⟩⟩:=vals2 r;refine max_two_ints (I.ok.hd hc) fun h' tk k=>⟨_,H,I.kept k,?_,q⟩
 by_cases hj:j>i
 ·rw [gw hj,gw hj];exact⟨_,rfl⟩
 ·rw [m7 hj,m7 hj];exact⟨_,rfl⟩
theorem qcm(hc:X.calm=true): xf X (.builtin "min") (fun xs H Q=>∃i j,xs=[.int i,.int j]/\Q (.int (if j<i then j else i)) H):=by
 intro pins s σ H xs us Q I r h;obtain⟨i,j,rfl,q⟩:=h;obtain⟨u,w',rfl,⟨t,rfl⟩,⟨t',rfl⟩⟩:=vals2 r;refine min_two_ints (I.ok.hd hc) fun h' tk k=>⟨_,H,I.kept k,?_,q⟩
 by_cases hj:j<i
 ·rw [gw hj,gw hj];exact⟨_,rfl⟩
 ·rw [m7 hj,m7 hj];exact⟨_,rfl⟩
def ql8(K:PySem.W.Frag)(x:V)(H:Hp)(n:Nat): Prop:=
 match x with
 | .str y=>y.length<=sizeLine/\n=y.length
 | .byt y=>y.size<=sizeLine/\n=y.size
 | .ref p=>(∃xs,SqL K H p xs/\n=xs.length)\/∃xs,SqT K H p xs/\n=xs.length
 | _=>False
theorem qej:xf X (.builtin "len") (fun xs H Q=>∃x n,xs=[x]/\ql8 X.K x H n/\Q (.int n) H):=by
 intro pins s σ H xs us Q I r h;obtain⟨x,n,rfl,e,q⟩:=h;obtain⟨u,rfl,rx⟩:=vals1 r;have hl:=q34;have hs:sizeLine=16777216:=g0a;cases x with
 | str y=>
  obtain⟨t,rfl⟩:=rx;obtain⟨hy,e'⟩:y.length<=sizeLine/\n=y.length:=e;subst e';exact len_str (by omega) ⟨.int _,H,I.tok _,⟨_,rfl⟩,q⟩
 | byt y=>
  obtain⟨t,rfl⟩:=rx;obtain⟨hy,e'⟩:y.size<=sizeLine/\n=y.size:=e;subst e';exact PySem.W.len_bytes (by omega) ⟨.int _,H,I.tok _,⟨_,rfl⟩,q⟩
 | ref p=>
  cases rx;have e':(∃xs,SqL X.K H p xs/\n=xs.length)\/∃xs,SqT X.K H p xs/\n=xs.length:=e;rcases e' with⟨xs,hx,e'⟩|⟨xs,hx,e'⟩
  ·subst e'
   obtain⟨its,r',pl,hz⟩:=I.list hx;have hlen:=r'.length;exact Calls.call_len_list pl.isList (by simp only [gp];omega) ⟨.int xs.length,H,I.tok _,⟨_,by simp only [gp];rw [hlen]⟩,q⟩
  ·subst e'
   obtain⟨its,r',pl,hz⟩:=I.tuple hx;have hlen:=r'.length;exact len_tuple pl (by simp only [gp];omega) ⟨.int xs.length,H,I.tok _,⟨_,by simp only [gp];rw [hlen]⟩,q⟩
 | _=>exact(show False from e).elim
end
structure ObjM(h:Heap)(x dx C:Addr)(mA:Str->Option Value): Prop where
 obj:h.get? x=some (PySem.W.instObj C dx)
 ns:h.Ns1 dx mA
 ne:dx≠x
theorem qcn{h:Heap}{dx:Addr}{mA:Str->Option Value}(n:h.Ns1 dx mA): ∃od,h.get? dx=some od/\∀name,PySem.W.lookIn name od=some (mA name):=by
 obtain⟨o,es,ep,ho,hd,hk,_,hm⟩:=n;refine⟨o,ho,fun name=>?_⟩;have e:=hm name;unfold nsFind findBy at e;rw [<- Array.find?_toList] at e;unfold PySem.W.lookIn;rw [hd];dsimp only
 split
 ·rename_i y q
  rw [q] at e;exact pb some e
 ·rename_i q
  rw [q] at e;have a:es.toList.any (·.refKey)=false:=by
   rw [List.any_eq_false];intro y hy;obtain⟨z,t,hkey⟩:=hk y (Array.mem_toList_iff.mp hy);simp [DictEntry.refKey,hkey]
  have a':¬es.toList.any (·.refKey)=true:=by rw [a];exact gq
  rw [m7 a'];exact pb some e
theorem ObjM.look{h:Heap}{x dx C:Addr}{mA:Str->Option Value}(I:ObjM h x dx C mA): ∃od,PySem.W.InstAt h x (PySem.W.instObj C dx) C (some od)/\∀name,PySem.W.lookIn name od=some (mA name):=
 let⟨od,ho,hl⟩:=qcn I.ns
 ⟨od,⟨I.obj,rfl,rfl,ho⟩,hl⟩
section
variable{prog:Program}{w:World}{A:Around}{E:Value->Shared->Prop}{s:Shared}{K:PySem.W.Frag}{x dx C f:Addr}{mA:Str->Option Value}{name:Str}{v:Value}
theorem get_map{expr:Bool}{Q:Value->Shared->Prop}(X:K.In s.heap)(I:ObjM s.heap x dx C mA)(hg:PySem.W.plainGet K C name=true)(hh:PySem.W.hasDictIn K C=true)
  (ha:PySem.W.findIn K (.ref C) name=some none) (hv:mA name=some v) (hv':PySem.W.handedIn v=true) (h:Q v {s with toks:=s.toks+1}) :
  wpAny (model prog w) A (getAttr (.ref x) name expr) Q E s:=by
 obtain⟨od,J,hl⟩:=I.look;exact PySem.W.get_value X J (g05 hg).1 (PySem.W.findObj_own hh ha rfl (by rw [hl,hv])) hv' h
theorem qek{pl:Sem Bool}{Q:Value×List Value->Shared->Prop}(X:K.In s.heap)(I:ObjM s.heap x dx C mA)(hg:PySem.W.plainGet K C name=true)
  (hf:PySem.W.findIn K (.ref C) name=some (some (.ref f))) (ht:PySem.W.isFn K (.ref f)=true) (hv:mA name=none) (h:Q (.ref f,[.ref x]) s) :
  wpAny (model prog w) A (getMethod (.ref x) name pl) Q E s:=by
 obtain⟨od,J,hl⟩:=I.look;exact PySem.W.method_fn X J (g05 hg).1 (g05 hg).2 hf (pk.mp ht) (by show(PySem.W.lookIn name od).map (·.isSome)=some false;rw [hl,hv];rfl) h
theorem qgt{ns:List Str}{Q:Unit->Shared->Prop}(X:K.In s.heap)(I:ObjM s.heap x dx C mA)
  (hs:PySem.W.findIn K (.ref C) "__setattr__" = some (some (.builtin "object.__setattr__"))) (hp:PySem.W.plainOver K C=true) (ht:PySem.W.takerIn K C name=some none) (hh:PySem.W.hasDictIn K C=true)
  (hw:PySem.Within mA ns) (hsz:ns.length<=sizeLine)
  (h:∀h',ObjM h' x dx C (fun y=>if y=name then some v else mA y)->Heap.SameBut dx s.heap h'->Q () {s with heap:=h',toks:=s.toks+2}) :
  wpAny (model prog w) A (setAttr (.ref x) name v) Q E s:=by
 obtain⟨od,J,hl⟩:=I.look;refine PySem.W.set_plain X J hs (PySem.W.osa_open (s:={s with toks:=s.toks+1}) (r:=none) X J hp ht fun b=>?_);obtain⟨cd,hc,hd'⟩:=PySem.W.any_some hh;have hx:s.heap.get? x=some ⟨.ref C,some dx,.plain, #[]⟩:=I.obj;refine g9 (gi (g9 (g9 (wpAny_loadPart hx (g9 (PySem.W.Looks.here (s:={s with toks:=s.toks+1}) (PySem.W.looks_clsIn X hc) ?_))))));rw [hd'];refine gi (a:=some dx) (g9 (gi (g9 ?_)));refine wpAny_nsSet1 (s:={s with toks:=s.toks+1}) I.ns fun h' hn2 hs2=>?_;obtain⟨oD,esD,epD,hoD,hdD,hcD⟩:=hn2.count (PySem.Within.cons name v hw);refine g9 (wpAny_lookBehind hoD (by rw [hdD];exact pastItsLine_dict (mj hcD (by rw [mf];omega))) ?_);exact gi (h _ ⟨(hs2.2 _ (m6 I.ne)).trans I.obj,hn2,I.ne⟩ hs2)
theorem qel{R:Result->Shared->Prop}{vs:List Value}{kw:List (Str×Value)}(X:K.In s.heap)(hm:PySem.W.makesIn K C=true)
  (hi:PySem.W.findIn K (.ref C) "__init__" = some (some (.ref f))) (hf:PySem.W.typeIn K (.ref f)=some (.type "function"))
  (h:codeAny (model prog w) (A.under (.builtin "type.__call__" ⟨.ref C :: vs,kw⟩)) (.call (.ref f) ⟨.ref (s.heap.objs.size+1) :: vs,kw⟩) (PySem.W.InitBack (s.heap.objs.size+1) R)
   {s with heap:=(s.heap.push PySem.W.emptyDict).push (PySem.W.instObj C s.heap.objs.size)}) :
  codeAny (model prog w) A (.call (.ref C) ⟨vs,kw⟩) R s:=by
 obtain⟨hh,g,d,t,os⟩:=s;exact PySem.W.make_core (PySem.W.makes_of X hm) (PySem.W.looks_findIn X hi) (fun self=>PySem.W.bind_fn X self hf) (.inl rfl) h
end
def vx(f:Str)(v:V): List (Str×V)->List (Str×V)
 | []=>[(f,v)]
 | (g,x) :: r=>if g=f then(g,v) :: r else(g,x) :: vx f v r
theorem q4o(f g:Str)(v:V): ∀fs:List (Str×V),(vx f v fs).lookup g=if g=f then some v else fs.lookup g
 | []=>by
  show List.lookup g [(f,v)]=_
  by_cases h:g=f
  ·have hb:(g==f)=true:=pk.mpr h
   simp only [List.lookup,hb,gw h]
  ·have hb:(g==f)=false:=tf.mpr h
   simp only [List.lookup,hb,m7 h]
 | (k,x) :: r=>by
  have ih:=q4o f g v r;rw [show vx f v ((k,x) :: r)=(if k=f then(k,v) :: r else(k,x) :: vx f v r) from rfl]
  by_cases hk:k=f
  ·rw [gw hk]
   by_cases h:g=k
   ·have hb:(g==k)=true:=pk.mpr h
    simp only [List.lookup,hb,gw (h.trans hk)]
   ·have hb:(g==k)=false:=tf.mpr h
    simp only [List.lookup,hb,m7 (fun e:g=f=>h (e.trans hk.symm))]
  ·rw [m7 hk]
   by_cases h:g=k
   ·have hb:(g==k)=true:=pk.mpr h
    simp only [List.lookup,hb,m7 (fun e:g=f=>hk (h.symm.trans e))]
   ·have hb:(g==k)=false:=tf.mpr h
    simp only [List.lookup,hb];exact ih
theorem q35(f:Str)(v:V): ∀fs:List (Str×V),f∈(vx f v fs).map (·.1)/\∀g,g∈fs.map (·.1)->g∈(vx f v fs).map (·.1)
 | []=>⟨by simp [vx],fun g h=>by simp at h⟩
 | (k,x) :: r=>by
  obtain⟨i1,i2⟩:=q35 f v r;rw [show vx f v ((k,x) :: r)=(if k=f then(k,v) :: r else(k,x) :: vx f v r) from rfl]
  by_cases hk:k=f
  ·rw [gw hk]
   subst hk;exact⟨by simp,fun g h=>by simpa using h⟩
  ·rw [m7 hk]
   refine⟨?_,fun g h=>?_⟩
   ·rw [ml]
    exact gz _ i1
   ·rw [ml] at h ⊢
    rcases mv.mp h with e|e
    ·exact mv.mpr (.inl e)
    ·exact gz _ (i2 g e)
theorem q4p(f:Str)(v:V): ∀fs:List (Str×V),(vx f v fs).length<=fs.length+1
 | []=>by simp [vx]
 | (k,x) :: r=>by
  have ih:=q4p f v r;rw [show vx f v ((k,x) :: r)=(if k=f then(k,v) :: r else(k,x) :: vx f v r) from rfl]
  by_cases hk:k=f
  ·rw [gw hk,mf,mf];omega
  ·rw [m7 hk,mf,mf];omega
theorem RelO.some_of{v:V}{o:Option Value}(r:RelO (some v) o): ∃u,o=some u/\RelV v u:=by
 cases o with
 | none=>exact(show False from r).elim
 | some u=>exact⟨u,rfl,r⟩
theorem RelO.none_of{o:Option Value}(r:RelO none o): o=none:=by
 cases o with
 | none=>rfl
 | some u=>exact(show False from r).elim
theorem qco{v:V}{u:Value}(r:RelV v u): PySem.W.handedIn u=true:=by
 cases v with
 | non=>cases(show u=Value.none from r);rfl
 | bl b=>cases(show u=Value.bool b from r);rfl
 | int i=>obtain⟨t,e⟩:=(show ∃t,u=Value.int i t from r);cases e;rfl
 | str x=>obtain⟨t,e⟩:=(show ∃t,u=Value.str x t from r);cases e;rfl
 | byt b=>obtain⟨t,e⟩:=(show ∃t,u=Value.bytes b t from r);cases e;rfl
 | flt b=>obtain⟨t,e⟩:=(show ∃t,u=Value.float b t from r);cases e;rfl
 | ref a=>cases(show u=Value.ref a from r);rfl
 | ty n=>cases(show u=Value.type n from r);rfl
section
variable{P:Program}{w:World}{H H':Hp}{h h':Heap}{a C dx:Addr}{fs fs':List (Str×V)}
theorem q3z(hok:HOk P w H h)(e:H a=some (.ins C dx fs)): ∃mA,ObjM h a dx C mA/\(∀f,RelO (fs.lookup f) (mA f))/\PySem.Within mA (fs.map (·.1))/\fs.length<=1000/\H dx=some (.own a):=by
 obtain⟨d,z,ne,ob,mA,n,r,q⟩:=(show ObjOk P w H h a (.ins C dx fs) from hok a _ e)
 exact⟨mA,⟨ob,n,ne⟩,r,q,z,d⟩
end
structure Cls(K:PySem.W.Frag)(C:Addr): Prop where
 pg:PySem.W.plainGet K C Str.empty=true
 hd:PySem.W.hasDictIn K C=true
 po:PySem.W.plainOver K C=true
 sa:PySem.W.findIn K (.ref C) "__setattr__" = some (some (.builtin "object.__setattr__"))
theorem Cls.get{K:PySem.W.Frag}{C:Addr}(c:Cls K C)(f:Str): PySem.W.plainGet K C f=true:=c.pg
def NoAttr(K:PySem.W.Frag)(C:Addr)(f:Str): Prop:=PySem.W.findIn K (.ref C) f=some none
theorem NoAttr.taker{K:PySem.W.Frag}{C:Addr}{f:Str}(n:NoAttr K C f): PySem.W.takerIn K C f=some none:=by
 unfold PySem.W.takerIn;rw [show PySem.W.findIn K (.ref C) f=some none from n]
 rfl
structure Meth(K:PySem.W.Frag)(C:Addr)(m:Str)(f:Addr): Prop where
 at_:PySem.W.findIn K (.ref C) m=some (some (.ref f))
 fn:PySem.W.isFn K (.ref f)=true
 kp:PySem.W.keepIn K (.ref f)=true
section
variable{X:Cx}{pins:List (Addr×Obj)}{σ : St}{H:Hp}{s:Shared}{a C dx:Addr}{fs:List (Str×V)}{f:Str}{v:V}{A:Around}{E:Value->Shared->Prop}
theorem qbk{b:Bool}{Q:Value->Shared->Prop}(I:Inv X pins σ H s)(e:H a=some (.ins C dx fs))(c:Cls X.K C)(n:NoAttr X.K C f)(l:fs.lookup f=some v)
  (h:∀u s',Inv X pins σ H s'->RelV v u->Q u s'):wpAny (model X.prog X.w) A (getAttr (.ref a) f b) Q E s:=by
 obtain⟨mA,O,r,_,_,_⟩:=q3z I.hok e;obtain⟨u,hu,ru⟩:=RelO.some_of (v:=v) (o:=mA f) (by rw [<- l];exact r f);exact get_map I.kIn O (c.get f) c.hd n hu (qco ru) (h u _ (I.tok _) ru)
theorem q5e{m:Str}{g:Addr}{pl:Sem Bool}{Q:Value×List Value->Shared->Prop}(I:Inv X pins σ H s)(e:H a=some (.ins C dx fs))(c:Cls X.K C)(k:Meth X.K C m g)(l:fs.lookup m=none)
  (h:Q (.ref g,[.ref a]) s):wpAny (model X.prog X.w) A (getMethod (.ref a) m pl) Q E s:=by
 obtain⟨mA,O,r,_,_,_⟩:=q3z I.hok e;have hn:mA m=none:=RelO.none_of (by rw [<- l];exact r m);exact qek I.kIn O (c.get m) k.at_ k.fn hn h
theorem qbl{y:V}{u:Value}{Q:Unit->Shared->Prop}(I:Inv X pins σ H s)(e:H a=some (.ins C dx fs))(c:Cls X.K C)(n:NoAttr X.K C f)(hl:fs.length<1000)(ry:RelV y u)
  (h:∀s',Inv X pins σ (upd H a (.ins C dx (vx f y fs))) s'->Q () s'):wpAny (model X.prog X.w) A (setAttr (.ref a) f u) Q E s:=by
 obtain⟨mA,O,r,wi,_,ho⟩:=q3z I.hok e;have hz:(fs.map (·.1)).length<=sizeLine:=by rw [gv,g0a];omega
 refine qgt I.kIn O c.sa c.po n.taker c.hd wi hz fun h' O' sb=>h _ ?_;have hd:∃o,h'.get? dx=some o:=let⟨o,_,_,e',_⟩:=O'.ns; ⟨o,e'⟩
 refine I.write (x:=a) (e:=dx) (by rw [e];exact True.intro) (.inr ho) (fun b q hb z=>(sb.2 b hb).trans z) hd ?_;refine⟨by rw [ql O.ne];exact ho,?_,O.ne,O'.obj,_,O'.ns,fun g=>?_,fun g hg=>?_⟩
 ·have:=q4p f y fs;omega
 ·show RelO ((vx f y fs).lookup g) (if g=f then some u else mA g)
  rw [q4o]
  by_cases q:g=f
  ·rw [gw q,gw q];exact ry
  ·rw [m7 q,m7 q];exact r g
 ·by_cases q:g=f
  ·rw [q];exact(q35 f y fs).1
  ·refine(q35 f y fs).2 g (wi g fun z=>hg ?_)
   show(if g=f then some u else mA g)=none;rw [m7 q];exact z
theorem Inv.made(I:Inv X pins σ H s): Inv X pins σ (upd (upd H s.heap.objs.size (.own (s.heap.objs.size+1))) (s.heap.objs.size+1) (.ins C s.heap.objs.size []))
  {s with heap:=(s.heap.push PySem.W.emptyDict).push (PySem.W.instObj C s.heap.objs.size)}:=by
 have e1:(s.heap.push PySem.W.emptyDict).get? s.heap.objs.size=some PySem.W.emptyDict:=m5 s.heap rfl;have e2:((s.heap.push PySem.W.emptyDict).push (PySem.W.instObj C s.heap.objs.size)).get? (s.heap.objs.size+1)=some (PySem.W.instObj C s.heap.objs.size):=by
  have:=m5 (s.heap.push PySem.W.emptyDict) (o:=PySem.W.instObj C s.heap.objs.size) rfl;rwa [ny] at this
 have e3:(s.heap.push PySem.W.emptyDict).Ns s.heap.objs.size (fun _=>none):=⟨PySem.W.emptyDict, #[],_,e1,rfl,(fun e he=>absurd he (by simp)),fun _=>rfl⟩
 have I1:=I.laid (a:=s.heap.objs.size) (o:=.own (s.heap.objs.size+1)) (h':=s.heap.push PySem.W.emptyDict) (t':=s.toks) (fun b u q=>gh _ q) (gy _) ⟨_,e1⟩;refine I1.laid (a:=s.heap.objs.size+1) (o:=.ins C s.heap.objs.size []) (t':=s.toks) (fun b u q=>gh _ q) (Nat.le_of_eq (ny _ _)) ?_;have ne:s.heap.objs.size≠s.heap.objs.size+1:=mh (uk _);refine⟨by rw [ql ne,qz],g11 _,ne,e2,fun _=>none,(Heap.Ns1.of_empty e3).at fun o q=>gh _ q,fun _=>True.intro,fun y hy=>absurd rfl hy⟩
theorem qgu{prog:Program}{w:World}{env:Env}{e:Expr}{f:Str}{pos:Pos}{s:Shared}{Q:Value->Shared->Prop}(hb:attributeBase e f env (eval e env)=eval e env)
  (h:wpAny (model prog w) A (eval e env) (fun o s₁=>wpAny (model prog w) A (getAttr o f true) Q E s₁) E s):wpAny (model prog w) A (eval (.Attribute e f pos) env) Q E s:=
 Attribute_any_ h (by rw [arm_eval_Attribute,hb])
end
def ql9(K:PySem.W.Frag)(ta:TE)(f:Str): TE:=fun σ H Q=>ta σ H fun x H1=>∃a C dx fs v,x=.ref a/\H1 a=some (.ins C dx fs)/\Cls K C/\NoAttr K C f/\fs.lookup f=some v/\Q v H1
def qla(K:PySem.W.Frag)(ta tv:TE)(f:Str): TS:=fun D σ H=>tv σ H fun y H1=>ta σ H1 fun x H2=>∃a C dx fs,x=.ref a/\H2 a=some (.ins C dx fs)/\Cls K C/\NoAttr K C f/\fs.length<1000 /\
 D.nx σ (upd H2 a (.ins C dx (vx f y fs)))
section
variable{X:Cx}{o e value:Expr}{f:Str}{pos pos' tpos:Pos}{ta tv:TE}
theorem qij(he:PE X e ta)(hb:attributeBase e f X.env (eval e X.env)=eval e X.env): PE X (.Attribute e f pos) (ql9 X.K ta f):=by
 intro pins s σ H Q I h;refine qgu hb (thn (he pins s σ H _ I h) fun u s1 ⟨x,H1,I1,rx,a,C,dx,fs,v,ex,ea,c,n,l,q⟩=>?_);subst ex;obtain rfl:u=Value.ref a:=rx;exact qbk I1 ea c n l fun u' s2 I2 ru=>⟨v,H1,I2,ru,q⟩
theorem qik(ha:PE X o ta)(hv:PE X value tv)(hs:swapsWith value (some (.Attribute o f pos')) pos.line X.env=pure false): PS X (.Assign [.Attribute o f pos'] value pos) (qla X.K ta tv f):=by
 intro pins s σ H D I h;refine plainObj_wpAny_Assign_Attribute (thn (hv pins s σ H _ I h) fun u s1 ⟨y,H1,I1,ry,q⟩=>thn (ha pins s1 σ H1 _ I1 q) fun ov s2 ⟨x,H2,I2,rx,a,C,dx,fs,ex,ea,c,n,l,q2⟩=>?_) hs;subst ex;obtain rfl:ov=Value.ref a:=rx;exact qbl I2 ea c n l ry fun s3 I3=>⟨σ,_,I3,q2⟩
end
section
variable{X:Cx}{pins:List (Addr×Obj)}{σ : St}{H:Hp}{s:Shared}{A:Around}{E:Value->Shared->Prop}{Q:Value->Shared->Prop}{c:Value}{b:Bool}
end
structure Room(k:Nat)(A:Around): Prop where
 hd:A.handled=none
 dp:A.depth+3*k+5<recursionLimit
 un:A.units+16*k+200<cLine
theorem Room.mono{j k:Nat}{A:Around}(r:Room k A)(h:j<=k): Room j A:=⟨r.hd,by have:=r.dp;omega,by have:=r.un;omega⟩
theorem Room.deeper{k:Nat}{A:Around}(r:Room (k+1) A)(env:Env): Room k (A.deeper env):=
 ⟨r.hd,by have:=r.dp;show A.depth+1+3*k+5<_;omega,by have:=r.un;show A.units+3+16*k+200<_;omega⟩
theorem qbm{A:Around}{C:Addr}{us:List Value}{kw:List (Str×Value)}: (A.under (.builtin "type.__call__" ⟨.ref C :: us,kw⟩)).depth=A.depth+1:=by
 first|rfl|simp [Around.under,Code.weight,Code.isCreation,Code.isGuard,Code.isCaller,Code.frames,Code.isFrame,guardIds]
theorem qbn{A:Around}{C:Addr}{us:List Value}{kw:List (Str×Value)}: (A.under (.builtin "type.__call__" ⟨.ref C :: us,kw⟩)).units=A.units+1:=by
 first|rfl|simp [Around.under,Code.cUnits,Code.frames,Code.isFrame]
theorem Room.make{k:Nat}{A:Around}(r:Room (k+1) A)(C:Addr)(us:List Value)(kw:List (Str×Value)): Room k (A.under (.builtin "type.__call__" ⟨.ref C :: us,kw⟩)):=
 ⟨r.hd,by have:=r.dp;rw [qbm];omega,by have:=r.un;rw [qbn];omega⟩
theorem Room.depth{k:Nat}{A:Around}(r:Room k A): A.depth<recursionLimit:=by have:=r.dp;omega
theorem Room.units{k:Nat}{A:Around}(r:Room k A): A.units+64<cLine:=by have:=r.un;omega
def tNil:TA:=fun _ H Q=>Q [] H
def qg4(ta:TE)(tr:TA): TA:=fun σ H Q=>ta σ H fun x H1=>tr σ H1 fun xs H2=>Q (x :: xs) H2
section
variable{X:Cx}{e:Expr}{es:List Expr}{te:TE}{t:TA}{pos:Pos}
theorem q8i:PA X [] tNil:=fun _ _ _ _ H Q I h=>Calls.spliced_nil ⟨[],H,I,.nil,h⟩
theorem q22(ha:PE X e te)(hr:PA X es t)(hs:starEach (e :: es) X.env=(false,eval e X.env) :: starEach es X.env:=by rfl): PA X (e :: es) (qg4 te t):=by
 intro pos pins s σ H Q I h;rw [hs];show wpAny _ _ (spliced ((false,eval e X.env) :: backTo pos (starEach es X.env))) _ _ s;refine Calls.spliced_cons (thn (ha pins s σ H _ I h) fun u s1 ⟨x,H1,I1,r1,q1⟩=>?_);exact thn (hr pos pins s1 σ H1 _ I1 q1) fun us s2 ⟨xs,H2,I2,r2,q2⟩=>⟨x :: xs,H2,I2,.cons r1 r2,q2⟩
def qlb(t:TA): TE:=fun σ H Q=>t σ H fun xs H1=>xs.length<=sizeLine/\∀p,H1 p=none->Q (.ref p) (upd H1 p (.tup xs))
def qlc(t:TA): TE:=fun σ H Q=>t σ H fun xs H1=>xs.length<=sizeLine/\∀p,H1 p=none->Q (.ref p) (upd H1 p (.lst xs))
theorem qil{x1}(h:PA X es t): PE X (.Tuple es x1 pos) (qlb t):=by
 intro pins s σ H Q I hq;refine wpAny_Tuple_spliced (thn (h pos pins s σ H _ I hq) fun us s1 ⟨xs,H1,I1,r,z,q⟩=>⟨by rw [<- r.length];exact z,?_⟩);have hf:H1 s1.heap.objs.size=none:=I1.hok.fresh (gy _);refine⟨.ref s1.heap.objs.size,upd H1 s1.heap.objs.size (.tup xs),I1.laid (t':=s1.toks) (fun b u e=>gh _ e) (gy _) ?_,rfl,q _ hf⟩;exact⟨z,us,r,⟨_,m5 _ rfl,rfl,rfl,_,rfl⟩⟩
theorem qim(h:PA X es t): PE X (.List es pos) (qlc t):=by
 intro pins s σ H Q I hq;refine wpAny_List_spliced (thn (h pos pins s σ H _ I hq) fun us s1 ⟨xs,H1,I1,r,z,q⟩=>⟨by rw [<- r.length];exact z,?_⟩);have hf:H1 s1.heap.objs.size=none:=I1.hok.fresh (gy _);refine⟨.ref s1.heap.objs.size,upd H1 s1.heap.objs.size (.lst xs),I1.laid (t':=s1.toks) (fun b u e=>gh _ e) (gy _) ?_,rfl,q _ hf⟩;exact⟨z,us,0,r,m5 _ rfl⟩
end
abbrev Sp:=List V->Hp->VK->XK->Prop
abbrev CXT:=List Env->Hp->Shared->XK->Value->Shared->Prop
structure Env0(P:Program)(w:World)(K:PySem.W.Frag)(mg:Str->Option Value)(base:Heap)(A:Around)(outer:List Env)(s:Shared)(H:Hp): Prop where
 frames:A.frames=some outer
 mod:Mod K mg base
 bs:∀b o,base.get? b=some o->s.heap.get? b=some o/\H b=none
 bsz:base.objs.size<=s.heap.objs.size
 funs:s.heap.FunFrames base outer
 frf:∀b∈frs outer,H b=none
 hok:HOk P w H s.heap
 bare:AllBare s.gens
def CE(outer:List Env)(P:Program)(w:World)(H:Hp)(s:Shared)(Q:VK)(u:Value)(s':Shared): Prop:=
 ∃v H',s'.os=s.os/\AllBare s'.gens/\Un (frs outer) [] H H' s.heap s'.heap/\HOk P w H' s'.heap/\RelV v u/\Q v H'
def CR(CX:CXT)(outer:List Env)(P:Program)(w:World)(H:Hp)(s:Shared)(Q:VK)(E:XK)(r:Result)(s':Shared): Prop:=
 match r with
 | .ok (.ret u)=>CE outer P w H s Q u s'
 | .ok _=>False
 | .error e=>CX outer H s E e s'
structure FnOk(P:Program)(w:World)(K:PySem.W.Frag)(mg:Str->Option Value)(base:Heap)(CX:CXT)(k:Nat)(f:Addr)(fd:FuncData)(ps:List Str)(sp:Sp): Prop where
 len:∀vs H Q E,sp vs H Q E->vs.length=ps.length
 run:∀(A:Around) (outer:List Env) (s:Shared) (H:Hp) (args:Args) (us:List Value) (vs:List V) (Q:VK) (E:XK),Room k A->Env0 P w K mg base A outer s H->BindsTo s fd args (ps.zip us)->Vals vs us->sp vs H Q E ->
  codeAny (model P w) A (.call (.ref f) args) (CR CX outer P w H s Q E) s
theorem FnOk.imp{P:Program}{w:World}{K:PySem.W.Frag}{mg:Str->Option Value}{base:Heap}{CX:CXT}{k:Nat}{f:Addr}{fd:FuncData}{ps:List Str}{sp sp':Sp}(F:FnOk P w K mg base CX k f fd ps sp)
  (h:∀vs H Q E,sp' vs H Q E->sp vs H Q E):FnOk P w K mg base CX k f fd ps sp':=
 ⟨fun vs H Q E q=>F.len vs H Q E (h _ _ _ _ q),fun A outer s H args us vs Q E hr he hb hv hs=>F.run A outer s H args us vs Q E hr he hb hv (h _ _ _ _ hs)⟩
theorem Env0.make{P:Program}{w:World}{K:PySem.W.Frag}{mg:Str->Option Value}{base:Heap}{A:Around}{outer:List Env}{s:Shared}{H:Hp}(e:Env0 P w K mg base A outer s H)(C:Addr)(us:List Value)(kw:List (Str×Value)):
  Env0 P w K mg base (A.under (.builtin "type.__call__" ⟨.ref C :: us,kw⟩)) outer s H:=⟨by first|exact e.frames|(simpa [Around.under,Code.envs,Code.isFrame,pushEnvs] using e.frames),e.mod,e.bs,e.bsz,e.funs,e.frf,e.hok,e.bare⟩
section
variable{X:Cx}{pins:List (Addr×Obj)}{σ : St}{H:Hp}{s s':Shared}
theorem Inv.env0(I:Inv X pins σ H s): Env0 X.prog X.w X.K X.mg X.base X.A X.stack s H:=
 ⟨I.ok.frames,I.ok.mod,I.bs,mj I.ok.bsz I.sz,I.stack,I.stkFree,I.hok,I.bare⟩
theorem Inv.after{Q:VK}{u:Value}(I:Inv X pins σ H s)(h:CE X.stack X.prog X.w H s Q u s'): EP X pins σ Q u s':=by
 obtain⟨v,H',os,bare,un,hok,r,q⟩:=h;obtain⟨hh,g,d,t,os'⟩:=s';obtain rfl:os'=s.os:=os;exact⟨v,H',I.call (h':=hh) (g':=g) (d':=d) (t':=t) (ch:=[]) un hok bare (fun b z=>absurd z (by simp)),r,q⟩
end
def qkb(sp:Sp)(dvs:List V)(E:XK)(t:TA): TE:=fun σ H Q=>t σ H fun vs H1=>sp (vs++dvs) H1 Q E
def qbo(C:Addr)(m:Str)(sp:Sp)(dvs:List V)(E:XK)(ta:TE)(t:TA): TE:=fun σ H Q=>ta σ H fun x H1=>∃a dx fs,x=.ref a/\H1 a=some (.ins C dx fs)/\fs.lookup m=none /\
 t σ H1 fun vs H2=>sp (x :: (vs++dvs)) H2 Q E
def Binds(K:PySem.W.Frag)(fd:FuncData)(ps:List Str)(ds:List Value): Prop:=
 ∀(s:Shared) (us:List Value),K.In s.heap->(us++ds).length=ps.length->BindsTo s fd ⟨us,[]⟩ (ps.zip (us++ds))
def q0u(CX:CXT)(X:Cx)(E:XK): Prop:=∀(pins:List (Addr×Obj)) (σ : St) (H:Hp) (s:Shared) (e:Value) (s':Shared),Inv X pins σ H s->CX X.stack H s E e s'->X.xe e s'
section
variable{X:Cx}{CX:CXT}{k:Nat}{f C:Addr}{fd:FuncData}{ps:List Str}{sp:Sp}{dvs:List V}{ds:List Value}{E:XK}{x m:Str}{p pos apos:Pos}{e o:Expr}{es:List Expr}{ta:TE}{t:TA}
theorem q8j{pins:List (Addr×Obj)}{σ : St}{H:Hp}{s:Shared}{Q:VK}{us:List Value}{vs:List V}(F:FnOk X.prog X.w X.K X.mg X.base CX k f fd ps sp)(hr:Room k X.A)(hb:Binds X.K fd ps ds)(hd:Vals dvs ds)(hx:q0u CX X E)
  (I:Inv X pins σ H s) (r:Vals vs us) (h:sp (vs++dvs) H Q E):wpAny (model X.prog X.w) X.A (call (.ref f) us) (EP X pins σ Q) X.xe s:=by
 have r2:Vals (vs++dvs) (us++ds):=r.append hd;have hl:(us++ds).length=ps.length:=by rw [<- r2.length];exact F.len _ _ _ _ h
 refine wpAny_call (g0l (F.run X.A X.stack s H ⟨us,[]⟩ (us++ds) (vs++dvs) Q E hr I.env0 (hb s us I.kIn hl) r2 h) fun r s' hq=>?_);cases r with
 | error e=>exact hx pins σ H s e s' I hq
 | ok fl=>
  cases fl with
  | ret u=>exact I.after hq
  | next=>exact False.elim hq
  | brk=>exact False.elim hq
  | cont=>exact False.elim hq
theorem q6a(F:FnOk X.prog X.w X.K X.mg X.base CX k f fd ps sp)(hr:Room k X.A)(hg:Gl X x)(hm:X.mg x=some (.ref f))(hk:PySem.W.keepIn X.K (.ref f)=true)(hb:Binds X.K fd ps ds)(hd:Vals dvs ds)(hx:q0u CX X E)
  (ha:PA X (e :: es) t) (hdb:(x==("__debug__" : Str))=false:=by decide) (he:starEach (e :: es) X.env=(false,eval e X.env) :: starEach es X.env:=by rfl) (hpl:(backTo pos (starEach es X.env)).any (·.1)=false:=by rfl) :
  PE X (.Call (.Name x p) (e :: es) [] pos) (qkb sp dvs E t):=by
 intro pins s σ H Q I h;refine u6 (q68 I hg hm ?_ hdb);refine PySem.W.callWith_K (h₀:=X.base) I.ok.mod.kin hk (thn (ha pos pins s σ H _ I h) fun us s1 ⟨vs,H1,I1,r,q⟩=>⟨I1.kIn,?_⟩) he hpl;exact q8j F hr hb hd hx I1 r q
theorem qgv{pl:Sem Bool}(he:PE X o ta)(c:Cls X.K C)(hm:Meth X.K C m f)(F:FnOk X.prog X.w X.K X.mg X.base CX k f fd ps sp)(hr:Room k X.A)(hb:Binds X.K fd ps ds)(hd:Vals dvs ds)(hx:q0u CX X E)(ha:PA X (e :: es) t)
  (hst:starEach (e :: es) X.env=(false,eval e X.env) :: starEach es X.env:=by rfl) (hpl:(backTo pos (starEach es X.env)).any (·.1)=false:=by rfl)
  (ht:eval (.Call (.Attribute o m apos) (e :: es) [] pos) X.env=(do
   let ov <- eval o X.env
   standAt apos.atName
   let(f,first) <- holding [ov] (getMethod ov m pl)
   callWith pos f first (backTo pos (starEach (e :: es) X.env)) (backToKw pos (keywordEach [] X.env))):=by rfl) :
  PE X (.Call (.Attribute o m apos) (e :: es) [] pos) (qbo C m sp dvs E ta t):=by
 intro pins s σ H Q I h;refine g15 (pl:=pl) (thn (he pins s σ H _ I h) fun u s1 ⟨x,H1,I1,rx,a,dx,fs,ex,ea,l,q⟩=>?_) ht;subst ex;obtain rfl:u=Value.ref a:=rx;refine q5e I1 ea c hm l ?_;refine PySem.W.callWith_K (first:=[.ref a]) (h₀:=X.base) I.ok.mod.kin hm.kp (thn (ha pos pins s1 σ H1 _ I1 q) fun us s2 ⟨vs,H2,I2,r,q2⟩=>⟨I2.kIn,?_⟩) hst hpl;exact q8j (us:=.ref a :: us) (vs:=.ref a :: vs) F hr hb hd hx I2 (.cons rfl r) q2
theorem qem{pl:Sem Bool}(he:PE X o ta)(c:Cls X.K C)(hm:Meth X.K C m f)(F:FnOk X.prog X.w X.K X.mg X.base CX k f fd ps sp)(hr:Room k X.A)(hb:Binds X.K fd ps ds)(hd:Vals dvs ds)(hx:q0u CX X E)
  (ht:eval (.Call (.Attribute o m apos) [] [] pos) X.env=(do
   let ov <- eval o X.env
   standAt apos.atName
   let(f,first) <- holding [ov] (getMethod ov m pl)
   callWith pos f first (backTo pos (starEach [] X.env)) (backToKw pos (keywordEach [] X.env))):=by rfl) :
  PE X (.Call (.Attribute o m apos) [] [] pos) (qbo C m sp dvs E ta tNil):=by
 intro pins s σ H Q I h;refine g15 (pl:=pl) (thn (he pins s σ H _ I h) fun u s1 ⟨x,H1,I1,rx,a,dx,fs,ex,ea,l,q⟩=>?_) ht;subst ex;obtain rfl:u=Value.ref a:=rx;refine q5e I1 ea c hm l ?_;exact PySem.W.callWith_K0 (first:=[.ref a]) I1.kIn hm.kp (q8j (us:=[.ref a]) (vs:=[.ref a]) F hr hb hd hx I1 (.cons rfl .nil) q)
structure Mk(K:PySem.W.Frag)(C f:Addr): Prop where
 makes:PySem.W.makesIn K C=true
 init:PySem.W.findIn K (.ref C) "__init__" = some (some (.ref f))
 fn:PySem.W.isFn K (.ref f)=true
 kp:PySem.W.keepIn K (.ref C)=true
end
def PK(X:Cx)(kws:List Keyword)(t:TA): Prop:=
 ∀(pos:Pos) (pins:List (Addr×Obj)) (s:Shared) (σ : St) (H:Hp) (Q:List V->Hp->Prop),Inv X pins σ H s->t σ H Q->wpAny (model X.prog X.w) X.A (evalAll ((backToKw pos (keywordEach kws X.env)).map (·.2))) (AP X pins σ Q) X.xe s
section
variable{X:Cx}{CX:CXT}{k:Nat}{f C:Addr}{fd:FuncData}{ps ks:List Str}{sp:Sp}{E:XK}{x m:Str}{p pos apos kpos:Pos}{e o:Expr}{es:List Expr}{kws:List Keyword}{te ta:TE}{t tk:TA}{nm:Option Str}
theorem qin:PK X [] tNil:=fun _ _ _ _ H Q I h=>wpAny_evalAll_nil ⟨[],H,I,.nil,h⟩
theorem qgw(ha:PE X e te)(hr:PK X kws t): PK X (⟨nm,e,kpos⟩ :: kws) (qg4 te t):=by
 intro pos pins s σ H Q I h;show wpAny _ _ (evalAll ((do let v <- eval e X.env;standAt pos;pure v) :: (backToKw pos (keywordEach kws X.env)).map (·.2))) _ _ s;refine wpAny_evalAll_cons (g9 (thn (ha pins s σ H _ I h) fun u s1 ⟨x,H1,I1,r1,q1⟩=>g9 (wpAny_standAt (gi ?_))));exact thn (hr pos pins s1 σ H1 _ I1 q1) fun us s2 ⟨xs,H2,I2,r2,q2⟩=>⟨x :: xs,H2,I2,.cons r1 r2,q2⟩
structure KBinds(K:PySem.W.Frag)(fd:FuncData)(ps ks:List Str)(g:List Value->List Value->List Value)(gV:List V->List V->List V): Prop where
 to:∀(s:Shared) (us ws:List Value),K.In s.heap->(g us ws).length=ps.length->BindsTo s fd ⟨us,ks.zip ws⟩ (ps.zip (g us ws))
 rel:∀ {vs:List V} {us:List Value} {zs:List V} {ws:List Value},Vals vs us->Vals zs ws->Vals (gV vs zs) (g us ws)
variable{g:List Value->List Value->List Value}{gV:List V->List V->List V}
end
structure FnScope(N P:List Str)(sc:Scope): Prop where
 kind:sc.kind=.function
 co:sc.isCoroutine=false
 gen:sc.isGenerator=false
 nd:N.Nodup
 pre:N.take P.length=P
 par:∀x∈P,sc.names.lookup x=some .local\/sc.names.lookup x=some .cell
 nofree:∀y∈sc.names,y.2 ≠ .free
theorem q71{kindOf:Str->Option NameKind}{x:Str}: ∀ {binds:List (Str×Value)} {m:Str->Option Value},(∀v,(x,v)∉binds)->bindL kindOf binds m x=m x
 | [],_,_=>rfl
 | (n,v) :: r,m,h=>by
  unfold bindL;rw [q71 fun w hw=>h w (gz _ hw)]
  split
  ·have:x≠n:=by rintro rfl;exact h v md
   simp [this]
  ·rfl
theorem q72{kindOf:Str->Option NameKind}{x:Str}: ∀ {binds:List (Str×Value)} {m:Str->Option Value},(∀v,(x,v)∉binds)->bindC kindOf binds m x=m x
 | [],_,_=>rfl
 | (n,v) :: r,m,h=>by
  unfold bindC;rw [q72 fun w hw=>h w (gz _ hw)]
  split
  ·rfl
  ·have:x≠n:=by rintro rfl;exact h v md
   simp [this]
theorem q73{kindOf:Str->Option NameKind}{x:Str}{v:Value}: ∀ {P:List Str} {vs:List Value} {i:Nat} {m:Str->Option Value},P.Nodup->P[i]? = some x->vs[i]? = some v->kindOf x=some .local ->
  bindL kindOf (P.zip vs) m x=some v
 | [],_,_,_,_,h,_,_=>by simp at h
 | _ :: _,[],_,_,_,_,h,_=>by simp at h
 | p :: P,w :: vs,0,m,nd,h1,h2,hk=>by
  simp at h1 h2;subst h1;subst h2;show bindL kindOf ((p,w) :: P.zip vs) m p=_;unfold bindL;rw [q71 fun v hv=>(uw.mp nd).1 (g0w hv).1,gw hk];simp
 | p :: P,w :: vs,i+1,m,nd,h1,h2,hk=>by
  show bindL kindOf ((p,w) :: P.zip vs) m x=_;unfold bindL;exact q73 (i:=i) (uw.mp nd).2 (by simpa using h1) (by simpa using h2) hk
theorem q74{kindOf:Str->Option NameKind}{x:Str}{v:Value}: ∀ {P:List Str} {vs:List Value} {i:Nat} {m:Str->Option Value},P.Nodup->P[i]? = some x->vs[i]? = some v->kindOf x≠some .local ->
  bindC kindOf (P.zip vs) m x=some v
 | [],_,_,_,_,h,_,_=>by simp at h
 | _ :: _,[],_,_,_,_,h,_=>by simp at h
 | p :: P,w :: vs,0,m,nd,h1,h2,hk=>by
  simp at h1 h2;subst h1;subst h2;show bindC kindOf ((p,w) :: P.zip vs) m p=_;unfold bindC;rw [q72 fun v hv=>(uw.mp nd).1 (g0w hv).1,m7 hk];simp
 | p :: P,w :: vs,i+1,m,nd,h1,h2,hk=>by
  show bindC kindOf ((p,w) :: P.zip vs) m x=_;unfold bindC;exact q74 (i:=i) (uw.mp nd).2 (by simpa using h1) (by simpa using h2) hk
def start(N:List Str)(vs:List V): St:=vs.map some++List.replicate (N.length-vs.length) none
def zk(CX:CXT)(P:Program)(w:World)(K:PySem.W.Frag)(mg:Str->Option Value)(base:Heap)(N:List Str)(qual:Str)(scope:Scope)(f:Addr)(cd:Value)(A:Around)(outer:List Env)(s:Shared)(H:Hp)(E:XK): Cx where
 prog:=P
 w:=w
 K:=K
 mg:=mg
 base:=base
 A:=A.deeper (envOfC qual scope s.heap.objs.size f cd)
 N:=N
 s₀:=s
 H₀:=H
 env:=envOfC qual scope s.heap.objs.size f cd
 outer:=outer
 stack:=envOfC qual scope s.heap.objs.size f cd :: outer
 ex:=[]
 calm:=true
 fn:=fun _=>true
 pn:=[]
 xe:=fun e s'=>wpAny (model P w) (A.deeper (envOfC qual scope s.heap.objs.size f cd)) (leaving (envOfC qual scope s.heap.objs.size f cd) e) (fun _ s''=>CX outer H s E e s'') (fun e' s''=>CX outer H s E e' s'') s'
theorem q8k{sc:Scope}{n:Nat}{x:Str}(h:sc.names.lookup x=some .cell): ∃c,(cellsFrom n sc.names []).lookup x=some c:=by
 have q:=g12 sc.names n [] (.inl h);exact u9.mp q
theorem qcp{CX:CXT}{P:Program}{w:World}{K:PySem.W.Frag}{mg:Str->Option Value}{base:Heap}{N ps:List Str}{qual:Str}{scope:Scope}{f:Addr}{cd:Value}{A:Around}{outer:List Env}{s s1:Shared}{H:Hp}{E:XK}{us:List Value}{vs:List V}
  (S:FnScope N ps scope) (hd:A.handled=none) (e0:Env0 P w K mg base A outer s H) (hl:vs.length=ps.length) (r:Vals vs us)
  (x:InCallC s s.heap.objs.size (bindL (envOfC qual scope s.heap.objs.size f cd).kindOf (ps.zip us) fun _=>none) (cellsFrom (s.heap.objs.size+1) scope.names []) (bindC (envOfC qual scope s.heap.objs.size f cd).kindOf (ps.zip us) fun _=>none) s1) :
  Inv (zk CX P w K mg base N qual scope f cd A outer s H E) [] (start N vs) H s1:=by
 have hpl:ps.length<=N.length:=by have:=pb List.length S.pre;rw [t9] at this;omega
 obtain⟨h1,tk,rfl,hk⟩:=x.done;have noA:∀b:Addr,b∉(zk CX P w K mg base N qual scope f cd A outer s H E).ex:=fun b z=>absurd (show b∈([]:List Addr) from z) (by simp);refine⟨⟨e0.mod,S.kind,rfl,rfl,gy _,fun y z c h1 h2=>?_,fun y hy=>?_,fun y c _ h=>?_,fun _=>hd,Around.frames_deeper e0.frames,.inr ⟨rfl,rfl⟩,fun b z=>absurd z (noA b),e0.bs,e0.bsz,fun b _ _=>noA b,fun b z=>absurd z (noA b),e0.funs,e0.frf⟩,
  rfl,e0.bare,Un.kept hk,⟨_,x.toInCall.ns,fun i y v h1 h2 h3=>?_⟩,fun y c h=>⟨_,x.cell y c h⟩,e0.hok.fresh (gy _),fun y c h=>?_,fun p hp=>absurd (show p∈([]:List (Addr×Obj)) from hp) (by simp),e0.hok.kept hk,?_⟩
 ·exact name_of_addr x.apart (pe h1) (pe h2)
 ·have hy:scope.names.lookup y=some .cell\/scope.names.lookup y=some .free:=hy
  rcases hy with hy|hy
  ·exact q8k hy
  ·exact absurd rfl (S.nofree _ (pe hy))
 ·exact g1a (x.above y c (pe h))
 ·have hi:i<vs.length:=by
   unfold start at h2
   by_cases hi:i<vs.length
   ·exact hi
   ·rw [mx (by simpa using hi)] at h2
    rw [n9] at h2
    split at h2 <;> cases h2
  have ha:vs[i]? = some v:=by
   unfold start at h2;rw [mq (by simpa using hi),ma] at h2;cases e:vs[i]? with
   | none=>rw [e] at h2;cases h2
   | some a=>rw [e] at h2;cases h2;rfl
  obtain⟨u,hu,rv⟩:=r.get ha;have hp:ps[i]? = some y:=by
   rw [<- S.pre,List.getElem?_take_of_lt (by omega)];exact h1
  have ndP:ps.Nodup:=by rw [<- S.pre];exact S.nd.sublist (List.take_sublist _ _)
  refine⟨u,rv,?_⟩;rcases S.par y (List.mem_of_getElem? hp) with k|k
  ·exact .inl ⟨k,q73 ndP hp hu k⟩
  ·obtain⟨c,e⟩:=q8k (n:=s.heap.objs.size+1) k
   refine .inr ⟨.inl k,c,e,?_⟩;have q:=x.cell y c e;rw [q74 ndP hp hu (by show scope.names.lookup y≠_;rw [k];decide)] at q;exact q
 ·exact e0.hok.fresh (g1a (x.above y c (pe h)))
 ·unfold start
  show _=N.length;rw [m9,gv,uq];omega
theorem qg5{CX:CXT}{P:Program}{w:World}{K:PySem.W.Frag}{mg:Str->Option Value}{base:Heap}{k:Nat}{f:Addr}{name qual:Str}{params:Arguments}{body:List Stmt}{scope:Scope}{dV kV doc pm cdv ct oc:Value}{an od:Option Addr}
  {osl:Array (Option Value)} {N ps:List Str} {sp:Sp} (lk:K.lookup f=some ⟨oc,od,.func (PySem.W.fnOf name qual params body scope dV kV doc pm an cdv ct),osl⟩) (hcd:PySem.W.codeIn K cdv qual=true) (S:FnScope N ps scope)
  (len:∀vs H Q E,sp vs H Q E->vs.length=ps.length)
  (hbody:∀(A:Around) (outer:List Env) (s:Shared) (H:Hp) (vs:List V) (Q:VK) (E:XK),Room k (A.deeper (envOfC qual scope s.heap.objs.size f cdv))->sp vs H Q E ->
   ∃t,PSs (zk CX P w K mg base N qual scope f cdv A outer s H E) body t/\t {nx:=fun _ H'=>Q .non H',rt:=Q} (start N vs) H) :
  FnOk P w K mg base CX (k+1) f (PySem.W.fnOf name qual params body scope dV kV doc pm an cdv ct) ps sp:=by
 refine⟨len,fun A outer s H args us vs Q E hr e0 hb r hsp=>?_⟩;have hl:=len _ _ _ _ hsp;have KX:K.In s.heap:=e0.mod.kin.keeps fun b o e=>(e0.bs b o e).1;have lim:s.heap.NoLimit:=e0.mod.nolimit.keeps fun b o e=>(e0.bs b o e).1;have hkind:∀y∈ps.zip us,scope.names.lookup y.1=some .local\/(scope.names.lookup y.1=some .cell/\((cellsFrom (s.heap.objs.size+1) scope.names []).lookup y.1).isSome=true):=fun⟨n,v⟩ hy=>by
  rcases S.par n (g0w hy).1 with q|q
  ·exact .inl q
  ·exact .inr ⟨q,g12 _ _ _ (.inl q)⟩
 refine codeAny_call_function hr.depth (KX _ _ lk) rfl S.co S.gen rfl (PySem.W.codeRec_of KX hcd) (hb _ _ _ _ ?_);refine wpAny_newFunctionEnv_cells S.kind hkind fun env he s1 x=>?_;subst he;refine⟨lim.keeps x.toInCall.keep,codeAny_func ?_⟩;obtain⟨t,ht,hq⟩:=hbody A outer s H vs Q E (hr.deeper _) hsp;have I:Inv (zk CX P w K mg base N qual scope f cdv A outer s H E) [] (start N vs) H s1:=qcp S hr.hd e0 hl r x;refine p5 (ht [] s1 (start N vs) H _ I hq) (fun fl s' hs=>?_) fun e s' hs=>hs;have fin:∀ {σ':St} {H':Hp} {v:V} {u:Value},Inv (zk CX P w K mg base N qual scope f cdv A outer s H E) [] σ' H' s'->RelV v u->Q v H'->CE outer P w H s Q u s':=
  fun {σ' H' v u} J rv q=>⟨v,H',J.os,J.bare,J.base,J.hok,rv,q⟩
 cases fl with
 | ret u=>
  obtain⟨v, σ',H',J,rv,q⟩:=hs;exact fin J rv q
 | next=>
  obtain⟨σ',H',J,q⟩:=hs;exact fin (v:=V.non) (u:=Value.none) J rfl q
 | brk=>
  obtain⟨_,_,_,q⟩:=hs;exact False.elim q
 | cont=>
  obtain⟨_,_,_,q⟩:=hs;exact False.elim q
section
variable{X:Cx}{x:Str}{p pos:Pos}{e:Expr}{es:List Expr}{t:TA}{id T:String}{r:List V->Hp->VK->Prop}
def tCB(r:List V->Hp->VK->Prop)(t:TA): TE:=fun σ H Q=>t σ H fun vs H1=>r vs H1 Q
theorem q8l(hc:xf X (.builtin id) r)(hg:Gl X x)(hm:X.mg x=none)(hv:bootBuiltins x=some (.builtin id))(ha:PA X (e :: es) t)(hn:x≠"__name__" :=by decide)(hdb:(x==("__debug__" : Str))=false:=by decide)
  (he:starEach (e :: es) X.env=(false,eval e X.env) :: starEach es X.env:=by rfl) (hpl:(backTo pos (starEach es X.env)).any (·.1)=false:=by rfl):PE X (.Call (.Name x p) (e :: es) [] pos) (tCB r t):=by
 intro pins s σ H Q I h;refine u6 (q33 I hg hm hv ?_ hn hdb);exact PyProof.Rows.callWith_builtin1 (thn (ha pos pins s σ H _ I h) fun us s1 ⟨vs,H1,I1,r1,q1⟩=>hc pins s1 σ H1 vs us Q I1 r1 q1) he hpl
theorem qcq(hc:xf X (.type T) r)(hg:Gl X x)(hm:X.mg x=none)(hv:bootBuiltins x=some (.type T))(ha:PA X (e :: es) t)(hn:x≠"__name__" :=by decide)(hdb:(x==("__debug__" : Str))=false:=by decide)
  (he:starEach (e :: es) X.env=(false,eval e X.env) :: starEach es X.env:=by rfl) (hpl:(backTo pos (starEach es X.env)).any (·.1)=false:=by rfl):PE X (.Call (.Name x p) (e :: es) [] pos) (tCB r t):=by
 intro pins s σ H Q I h;refine u6 (q33 I hg hm hv ?_ hn hdb);exact t8 (thn (ha pos pins s σ H _ I h) fun us s1 ⟨vs,H1,I1,r1,q1⟩=>hc pins s1 σ H1 vs us Q I1 r1 q1) he hpl
end
end L2
namespace HT
open PySem PyProof.Rows
section
open PySem.SeqAt
open PySem.AutoSeq1 (wpAny_loadPart')
open PySem.MeetsSeq PySem.MeetsSeq2 PySem.MeetsSeq3
end
section
variable{prog:Program}{w:World}{A:Around}{E:Value->Shared->Prop}{s:Shared}
theorem cat_tup{t b:Addr}{vs ws:List Value}{Q:Value->Shared->Prop}(ht:IsTup s.heap t vs.toArray)(hb:IsTup s.heap b ws.toArray)(hv:vs≠[])
  (h1:ws=[]->Q (.ref t) s) (h2:ws≠[]->Q (.ref s.heap.objs.size) {s with heap:=s.heap.push {cls:=.type "tuple",data:=.seq (vs++ws).toArray} })
  (hsz:vs.length+ws.length<=sizeLine):wpAny (model prog w) A (binaryOp .Add (.ref t) (.ref b)) Q E s:=by
 obtain⟨⟨cls,dd,data,sl⟩,ho,hc,n,hd⟩:=id ht;obtain⟨⟨cls2,dd2,data2,sl2⟩,ho2,hc2,n2,hd2⟩:=id hb;simp only at hc hd hc2 hd2;subst hc hd hc2 hd2;have e:vs.toArray++ws.toArray=(vs++ws).toArray:=by simp
 by_cases hw:ws=[]
 ·exact g0m ⟨_,ho,rfl⟩ ⟨_,ho2,rfl⟩ g0n seq_tuple_add uh ud (ua _ _)
   (tuple_addW1 t b vs.toArray ws.toArray n n2 dd dd2 sl sl2 (by simpa using hv) (by simp [hw])) ⟨ho,ho2,h1 hw⟩
 ·refine g0m ⟨_,ho,rfl⟩ ⟨_,ho2,rfl⟩ g0n seq_tuple_add uh ud (ua _ _)
   (tuple_addW2 t b vs.toArray ws.toArray n n2 dd dd2 sl sl2 (by simpa using hv) (by simpa using hw) (by rw [gp,gp];exact hsz)) ⟨ho,ho2,?_⟩
  rw [e];exact h2 hw
def sIx(n d:Nat): Option Int->Nat
 | none=>d
 | some v=>if v<0 then(v+(n:Int)).toNat else min v.toNat n
theorem sIx_none(n d:Nat): sIx n d none=d:=rfl
theorem sIx_nat(n d k:Nat): sIx n d (some (k:Int))=min k n:=by
 show(if(k:Int)<0 then((k:Int)+(n:Int)).toNat else min (k:Int).toNat n)=min k n;rw [m7 (by omega),t4]
theorem qio(n d:Nat)(hd:d<=n)(o:Option Int): sIx n d o<=n:=by
 cases o with
 | none=>exact hd
 | some v=>
  show(if v<0 then(v+(n:Int)).toNat else min v.toNat n)<=n
  by_cases hv:v<0
  ·rw [gw hv];omega
  ·rw [m7 hv];exact Nat.min_le_right _ _
theorem qap(v:Int)(n d:Nat): (if v<0 then max (v+(n:Int)) 0 else min v (n:Int))=((sIx n d (some v):Nat):Int):=by
 show(if v<0 then max (v+(n:Int)) 0 else min v (n:Int))=(((if v<0 then(v+(n:Int)).toNat else min v.toNat n):Nat):Int)
 by_cases hv:v<0
 ·simp only [gw hv];omega
 ·simp only [m7 hv];omega
theorem qbp(lo hi:Option Int)(n:Nat): Builtin.Slice.sliceAdjust lo hi 1 (n:Int)=(((sIx n 0 lo:Nat):Int),((sIx n n hi:Nat):Int)):=by
 have h1:¬((1:Int)<0):=by omega
 unfold Builtin.Slice.sliceAdjust;simp only [h1,ub];refine Prod.ext ?_ ?_
 ·cases lo with
  | none=>rfl
  | some v=>exact qap v n 0
 ·cases hi with
  | none=>rfl
  | some v=>exact qap v n n
theorem qbq(i j:Nat): Builtin.Slice.slicePlaces (i:Int) (j:Int) 1=j-i:=by
 unfold Builtin.Slice.slicePlaces;have h1:(1:Int)>0:=by omega
 simp only [h1,nj,Int.ediv_one]
 split <;> omega
theorem q5f{v:Value}{o:Option Int}{Q:Option Int->Shared->Prop}(p:IsPart v o)(h:Q o s): wpAny (model prog w) A (Builtin.Slice.slicePartIndex v) Q E s:=by
 cases p with
 | none=>exact slicePart_none h
 | int i t=>exact slicePart_int h
theorem sliceApplied_gen{sl:Addr}{vl vu:Value}{lo hi:Option Int}{n:Nat}{Q:Int×Int×Nat->Shared->Prop}(hs:s.heap.IsSliceOf sl vl vu .none)(pl:IsPart vl lo)(pu:IsPart vu hi)
  (h:Q (((sIx n 0 lo:Nat):Int),1,sIx n n hi-sIx n 0 lo) s):wpAny (model prog w) A (Builtin.Slice.sliceApplied (.ref sl) (pure (n:Int))) Q E s:=by
 obtain⟨os,hos,hcs,hds⟩:=id hs;unfold Builtin.Slice.sliceApplied Builtin.Slice.sliceFields;refine g9 (g9 (n8 hos hds (x:=vl) rfl (g9 (n8 hos hds (x:=vu) rfl (g9 (n8 hos hds (x:=.none) rfl (gi ?_)))))));refine g9 (slicePart_none ?_);show wpAny _ _ (if((1:Int)==0)=true then _ else _) _ _ s;rw [m7 (by decide)];refine g9 (q5f pl (g9 (q5f pu (g9 (gi ?_)))));show wpAny _ _ (match Builtin.Slice.sliceAdjust lo hi 1 (n:Int) with|(lo,hi)=>pure (lo,(1:Int),Builtin.Slice.slicePlaces lo hi 1)) _ _ s;rw [qbp lo hi n];show wpAny _ _ (pure (((sIx n 0 lo:Nat):Int),(1:Int),Builtin.Slice.slicePlaces ((sIx n 0 lo:Nat):Int) ((sIx n n hi:Nat):Int) 1)) _ _ s;rw [qbq];exact gi h
theorem qen(xs:Array Value)(i k:Nat): ((List.range k).filterMap fun(m:Nat)=>xs[((i:Int)+(m:Int)*1).toNat]?).toArray=((xs.toList.drop i).take k).toArray:=by
 have e:(fun(m:Nat)=>xs[((i:Int)+(m:Int)*1).toNat]?)=fun m=>xs[i+m]? :=by
  funext m
  have:((i:Int)+(m:Int)*1).toNat=i+m:=by omega
  rw [this]
 rw [e];have:=pick_run xs i k;rw [List.filterMap_map] at this;have e2:((fun x=>xs[x]?) ∘ fun x=>i+x)=fun m=>xs[i+m]? :=rfl;rw [e2] at this;rw [this]
theorem getItem_tuple_cut{t sl:Addr}{items:Array Value}{vl vu:Value}{lo hi:Option Int}{Q:Value->Shared->Prop}(ht:IsTup s.heap t items)(hs:s.heap.IsSliceOf sl vl vu .none)(pl:IsPart vl lo)(pu:IsPart vu hi)
  (hw:¬(sIx items.size 0 lo=0/\sIx items.size items.size hi=items.size))
  (h:Q (.ref s.heap.objs.size) {s with heap:=s.heap.push {cls:=.type "tuple",data:=.seq ((items.toList.drop (sIx items.size 0 lo)).take (sIx items.size items.size hi-sIx items.size 0 lo)).toArray} })
  (hsz:items.size<=sizeLine):wpAny (model prog w) A (getItem (.ref t) (.ref sl)) Q E s:=by
 have htake:sizeOk (.seq ((items.toList.drop (sIx items.size 0 lo)).take (sIx items.size items.size hi-sIx items.size 0 lo)).toArray):=by
  show((items.toList.drop (sIx items.size 0 lo)).take (sIx items.size items.size hi-sIx items.size 0 lo)).toArray.size<=sizeLine;rw [gp,t9,g0o,g04];omega
 have hj:sIx items.size items.size hi<=items.size:=qio _ _ (gy _) hi;obtain⟨os,hos,hcs,hds⟩:=id hs;have hTs:s.TypeIs (.ref sl) "slice" :=⟨os,hos,hcs⟩
 unfold getItem
 try with_reducible refine ni ?_
 first|refine g9 (gi ?_)|skip
 refine g9 (wpAny_sequenceKey ht.typeIs (by decide) ?_);refine g9 (ng (name:=Str.ofString "__getitem__") ht.typeIs mw
  (pd mw ht.typeIs entry_tuple_getitem ?_ (args_tuple_getitem _ _)))
 show wpAny _ _ (Builtin.Tuple.tupleItemsOf (.ref t) >>= _) _ _ s;refine g9 (tupleItemsOf_ ht ?_);refine g9 (wpAny_typeOf hTs ?_);rw [gw (by decide)];refine g9 (sliceApplied_gen hs pl pu ?_);have hno:¬((((sIx items.size 0 lo:Nat):Int)==0&&(1:Int)==1&&(sIx items.size items.size hi-sIx items.size 0 lo)==items.size)=true):=by
  intro q;rw [mi,mi] at q;have q1:((sIx items.size 0 lo:Nat):Int)=0:=eq_of_beq q.1.1;have q2:sIx items.size items.size hi-sIx items.size 0 lo=items.size:=eq_of_beq q.2;exact hw ⟨by omega,by omega⟩
 show wpAny _ _ (if(((sIx items.size 0 lo:Nat):Int)==0&&(1:Int)==1&&(sIx items.size items.size hi-sIx items.size 0 lo)==items.size)=true then _ else _) _ _ s;rw [m7 hno,qen]
 first
  | exact g9 (m:=Builtin.Tuple.tupleExact _) (nt (gi ⟨_,rfl,gi h⟩) htake)
  | exact g9 (m:=Builtin.Tuple.tupleExact _) (nt (g9 (gi (gi ⟨_,rfl,gi h⟩))) htake)
  | exact g9 (g9 (m:=Builtin.Tuple.tupleExact _) (nt (gi (gi ⟨_,rfl,gi h⟩)) htake))
  | exact g9 (g9 (m:=Builtin.Tuple.tupleExact _) (nt (gi ⟨_,rfl,gi h⟩) htake))
end
end HT
namespace L2
open PySem PySem.Spec PyProof.Rows
abbrev TO:=St->Hp->(Option Int->Hp->Prop)->Prop
def PO(X:Cx)(e:Option Expr)(t:TO): Prop:=
 ∀(pins:List (Addr×Obj)) (s:Shared) (σ : St) (H:Hp) (Q:Option Int->Hp->Prop),Inv X pins σ H s->t σ H Q ->
  wpAny (model X.prog X.w) X.A (evalPart e X.env) (fun u s'=>∃o H',Inv X pins σ H' s'/\IsPart u o/\Q o H') X.xe s
def tNoPart:TO:=fun _ H Q=>Q none H
def qkc(t:TE): TO:=fun σ H Q=>t σ H fun x H1=>∃i,x=.int i/\Q (some i) H1
theorem intsAre_of{ns:List Int}: ∀ {us:List Value},Vals (ns.map V.int) us->IntsAre us ns:=by
 induction ns with
 | nil=>intro us r;rw [g0p] at r;cases r;exact .nil
 | cons n ns ih=>
  intro us r;rw [ml] at r;cases r with
  | cons r1 r2=>
   obtain⟨t,e⟩:=r1;subst e;exact .cons n t (ih r2)
section
variable{X:Cx}{e:Expr}{te:TE}{lo hi:Option Expr}{tl th:TO}{pos p2:Pos}
theorem qgx:PO X none tNoPart:=by
 intro pins s σ H Q I h;rw [evalPart_none];exact gi ⟨none,H,I,.none,h⟩
theorem qgy(h:PE X e te): PO X (some e) (qkc te):=by
 intro pins s σ H Q I hw;rw [evalPart_some];refine thn (h pins s σ H _ I hw) fun u s1 ⟨x,H1,I1,r1,q1⟩=>?_;obtain⟨i,rfl,q⟩:=q1;obtain⟨t,rfl⟩:=r1;exact⟨some i,H1,I1,.int i t,q⟩
def SlR(X:Cx)(r:V->Option Int->Option Int->Hp->VK->Prop): Prop:=
 ∀(pins:List (Addr×Obj)) (s:Shared) (σ : St) (H:Hp) (x:V) (v vl vu:Value) (lo hi:Option Int) (sl:Addr) (Q:VK),Inv X pins σ H s->RelV x v->s.heap.IsSliceOf sl vl vu .none->IsPart vl lo->IsPart vu hi->r x lo hi H Q ->
  ∃T id,typeLookup (.type T) "__getitem__" = pure (some (.builtin id))/\s.TypeIs v T/\wpAny (model X.prog X.w) X.A (getItem v (.ref sl)) (EP X pins σ Q) X.xe s
theorem SlR.or{r r':V->Option Int->Option Int->Hp->VK->Prop}(h:SlR X r)(h':SlR X r'): SlR X (fun x lo hi H Q=>r x lo hi H Q\/r' x lo hi H Q):=by
 intro pins s σ H x v vl vu lo hi sl Q I rx hs pl pu q;rcases q with q|q
 ·exact h pins s σ H x v vl vu lo hi sl Q I rx hs pl pu q
 ·exact h' pins s σ H x v vl vu lo hi sl Q I rx hs pl pu q
def tSl(r:V->Option Int->Option Int->Hp->VK->Prop)(te:TE)(tl th:TO): TE:=fun σ H Q=>te σ H fun x H1=>tl σ H1 fun l H2=>th σ H2 fun u H3=>r x l u H3 Q
theorem qeo{r:V->Option Int->Option Int->Hp->VK->Prop}(hr:SlR X r)(he:PE X e te)(hl:PO X lo tl)(hu:PO X hi th): PE X (.Subscript e (.Slice lo hi none p2) pos) (tSl r te tl th):=by
 intro pins s σ H Q I h;refine Subscript_ (thn (he pins s σ H _ I h) fun v s1 ⟨x,H1,I1,r1,q1⟩=>?_);refine wpAny_Slice (thn (hl pins s1 σ H1 _ I1 q1) fun vl s2 ⟨l,H2,I2,pl,q2⟩=>thn (hu pins s2 σ H2 _ I2 q2) fun vu s3 ⟨u,H3,I3,pu,q3⟩=>?_);rw [evalPart_none];refine gi ?_;have I4:Inv X pins σ H3 {s3 with heap:=s3.heap.push {cls:=.type "slice",data:=.fields #[vl,vu,.none]} }:=I3.kept (t':=s3.toks) fun b ob q=>gh _ q;obtain⟨T,id,hT,ht,hg⟩:=hr pins {s3 with heap:=s3.heap.push {cls:=.type "slice",data:=.fields #[vl,vu,.none]} } σ H3 x v vl vu l u s3.heap.objs.size Q I4 r1 (Heap.IsSliceOf.new ..) pl pu q3;show wpAny (model X.prog X.w) X.A (subscriptTail e (.Slice lo hi none p2) v (.ref s3.heap.objs.size)) (EP X pins σ Q) X.xe {s3 with heap:=s3.heap.push {cls:=.type "slice",data:=.fields #[vl,vu,.none]} };exact tail_any (ops:=[.ref s3.heap.objs.size,v]) ht hT hg (by with_unfolding_all rfl)
def q0g(xs:List V)(lo hi:Option Int): List V:=(xs.drop (HT.sIx xs.length 0 lo)).take (HT.sIx xs.length xs.length hi-HT.sIx xs.length 0 lo)
theorem q4q(xs:List V)(lo hi:Option Int): (q0g xs lo hi).length<=xs.length:=by
 unfold q0g;rw [t9,g0o];omega
def qld(K:PySem.W.Frag): V->Option Int->Option Int->Hp->VK->Prop:=fun x lo hi H Q=>∃a xs,x=.ref a/\SqT K H a xs /\
 ¬(HT.sIx xs.length 0 lo=0/\HT.sIx xs.length xs.length hi=xs.length)/\∀p,H p=none->Q (.ref p) (upd H p (.tup (q0g xs lo hi)))
theorem sl_tup:SlR X (qld X.K):=by
 intro pins s σ H x v vl vu lo hi sl Q I rx hs pl pu h;obtain⟨a,xs,rfl,hx,hw,q⟩:=h;cases rx;obtain⟨its,r,ht,hz⟩:=I.tuple hx;have hlen:its.toArray.size=xs.length:=by rw [gp];exact r.length.symm
 refine⟨"tuple",_,mw.lookup,ht.typeIs,?_⟩;refine HT.getItem_tuple_cut ht hs pl pu (by rw [hlen];exact hw) ?_ (by rw [hlen];exact hz);rw [hlen];refine⟨.ref s.heap.objs.size,_,I.laid (t':=s.toks) (o:=.tup (q0g xs lo hi)) (fun b ob q=>gh _ q) (gy _) ?_,rfl,q _ (I.hok.fresh (gy _))⟩;exact⟨mj (q4q xs lo hi) hz,_,(r.drop (HT.sIx xs.length 0 lo)).take (HT.sIx xs.length xs.length hi-HT.sIx xs.length 0 lo),TupX.new _ _⟩
def qkd(K:PySem.W.Frag): R2:=fun x y H Q=>∃a b xs ys,x=.ref a/\y=.ref b/\SqT K H a xs/\SqT K H b ys/\xs≠[]/\xs.length+ys.length<=sizeLine /\
 (ys=[]->Q (.ref a) H)/\(ys≠[]->∀p,H p=none->Q (.ref p) (upd H p (.tup (xs++ys))))
theorem Vals.nil_iff{xs:List V}{us:List Value}(r:Vals xs us): us=[]↔xs=[]:=by
 cases r with
 | nil=>simp
 | cons _ _=>simp
theorem qgz:OpR X (binaryOp .Add) (qkd X.K):=by
 intro pins s σ H x y v u Q I rx ry h;obtain⟨a,b,xs,ys,rfl,rfl,ha,hb,hx,hz,q1,q2⟩:=h;cases rx;cases ry;obtain⟨its,r1,p1,_⟩:=I.tuple ha;obtain⟨its2,r2,p2,_⟩:=I.tuple hb;refine HT.cat_tup p1 p2 (fun z=>hx (r1.nil_iff.mp z)) (fun z=>⟨.ref a,H,I,rfl,q1 (r2.nil_iff.mp z)⟩) (fun z=>?_) (by rw [<- r1.length, <- r2.length];exact hz);refine⟨.ref s.heap.objs.size,_,I.laid (t':=s.toks) (o:=.tup (xs++ys)) (fun b ob q=>gh _ q) (gy _) ?_,rfl,q2 (fun w=>z (r2.nil_iff.mpr w)) _ (I.hok.fresh (gy _))⟩;exact⟨by rw [m9];exact hz,_,r1.append r2,TupX.new _ _⟩
end
def ixN(n:Nat)(i:Int): Option Nat:=if 0<=i then(if i<n then some i.toNat else none) else if -(n:Int)<=i then some (i+n).toNat else none
def atI{α : Type}(xs:List α)(i:Int): Option α :=(ixN xs.length i).bind fun j=>xs[j]?
theorem qh0{n:Nat}{i:Int}{j:Nat}(h:ixN n i=some j): seqIndex? i n=some j/\j<n /\ -(n:Int)<=i/\i<n:=by
 unfold ixN at h
 by_cases h0:0<=i
 ·rw [gw h0] at h
  by_cases h1:i<n
  ·rw [gw h1] at h
   have e:i.toNat=j:=mn h;exact⟨by rw [seqIndex_of h0 h1,e],by omega,by omega,h1⟩
  ·rw [m7 h1] at h;cases h
 ·rw [m7 h0] at h
  by_cases h1 : -(n:Int)<=i
  ·rw [gw h1] at h
   have e:(i+n).toNat=j:=mn h;exact⟨by rw [seqIndex_neg (by omega) h1,e],by omega,h1,by omega⟩
  ·rw [m7 h1] at h;cases h
theorem q6b{α : Type}{xs:List α}{i:Int}{v : α}(h:atI xs i=some v): ∃j,seqIndex? i xs.length=some j/\xs[j]? = some v/\j<xs.length /\ -(xs.length:Int)<=i/\i<xs.length:=by
 unfold atI at h;cases e:ixN xs.length i with
 | none=>rw [e] at h;cases h
 | some j=>
  rw [e] at h;obtain⟨h1,h2,h3,h4⟩:=qh0 e;exact⟨j,h1,h,h2,h3,h4⟩
def qaq(b:Expr): Prop:=∀o i,subscripted b false o i=operate [o,i] (getItem o i)
def IxR(X:Cx)(r:R2): Prop:=
 ∀(value slice:Expr) (pins:List (Addr×Obj)) (s:Shared) (σ : St) (H:Hp) (x y:V) (v u:Value) (Q:VK),Inv X pins σ H s->RelV x v->RelV y u->r x y H Q ->
  subscripted slice false v u=operate [v,u] (getItem v u)->wpAny (model X.prog X.w) X.A (subscriptTail value slice v u) (EP X pins σ Q) X.xe s
def MtR(X:Cx)(id:String)(r:V->List V->Hp->VK->Prop): Prop:=
 ∀(pins:List (Addr×Obj)) (s:Shared) (σ : St) (H:Hp) (x:V) (xs:List V) (v:Value) (us:List Value) (Q:VK),Inv X pins σ H s->RelV x v->Vals xs us->r x xs H Q ->
  wpAny (model X.prog X.w) X.A (call (.builtin id) (v :: us)) (EP X pins σ Q) X.xe s
section
variable{X:Cx}{a b:Expr}{ta tb:TE}{pos:Pos}
theorem IxR.or{r r':R2}(h:IxR X r)(h':IxR X r'): IxR X (fun x y H Q=>r x y H Q\/r' x y H Q):=by
 intro value slice pins s σ H x y v u Q I rx ry q hs;rcases q with q|q
 ·exact h value slice pins s σ H x y v u Q I rx ry q hs
 ·exact h' value slice pins s σ H x y v u Q I rx ry q hs
theorem qke{r:R2}(hr:IxR X r)(ha:PE X a ta)(hb:PE X b tb)(hs:qaq b): PE X (.Subscript a b pos) (tOp r ta tb):=by
 intro pins s σ H Q I h;exact Subscript_ (qeg ha hb I h fun v u s2 x y H2 I2 rx ry q=>hr a b pins s2 σ H2 x y v u Q I2 rx ry q (hs _ _))
def qip(K:PySem.W.Frag): R2:=fun x y H Q=>∃p xs i v,x=.ref p/\y=.int i/\SqL K H p xs/\atI xs i=some v/\Q v H
def qiq(K:PySem.W.Frag): R2:=fun x y H Q=>∃p xs i v,x=.ref p/\y=.int i/\SqT K H p xs/\atI xs i=some v/\Q v H
def rIxS:R2:=fun x y H Q=>∃z i c,x=.str z/\y=.int i/\z.length<=sizeLine/\atI z.cps.toList i=some c/\Q (.str ⟨#[c]⟩) H
theorem ix_list:IxR X (qip X.K):=by
 intro value slice pins s σ H x y v u Q I rx ry h hs;obtain⟨p,xs,i,z,rfl,rfl,hq,he,q⟩:=h;cases rx;obtain⟨t,rfl⟩:=ry;obtain⟨its,r,pl,hz⟩:=I.list hq;obtain⟨j,h1,h2,h3,h4,h5⟩:=q6b he;obtain⟨w,ew,rw'⟩:=r.get h2;have hl:=r.length;have hn:=q34;have fin:EP X pins σ Q w s:=⟨z,H,I,rw',q⟩
 by_cases h0:0<=i
 ·have hj:i.toNat=j:=by
   rw [seqIndex_of h0 h5] at h1;exact mn h1
  exact item_listR pl.isList h0 (by omega) (by rw [hj];simpa using ew) fin hs
 ·have hj:(i+(its.toArray.size:Int)).toNat=j:=by
   rw [seqIndex_neg (by omega) h4] at h1;rw [gp, <- hl];exact mn h1
  exact subscriptTail_builtinR (x:=w) pl.isList.typeIs slot_list_getitem.lookup
   (wpAny_getItem_list_neg (Q:=fun r s'=>r=w/\EP X pins σ Q r s') pl.isList (by omega) (by rw [gp] <;> omega) (by omega) (by rw [hj];simpa using ew) ⟨rfl,fin⟩) hs
theorem ix_tup:IxR X (qiq X.K):=by
 intro value slice pins s σ H x y v u Q I rx ry h hs;obtain⟨p,xs,i,z,rfl,rfl,hq,he,q⟩:=h;cases rx;obtain⟨t,rfl⟩:=ry;obtain⟨its,r,pl,hz⟩:=I.tuple hq;obtain⟨j,h1,h2,h3,h4,h5⟩:=q6b he;obtain⟨w,ew,rw'⟩:=r.get h2;have hl:=r.length;have hn:=q34;have fin:EP X pins σ Q w s:=⟨z,H,I,rw',q⟩
 exact subscriptTail_builtinR (x:=w) pl.typeIs slot_tuple_getitem.lookup
  (getItem_tuple (j:=j) (Q:=fun r s'=>r=w/\EP X pins σ Q r s') pl (by omega) (by omega) (by rw [gp, <- hl];exact h1) (by simpa using ew) ⟨rfl,fin⟩) hs
theorem qir:IxR X rIxS:=by
 intro value slice pins s σ H x y v u Q I rx ry h hs;obtain⟨z,i,c,rfl,rfl,hz,he,q⟩:=h;obtain⟨t,rfl⟩:=rx;obtain⟨t',rfl⟩:=ry;obtain⟨j,h1,h2,h3,h4,h5⟩:=q6b he;have hl:z.cps.toList.length=z.length:=by simp [Str.length]
 rw [hl] at h1 h4 h5;have hn:=q34;exact tail_any (typeIs_str s z t) slot_str_getitem.lookup (getItem_str (c:=c) (by
  have e1:decide (i < -(2 ^ 63:Int))=false:=gu (by omega);have e2:decide (i>=2 ^ 63)=false:=gu (by omega);rw [e1,e2,Bool.or_false]) (by rw [h1];simpa using h2) ⟨.str ⟨#[c]⟩,H,I.tok _,⟨_,rfl⟩,q⟩) hs
def rIx(K:PySem.W.Frag): R2:=fun x y H Q=>qip K x y H Q\/qiq K x y H Q\/rIxS x y H Q
theorem qis:IxR X (rIx X.K):=ix_list.or (ix_tup.or qir)
theorem q8m(lo hi:Option Int)(n:Nat): (sliceBounds lo hi none n).1=((HT.sIx n 0 lo:Nat):Int)/\(sliceBounds lo hi none n).2.1=((HT.sIx n n hi:Nat):Int)/\(sliceBounds lo hi none n).2.2=1:=by
 refine⟨?_,?_,rfl⟩
 ·cases lo with
  | none=>simp [sliceBounds,HT.sIx]
  | some i=>
   simp only [sliceBounds,HT.sIx,Option.getD_none,show(1:Int)>0 by decide,nj]
   by_cases h:i<0
   ·simp only [h,nj] <;> omega
   ·simp only [h,ub] <;> omega
 ·cases hi with
  | none=>simp [sliceBounds,HT.sIx]
  | some i=>
   simp only [sliceBounds,HT.sIx,Option.getD_none,show(1:Int)>0 by decide,nj]
   by_cases h:i<0
   ·simp only [h,nj] <;> omega
   ·simp only [h,ub] <;> omega
theorem q7l(its:List Value)(lo hi:Option Int): slicePick its.toArray lo hi none=((its.drop (HT.sIx its.length 0 lo)).take (HT.sIx its.length its.length hi-HT.sIx its.length 0 lo)).toArray:=by
 obtain⟨h1,h2,h3⟩:=q8m lo hi its.toArray.size;unfold slicePick;rw [h1,h2,h3];simp only [sliceRange_one,pick_run,gp] <;> rfl
def qle(K:PySem.W.Frag): V->Option Int->Option Int->Hp->VK->Prop:=fun x lo hi H Q=>∃a xs,x=.ref a/\SqL K H a xs/\∀p,H p=none->Q (.ref p) (upd H p (.lst (q0g xs lo hi)))
theorem sl_list:SlR X (qle X.K):=by
 intro pins s σ H x v vl vu lo hi sl Q I rx hs pl pu h;obtain⟨a,xs,rfl,hx,q⟩:=h;cases rx;obtain⟨its,r,ht,hz⟩:=I.list hx;have hlen:=r.length;refine⟨"list",_,slot_list_getitem.lookup,ht.isList.typeIs,?_⟩;refine wpAny_getItem_list_slice ht.isList hs pl pu .none (by simp) ?_ (by rw [gp] <;> omega);rw [q7l, <- hlen];refine⟨.ref s.heap.objs.size,_,I.laid (t':=s.toks) (o:=.lst (q0g xs lo hi)) (fun b ob q=>gh _ q) (gy _) ?_,rfl,q _ (I.hok.fresh (gy _))⟩;exact⟨mj (q4q xs lo hi) hz,_,0,(r.drop (HT.sIx xs.length 0 lo)).take (HT.sIx xs.length xs.length hi-HT.sIx xs.length 0 lo),m5 _ rfl⟩
def yz:V->Bool
 | .non=>true
 | .bl _=>true
 | .int _=>true
 | .str _=>true
 | _=>false
def eqV:V->V->Bool
 | .non,.non=>true
 | .bl a,.bl b=>a==b
 | .bl a,.int b=>(if a then 1 else 0)==b
 | .int a,.bl b=>a==(if b then 1 else 0)
 | .int a,.int b=>a==b
 | .str a,.str b=>a==b
 | _,_=>false
theorem qcr{A:Around}{s:Shared}{y x:V}{u v:Value}(ry:RelV y u)(rx:RelV x v)(fy:yz y=true)(fx:yz x=true): SeqAt.EqAt A s u v (eqV y x):=by
 cases y with
 | non=>
  cases ry;cases x with
  | non=>cases rx;exact g0x _
  | bl b=>cases rx;exact SeqAt.EqAt.none_bool b
  | int b=>obtain⟨t,rfl⟩:=rx;exact SeqAt.EqAt.none_int b t
  | str b=>obtain⟨t,rfl⟩:=rx;exact SeqAt.EqAt.none_str b t
  | _=>exact absurd (show false=true from fx) gq
 | bl a=>
  cases ry;cases x with
  | non=>cases rx;exact SeqAt.EqAt.bool_none a
  | bl b=>cases rx;exact SeqAt.EqAt.bool_bool a b
  | int b=>obtain⟨t,rfl⟩:=rx;exact SeqAt.EqAt.bool_int a b t
  | str b=>obtain⟨t,rfl⟩:=rx;exact SeqAt.EqAt.bool_str a b t
  | _=>exact absurd (show false=true from fx) gq
 | int a=>
  obtain⟨t',rfl⟩:=ry;cases x with
  | non=>cases rx;exact SeqAt.EqAt.int_none a t'
  | bl b=>cases rx;exact SeqAt.EqAt.int_bool a t' b
  | int b=>obtain⟨t,rfl⟩:=rx;exact SeqAt.EqAt.int_int a t' b t
  | str b=>obtain⟨t,rfl⟩:=rx;exact SeqAt.EqAt.int_str a t' b t
  | _=>exact absurd (show false=true from fx) gq
 | str a=>
  obtain⟨t',rfl⟩:=ry;cases x with
  | non=>cases rx;exact SeqAt.EqAt.str_none a t'
  | bl b=>cases rx;exact SeqAt.EqAt.str_bool a t' b
  | int b=>obtain⟨t,rfl⟩:=rx;exact SeqAt.EqAt.str_int a t' b t
  | str b=>obtain⟨t,rfl⟩:=rx;exact SeqAt.EqAt.str_str a t' b t
  | _=>exact absurd (show false=true from fx) gq
 | _=>exact absurd (show false=true from fy) gq
def eqU(x:V)(u:Value): Bool:=match u with
 | .none=>eqV .non x
 | .bool b=>eqV (.bl b) x
 | .int i _=>eqV (.int i) x
 | .str z _=>eqV (.str z) x
 | _=>false
theorem qcs{x y:V}{u:Value}(r:RelV y u)(f:yz y=true): eqU x u=eqV y x:=by
 cases y with
 | non=>cases r;rfl
 | bl b=>cases r;rfl
 | int i=>obtain⟨t,rfl⟩:=r;rfl
 | str z=>obtain⟨t,rfl⟩:=r;rfl
 | _=>exact absurd (show false=true from f) gq
theorem q6c{x:V}: ∀ {xs:List V} {us:List Value},Vals xs us->xs.all yz=true->us.any (eqU x)=xs.any fun y=>eqV y x
 | _,_,.nil,_=>rfl
 | y :: xs,u :: us,.cons r t,f=>by
  rw [uj,mi] at f;rw [List.any_cons,List.any_cons,qcs r f.1,q6c t f.2]
theorem q4y{A:Around}{s:Shared}{x:V}{v:Value}(rx:RelV x v)(fx:yz x=true): ∀ {xs:List V} {us:List Value},Vals xs us->xs.all yz=true->∀u∈us,SeqAt.EqAt A s u v (eqU x u)
 | _,_,.nil,_=>fun u hu=>by cases hu
 | y :: xs,u :: us,.cons r t,f=>fun u' hu=>by
  rw [uj,mi] at f;rcases mv.mp hu with rfl|hu
  ·rw [qcs r f.1];exact qcr r rx f.1 fx
  ·exact q4y rx fx t f.2 u' hu
def inV(x:V)(xs:List V): Bool:=xs.any fun y=>eqV y x
def rIn(K:PySem.W.Frag)(neg:Bool): R2:=fun x y H Q=>∃p xs,y=.ref p/\(SqL K H p xs\/SqT K H p xs)/\yz x=true/\xs.all yz=true/\Q (.bl (if neg then !inV x xs else inV x xs)) H
theorem qct:OpR X (compareOp .In) (rIn X.K false):=by
 intro pins s σ H x y v u Q I rx ry h;obtain⟨p,xs,rfl,hq,fx,fs,q⟩:=h;cases ry;rcases hq with hq|hq
 ·obtain⟨its,r,pl,hz⟩:=I.list hq
  refine SeqAt.in_listAt (eqU x) pl.isList (fun w hw=>q4y rx fx r fs w (by simpa using hw)) ⟨.bl _,H,I,rfl,?_⟩;rw [show its.toArray.any (eqU x)=its.any (eqU x) by simp,q6c r fs];exact q
 ·obtain⟨its,r,pl,hz⟩:=I.tuple hq
  refine SeqAt.in_tupleAt (eqU x) pl (fun w hw=>q4y rx fx r fs w (by simpa using hw)) ⟨.bl _,H,I,rfl,?_⟩;rw [show its.toArray.any (eqU x)=its.any (eqU x) by simp,q6c r fs];exact q
theorem q7m:xf X (.type "tuple") (fun xs H Q=>∃p ys,xs=[.ref p]/\((SqL X.K H p ys/\∀l,H l=none->Q (.ref l) (upd H l (.tup ys)))\/(SqT X.K H p ys/\Q (.ref p) H))):=by
 intro pins s σ H xs us Q I r h;obtain⟨p,ys,rfl,h⟩:=h;obtain⟨u,rfl,rx⟩:=vals1 r;cases rx;rcases h with⟨hq,q⟩|⟨hq,q⟩
 ·obtain⟨its,r',pl,hz⟩:=I.list hq
  have hlen:=r'.length;refine call_tuple_list pl.isList (fun h' kp=>?_) (by simp only [gp] <;> omega);have I1:Inv X pins σ H {s with heap:=h'}:=I.kept (t':=s.toks) kp;have I2:Inv X pins σ (upd H h'.objs.size (.tup ys)) {s with heap:=h'.push {cls:=.type "tuple",data:=.seq its.toArray} }:=
   I1.laid (t':=s.toks) (fun b o e=>gh _ e) (gy _) (show ObjOk X.prog X.w _ _ _ (.tup ys) from⟨hz,its,r',TupX.new _ _⟩)
  exact⟨.ref h'.objs.size,_,I2,rfl,q _ (I1.hok.fresh (gy _))⟩
 ·obtain⟨its,r',pl,hz⟩:=I.tuple hq
  exact call_tuple_same pl ⟨.ref p,H,I,rfl,q⟩
def tyV(K:PySem.W.Frag)(T:String)(x:V)(H:Hp): Prop:=match x with
 | .str _=>T="str"
 | .int _=>T="int"
 | .ref p=>(T="list" /\ ∃xs,SqL K H p xs)\/(T="tuple" /\ ∃o,K.lookup p=some o/\o.cls=.type "tuple" /\ o.dict=none) \/
   (T="dict" /\ ((∃kvs,H p=some (.dK kvs))\/∃kvs,H p=some (.dT kvs)))\/(T="set" /\ ∃S n,H p=some (.set S n))
 | _=>False
theorem qit{pins:List (Addr×Obj)}{σ : St}{H:Hp}{s:Shared}{T:String}{x:V}{v:Value}(I:Inv X pins σ H s)(r:RelV x v)(ty:tyV X.K T x H):
  s.TypeIs v T/\∀a,v=.ref a->∃ob,s.heap.get? a=some ob/\ob.dict=none:=by
 cases x with
 | str z=>
  obtain⟨t,rfl⟩:=r;cases(show T="str" from ty);exact⟨typeIs_str s z t,fun _ e=>nomatch e⟩
 | int i=>
  obtain⟨t,rfl⟩:=r;cases(show T="int" from ty);exact⟨typeIs_int s i t,fun _ e=>nomatch e⟩
 | ref p=>
  cases r;rcases ty with⟨rfl,xs,hq⟩|⟨rfl,o,hk,hc,hd⟩|⟨rfl,hk⟩|⟨rfl,S,n,hk⟩
  ·obtain⟨its,_,pl,_⟩:=I.list hq
   refine⟨pl.isList.typeIs,fun a e=>?_⟩;cases e;obtain⟨o,n,e,c,hd,_⟩:=pl;exact⟨o,e,hd⟩
  ·refine⟨⟨o,I.kIn p o hk,hc⟩,fun a e=>?_⟩
   cases e;exact⟨o,I.kIn _ o hk,hd⟩
  ·have z:∃o,s.heap.get? p=some o/\o.ExactDict:=by
    rcases hk with⟨kvs,hk⟩|⟨kvs,hk⟩
    ·obtain⟨_,_,_,_,o,_,_,e,ex,_⟩:=I.hok p _ hk
     exact⟨o,e,ex⟩
    ·obtain⟨_,_,_,_,o,_,_,e,ex,_⟩:=I.hok p _ hk
     exact⟨o,e,ex⟩
   obtain⟨o,e,ex⟩:=z;refine⟨⟨o,e,ex.1⟩,fun a e2=>?_⟩;cases e2;exact⟨o,e,ex.2.1⟩
  ·obtain⟨o,_,_,_,e,ex,_⟩:=I.hok p _ hk
   refine⟨⟨o,e,ex.1⟩,fun a e2=>?_⟩;cases e2;exact⟨o,e,ex.2.1⟩
 | _=>exact False.elim ty
def tBM(K:PySem.W.Frag)(T:String)(r:V->List V->Hp->VK->Prop)(to:TE)(t:TA): TE:=fun σ H Q=>to σ H fun x H1=>tyV K T x H1/\t σ H1 fun xs H2=>r x xs H2 Q
variable{o e:Expr}{es:List Expr}{to:TE}{t:TA}{name:Str}{apos cpos:Pos}{T id:String}{r:V->List V->Hp->VK->Prop}
theorem qkf(pa:PlainAttrs T)(slot:Slot T name id)(hty:typeOf (.builtin id)=pure (.type "method_descriptor"))(hm:MtR X id r)(ho:PE X o to)(ha:PA X (e :: es) t)
  (hbase:attributeBase o name X.env (eval o X.env)=eval o X.env:=by rfl)
  (hfew:((backTo cpos (starEach (e :: es) X.env)).all (fun x=> !x.1)&&(backToKw cpos (keywordEach [] X.env)).all (fun x=>x.1.isSome)
   && decide ((e :: es).length+([]:List Keyword).length+(if([]:List Keyword).isEmpty then 0 else 1)<30))=true:=by rfl)
  (hline:(apos.endLine==cpos.line)=true:=by rfl) (hs:starEach (e :: es) X.env=(false,eval e X.env) :: starEach es X.env:=by rfl) (hplain:(backTo cpos (starEach es X.env)).any (·.1)=false:=by rfl) :
  PE X (.Call (.Attribute o name apos) (e :: es) [] cpos) (tBM X.K T r to t):=by
 intro pins s σ H Q I h;refine wpAny_Call_method_late hbase hfew hline rfl (thn (ho pins s σ H _ I h) fun v s1 ⟨x,H1,I1,r1,ty,q1⟩=>?_);obtain⟨h1,h2⟩:=qit I1 r1 ty;refine⟨T,id,pa,slot,hty,h1,h2,?_⟩;have hA:=ha cpos pins s1 σ H1 _ I1 q1;rw [hs] at hA ⊢;refine Calls.callWith_builtin (by show(false || (backTo cpos (starEach es X.env)).any (·.1))=false;rw [hplain] <;> rfl) (Calls.evalArgs_plain ?_);exact thn hA fun us s2 ⟨vs,H2,I2,r2,q2⟩=>hm pins s2 σ H2 x vs v us Q I2 r1 r2 q2
end
def MtM(X:Cx)(id:String)(r:V->List V->Hp->VK->Prop): Prop:=
 ∀(pins:List (Addr×Obj)) (s:Shared) (σ : St) (H:Hp) (x:V) (xs:List V) (v:Value) (us:List Value) (Q:VK),Inv X pins σ H s->RelV x v->Vals xs us->r x xs H Q ->
  wpAny (model X.prog X.w) X.A (call (.builtin id) (v :: us)) (EP X pins σ Q) X.xe s
theorem Vals.one:∀ {x:V} {us:List Value},Vals [x] us->∃u,us=[u]/\RelV x u
 | _,_,.cons r .nil=>⟨_,rfl,r⟩
theorem Vals.two:∀ {x y:V} {us:List Value},Vals [x,y] us->∃u v,us=[u,v]/\RelV x u/\RelV y v
 | _,_,_,.cons r (.cons q .nil)=>⟨_,_,rfl,r,q⟩
section
variable{X:Cx}{pins:List (Addr×Obj)}{σ : St}{H:Hp}{s:Shared}{l b:Addr}{xs ys zs:List V}
theorem Inv.lset{its its':List Value}{n:Nat}{f:Array Value->Array Value}{t':Nat}(I:Inv X pins σ H s)(hH:H l=some (.lst xs))
  (e:s.heap.get? l=some {cls:=.type "list",data:=.seq its.toArray n}) (hf:f its.toArray=its'.toArray) (hv:Vals ys its') (hz:ys.length<=sizeLine) :
  Inv X pins σ (upd H l (.lst ys)) {s with heap:=s.heap.update l (Obj.mapSeq f),toks:=t'}:=by
 have q:=PySem.IsL.update e f;rw [hf] at q;refine I.write (x:=l) (e:=l) (by rw [hH];exact trivial) (.inl rfl) (fun b' u hb hu=>(Heap.get?_update_other s.heap (Obj.mapSeq f) (m6 hb)).trans hu) ⟨_,q⟩ ?_;exact⟨hz,its',_,hv,q⟩
theorem Inv.lnew{its:List Value}{t':Nat}(I:Inv X pins σ H s)(hv:Vals ys its)(hz:ys.length<=sizeLine):
  Inv X pins σ (upd H s.heap.objs.size (.lst ys)) {s with heap:=s.heap.push {cls:=.type "list",data:=.seq its.toArray},toks:=t'}:=
 I.laid (fun _ _ q=>gh _ q) (gy _) ⟨hz,its,0,hv,m5 _ rfl⟩
theorem Inv.fresh(I:Inv X pins σ H s): H s.heap.objs.size=none:=I.hok.fresh (gy _)
theorem Inv.lstM(I:Inv X pins σ H s)(hH:H l=some (.lst xs)): xs.length<=sizeLine/\∃(its:List Value) (n:Nat),Vals xs its/\xs.length=its.length/\s.heap.get? l=some {cls:=.type "list",data:=.seq its.toArray n}:=by
 obtain⟨z,its,n,r,e⟩:=I.hok l _ hH;exact⟨z,its,n,r,r.length,e⟩
end
section
variable{X:Cx}
def rAppend:V->List V->Hp->VK->Prop:=fun x vs H Q=>∃l xs y,x=.ref l/\vs=[y]/\H l=some (.lst xs)/\xs.length<sizeLine/\Q .non (upd H l (.lst (xs++[y])))
theorem q75:MtM X "list.append" rAppend:=by
 intro pins s σ H x vs v us Q I rx rv h;obtain⟨l,xs,y,rfl,rfl,hH,hz,q⟩:=h;cases rx;obtain⟨u,rfl,ru⟩:=rv.one;obtain⟨z,its,n,r,hl,e⟩:=I.lstM hH;refine g0k F.slot_list_append ⟨_,e,rfl⟩ F.entry_list_append (F.args_list_append_2 _ _) (PySem.list_append l its.toArray n u (by rw [gp];omega)) ⟨e,?_⟩;refine⟨.non,_,I.lset (its':=its++[u]) hH e (by simp) (r.append (.cons ru .nil)) ?_,rfl,q⟩;rw [m9,g16];omega
end
section
variable{prog:Program}{w:World}{A:Around}{E:Value->Shared->Prop}{s:Shared}
end
section
variable{X:Cx}
end
end L2
namespace Att
open PySem PySem.W PySem.Calls PyProof.Rows
theorem q5g{P:Params}{h:Heap}: ∀(ns:List Int) (vs:List Value),WellAll P h vs (ns.map WData.int)->IntsAre vs ns:=by
 intro ns
 induction ns with
 | nil=>
  intro vs w;rw [g0p] at w;cases w;exact .nil
 | cons n ns ih=>
  intro vs w;rw [ml] at w;cases w with
  | cons a b=>
   cases a;exact .cons _ _ (ih _ b)
theorem qcu{l:OpenLaw}{n:Nat}(hn:l.most=some n){P:Params}{h:Heap}{args:List WData}{vals:List Value}
  (hpre:l.row.toRowW.claim.pre args=true) (hwl:WellAll P h vals args) :
  ∃a vs ns,vals=[Value.ref a]/\args=[WData.list (ns.map WData.int)]/\h.get? a=some {cls:=.type "list",data:=.seq vs.toArray}/\IntsAre vs ns/\ns.length<=n:=by
 have hsh:WShape.hasAll [] args [.list .int]=true:=(pre_splitW hpre).1;have hc:l.pre.holds [] {args:=args}=true:=(pre_splitW hpre).2;obtain⟨d,r,rfl,h1,h2⟩:=hasAllW_cons hsh;obtain rfl:=hasAllW_nil h2;obtain⟨xs,rfl,h3⟩:=hasW_list h1;obtain⟨ns,rfl⟩:=items_int h3;have hlen:ns.length<=n:=by
  unfold OpenLaw.pre at hc;have h4:(WTm.not (.lt (.lit (.int (n:Int))) (.len (.arg 0)))).holds [] {args:=[.list (ns.map .int)]}=true:=by
   have h4:=(holds_andW hc).1;rw [hn] at h4;exact h4
  have h5:=condW_of h4 (w_not (w_lt w_lit (w_len_list (w_arg rfl))));rw [gv] at h5;refine Nat.le_of_not_lt fun q=>?_;have q':(n:Int)<((ns.length:Nat):Int):=by omega
  first
   | (rw [m4 q'] at h5;exact absurd h5 (by decide))
   | (simp at h5;omega)
 cases hwl with
 | cons w1 w2=>
  cases w2;cases w1 with
  | list ho hall=>exact⟨_,_,ns,rfl,rfl,ho,q5g ns _ hall,hlen⟩
theorem qcv(l:OpenLaw)(args:List WData): l.row.toRowW.claim.post args (.bool true) args=true:=
 postW_of (r:=l.row.toRowW) (X:=(true==true))
  (show WShape.has [] (.bool true) .bool=true by first|rfl|decide|simp [WShape.has,WShape.arms,WShape.armsAll])
  (show(WTm.eq .res (.lit (.bool true))).value [] {args:=args,res:=some (.bool true),after:=args}=some (.bool (true==true)) from w_eq_bool (w_res rfl) w_lit) rfl
theorem attach_call{l:OpenLaw}{n:Nat}{q:Program}{loose:List Str}{XP:(Str->Option Value)->Heap->Prop}{YP:World->Heap->Prop}{d:DefRec}
  (hn:l.most=some n) (hdf:d.params.defaults=[])
  (call:∀(w:World) (s₀ s₁:Shared) (mg mb:Str->Option Value) (fa:Addr) (o:Obj) (pm cd doc:Value) (a:Addr) (vs:List Value) (ns:List Int),
   Ground q loose [] XP w s₀ mg mb s₁.heap->YP w s₁.heap ->
   s₁.heap.get? fa=some o->o.data=.func (docDef d.name d.params d.body d.scope pm cd doc)->s₁.heap.CodeRec cd d.name->mg d.name=some (.ref fa) ->
   s₁.heap.get? a=some {cls:=.type "list",data:=.seq vs.toArray}->IntsAre vs ns->ns.length<=n->s₁.gens = #[] ->
   codeAny (model l.prog w) callerA (.call (.ref fa) ⟨[.ref a],[]⟩) (fun r s'=>r=.ok (.ret (.bool true))/\OldK s₁.heap s'.heap/\s'.os=s₁.os/\AllBare s'.gens) s₁) :
  WalkO q loose XP YP l.row.toRowW d [] (fun f vs=>PySem.call f vs):=by
 intro w s₀ s₁ mg mb G Y fa o pm cd doc dV kV ho hd hcd hD hmg hg args vals as hpre hlay hrd hwl hlo;obtain rfl:dV=.none:=Dflts.none hD hdf;obtain rfl:kV=.none:=Dflts.noKw hD;obtain⟨a,vs,ns,rfl,rfl,hobj,hints,hlen⟩:=qcu hn hpre hwl;refine enter_call (g0l (call w s₀ s₁ mg mb fa o pm cd doc a vs ns G Y ho (fd_plain hd) hcd hmg hobj hints hlen hg) fun r s' hq=>?_);obtain⟨rfl,h2,h3,h4⟩:=hq;exact⟨.inl ⟨.bool true,.bool true,[],rfl,fun _=>rfl,.bool true,qcv l _,fun _=>⟨List.Pairwise.nil,fun _ hm=>(nomatch hm)⟩⟩,h2,h3,h4⟩
section
variable{prog:Program}{w:World}{A:Around}{E:Value->Shared->Prop}{s:Shared}{K:Frag}
end
end Att
namespace L2
open PySem PySem.Spec PyProof.Rows
theorem q1j:∀ {vs:List Value} {ns:List Int},IntsAre vs ns->Vals (ns.map V.int) vs
 | _,_,.nil=>.nil
 | _,_,.cons n t h=>.cons ⟨t,rfl⟩ (q1j h)
def qep(H:Hp): Prop:=∀b,H b=none\/∃o xs,H b=some (.frz o (.lst xs))
theorem qeq{P:Program}{w:World}{K:PySem.W.Frag}{mg mb:Str->Option Value}{CX:CXT}{k:Nat}{fa a:Addr}{fd:FuncData}{x:Str}{sp:Sp}{s₁:Shared}{vs:List Value}{ns:List Int}
  (KX:K.In s₁.heap) (hns:s₁.heap.Ns mainGlobals mg) (hb:s₁.heap.Ns builtinsNs mb) (hbb:∀x:Str,x≠"__name__" -> mb x=bootBuiltins x) (hlim:s₁.heap.NoLimit) (hg:s₁.gens = #[])
  (ha:s₁.heap.get? a=some {cls:=.type "list",data:=.seq vs.toArray}) (hi:IntsAre vs ns) (hl:ns.length<=sizeLine) (hr:Room k callerA)
  (F:∀base:Heap,K.In base->base.Ns mainGlobals mg->FnOk P w K mg base CX k fa fd [x] sp) (hbind:∀(s:Shared) (u:Value),BindsTo s fd ⟨[u],[]⟩ [(x,u)])
  (hsp:∀H:Hp,qep H->SqL K H a (ns.map V.int)->sp [.ref a] H (fun v _=>v=.bl true) fun _ _ _=>False)
  (hCX:∀H e s',CX [] H s₁ (fun _ _ _=>False) e s'->False) :
  codeAny (model P w) callerA (.call (.ref fa) ⟨[.ref a],[]⟩) (fun r s'=>r=.ok (.ret (.bool true))/\OldK s₁.heap s'.heap/\s'.os=s₁.os/\AllBare s'.gens) s₁:=by
 have rv:=q1j hi;have lenV:=hi.length
 -- from an abstract heap in which nothing but the script may be tracked
 have core:∀H:Hp,qep H->SqL K H a (ns.map V.int)->HOk P w H s₁.heap->(∀b,H b≠none->b=a)->(H a≠none->K.lookup a=none) ->
   codeAny (model P w) callerA (.call (.ref fa) ⟨[.ref a],[]⟩) (fun r s'=>r=.ok (.ret (.bool true))/\OldK s₁.heap s'.heap/\s'.os=s₁.os/\AllBare s'.gens) s₁:=by
  intro H hO hS hok hA hK;have base_of:∀ {b:Addr} {o:Obj},s₁.heap.get? b=some o->H b=none->(q2f s₁.heap H).get? b=some o:=fun e n=>qeb e n;have noA:∀ {b:Addr} {o:Obj} {es:Array DictEntry} {ep:Nat},s₁.heap.get? b=some o->o.data=.dict es ep->H b=none:=fun {b o es ep} e d=>by
   cases q:H b with
   | none=>rfl
   | some u=>
    have e':b=a:=hA b (by rw [q];simp);subst e';rw [ha] at e;cases e;have d':Data.seq vs.toArray _=Data.dict es ep:=d;cases d'
  have nsK:∀ {b:Addr} {m:Str->Option Value},s₁.heap.Ns b m->(q2f s₁.heap H).Ns b m:=fun {b m} ⟨o,es,ep,e,d,r⟩=>⟨o,es,ep,base_of e (noA e d),d,r⟩
  have hKb:K.In (q2f s₁.heap H):=fun b o e=>base_of (KX b o e) (by
   cases q:H b with
   | none=>rfl
   | some u=>
    have e':b=a:=hA b (by rw [q];simp);subst e';rw [hK (by rw [q];simp)] at e;cases e)
  have hM:Mod K mg (q2f s₁.heap H):=⟨hKb,nsK hns,⟨mb,nsK hb,hbb⟩,let⟨mc,h1,h2⟩:=hlim; ⟨mc,nsK h1,h2⟩⟩
  have e0:Env0 P w K mg (q2f s₁.heap H) callerA [] s₁ H:=⟨rfl,hM,fun b o e=>qgh e,Nat.le_of_eq (qcc _ _),trivial,fun b hb=>absurd (show b∈([]:List Addr) from hb) (by simp),hok,.of_eq hg⟩
  refine g0l ((F _ hKb (nsK hns)).run callerA [] s₁ H ⟨[.ref a],[]⟩ [.ref a] [.ref a] _ _ hr e0 (hbind s₁ (.ref a)) (.cons rfl .nil) (hsp H hO hS)) fun r s' h=>?_;cases r with
  | error e=>exact(hCX H e s' h).elim
  | ok fl=>
   cases fl with
   | next=>exact False.elim h
   | brk=>exact False.elim h
   | cont=>exact False.elim h
   | ret u=>
    obtain⟨v,H',os,bare,un,hok',r',q⟩:=h;have q':v=.bl true:=q;subst q';obtain rfl:u=Value.bool true:=r';refine⟨rfl,OldK.of_keep fun b o e=>?_,os,bare⟩;cases q:H b with
    | none=>exact un.keep b o e q (by intro z;exact absurd (show b∈([]:List Addr) from z) (by simp)) (by simp)
    | some u=>
     rcases hO b with z|⟨ob,xs,z⟩
     ·rw [q] at z;cases z
     ·have z2:=un.frzs b ob _ z
      obtain⟨e1,_⟩:=hok b _ z;obtain⟨e2,_⟩:=hok' b _ z2;rw [e] at e1;cases e1;exact e2
 cases hk:K.lookup a with
 | some o=>
  -- the script is one of the module's own objects
  have e:=KX a o hk;rw [ha] at e;cases e;refine core (fun _=>none) (fun _=>.inl rfl) (.inr ⟨_,vs.toArray,_,hk,rfl,rfl,rfl,by rw [gp,lenV];exact hl,by simpa using rv⟩) (fun b u z=>by have z':(none:Option HO)=some u:=z;cases z') (fun b z=>absurd rfl z) fun z=>absurd rfl z
 | none=>
  refine core (fun b=>if b=a then some (.frz {cls:=.type "list",data:=.seq vs.toArray} (.lst (ns.map V.int))) else none) (fun b=>?_) (.inl (.inr ⟨{cls:=.type "list",data:=.seq vs.toArray},gw rfl⟩)) (fun b u z=>?_) (fun b z=>?_) fun _=>hk
  ·by_cases hb:b=a
   ·exact .inr ⟨_,_,gw hb⟩
   ·exact .inl (m7 hb)
  ·by_cases hb:b=a
   ·have z':=(gw hb).symm.trans z
    cases z';subst hb;exact⟨ha,by rw [gv];exact hl,vs,_,rv,ha⟩
   ·have z':=(m7 hb).symm.trans z
    cases z'
  ·by_cases hb:b=a
   ·exact hb
   ·exact absurd (m7 hb) z
theorem qh1{l:PySem.W.OpenLaw}{n k:Nat}{q:Program}{loose:List Str}{XP:(Str->Option Value)->Heap->Prop}{YP:World->Heap->Prop}{d:DefRec}{K:Params->PySem.W.Frag}{CX:World->CXT}{sp:World->Sp}{x:Str}
  (hn:l.most=some n) (hn2:n<=sizeLine) (hdf:d.params.defaults=[]) (hr:Room k callerA)
  (hY:∀(w:World) (h:Heap),YP w h->(K w.params).In h)
  (F:∀(w:World) (mg:Str->Option Value) (fa:Addr) (h:Heap),(K w.params).In h->h.Ns mainGlobals mg->mg d.name=some (.ref fa) ->
   ∃fd:FuncData,(∀(s:Shared) (u:Value),BindsTo s fd ⟨[u],[]⟩ [(x,u)]) /\
    ∀base:Heap,(K w.params).In base->base.Ns mainGlobals mg->FnOk l.prog w (K w.params) mg base (CX w) k fa fd [x] (sp w))
  (hsp:∀(w:World) (H:Hp) (a:Addr) (ns:List Int),ns.length<=n->qep H->SqL (K w.params) H a (ns.map V.int)->sp w [.ref a] H (fun v _=>v=.bl true) fun _ _ _=>False)
  (hCX:∀(w:World) (H:Hp) (s:Shared) (e:Value) (s':Shared),CX w [] H s (fun _ _ _=>False) e s'->False) :
  PySem.W.WalkO q loose XP YP l.row.toRowW d [] (fun f vs=>PySem.call f vs):=by
 refine Att.attach_call hn hdf fun w s₀ s₁ mg mb fa o pm cd doc a vs ns G Y ho hd hcd hmg hobj hints hlen hg=>?_;have KX:=hY w _ Y;obtain⟨fd,hb,hF⟩:=F w mg fa _ KX G.T.g hmg;exact qeq KX G.T.g G.T.b G.T.builtins G.T.nolimit hg hobj hints (mj hlen hn2) hr hF hb (fun H hO hS=>hsp w H a ns hlen hO hS) fun H e s'=>hCX w H s₁ e s'
def jr(s:Stmt): Arguments:=match s with
 | .FunctionDef _ a _ _ _ _ _ _ _ _=>a
 | _=>{posonlyargs:=[],args:=[],vararg:=none,kwonlyargs:=[],kw_defaults:=[],kwarg:=none,defaults:=[]}
def qo(s:Stmt): List Stmt:=match s with
 | .FunctionDef _ _ b _ _ _ _ _ _ _=>b
 | _=>[]
def qc(s:Stmt): Scope:=match s with
 | .FunctionDef _ _ _ _ _ _ sc _ _ _=>sc
 | _=>{kind:=.function,names:=[],isGenerator:=false,isCoroutine:=false}
abbrev CX0:CXT:=fun _ _ _ _ _ _=>False
abbrev E0:XK:=fun _ _ _=>False
theorem q40{X:Cx}: q0u CX0 X E0:=fun _ _ _ _ _ _ _ h=>h.elim
structure Fun(K:PySem.W.Frag)(x qual:Str)(st:Stmt)(f:Addr)(fd:FuncData): Prop where
 ex:∃(oc:Value) (od:Option Addr) (kV doc pm:Value) (an:Option Addr) (cdv ct:Value) (osl:Array (Option Value)),
  fd=PySem.W.fnOf x qual (jr st) (qo st) (qc st) .none kV doc pm an cdv ct/\K.lookup f=some ⟨oc,od,.func fd,osl⟩/\PySem.W.codeIn K cdv qual=true
 kp:PySem.W.keepIn K (.ref f)=true
section
variable{P:Program}{w:World}{K:PySem.W.Frag}{mg:Str->Option Value}{base:Heap}
end
section
variable{X:Cx}
theorem pv(i:Nat){x:Str}{pos:Pos}(hN:X.N[i]? = some x:=by rfl)(hv:Vis X.env.scope x:=by first|exact Or.inl rfl|exact Or.inr (Or.inl rfl)|exact Or.inr (Or.inr rfl))(hd:(x==("__debug__" : Str))=false:=by decide)
  (hcd:(x==("__classdict__" : Str))=false:=by decide):PE X (.Name x pos) (q2g i):=qhx hN hv hd hcd
end
theorem qlf{A B:Prop}(h:B): if false=true then A else B:=by
 rw [m7 gq];exact h
theorem qlg{A B:Prop}(h:A): if true=true then A else B:=by
 rw [gw rfl];exact h
def Same(H H':Hp): Prop:=∀b o,H b=some o->H' b=some o
theorem Same.refl(H:Hp): Same H H:=fun _ _ h=>h
theorem Same.trans{H H1 H2:Hp}(a:Same H H1)(b:Same H1 H2): Same H H2:=fun c o h=>b c o (a c o h)
theorem Same.free{H H':Hp}(e:Same H H'){l:Addr}(h:H' l=Option.none): H l=Option.none:=by
 cases q:H l with
 | none=>rfl
 | some o=>
  rw [e l o q] at h;cases h
theorem Same.seq{K:PySem.W.Frag}{H H':Hp}{a:Addr}{xs:List V}(e:Same H H')(h:SqL K H a xs): SqL K H' a xs:=by
 rcases h with(h|⟨o,h⟩)|h
 ·exact .inl (.inl (e _ _ h))
 ·exact .inl (.inr ⟨o,e _ _ h⟩)
 ·exact .inr h
theorem q0v(env:Env): ∀(names:List (Str×NameKind)) (acc:List (Str×Addr)),
  (∀y∈names,y.2=.free->∃c,env.cells.lookup y.1=some c)->(∀x c,acc.lookup x=some c->env.cells.lookup x=some c) ->
  ∃ cl,(forIn names acc (fun(x:Str×NameKind) (r:List (Str×Addr))=>(do
    if x.2==NameKind.free then do
     let a <- cellOf env x.1
     pure (ForInStep.yield ((x.1,a) :: r))
    else pure (ForInStep.yield r):Sem (ForInStep (List (Str×Addr))))):Sem (List (Str×Addr)))=pure cl /\
   (∀x c,cl.lookup x=some c->env.cells.lookup x=some c)/\(∀x c,acc.lookup x=some c->∃d,cl.lookup x=some d)/\(∀y∈names,y.2=.free->∃c,cl.lookup y.1=some c)
 | [],acc,_,h2=>⟨acc,rfl,h2,fun x c h=>⟨c,h⟩,fun y hy=>by cases hy⟩
 | (n,k) :: r,acc,h1,h2=>by
  by_cases hk:k=NameKind.free
  ·subst hk
   obtain⟨c,hc⟩:=h1 (n,.free) md rfl;have h2':∀x d,((n,c) :: acc).lookup x=some d->env.cells.lookup x=some d:=fun x d e=>by
    rw [mm] at e
    split at e
    ·rename_i q
     have q':x=n:=by simpa using q
     subst q';cases e;exact hc
    ·exact h2 x d e
   obtain⟨cl,e,a1,a2,a3⟩:=q0v env r ((n,c) :: acc) (fun y hy=>h1 y (gz _ hy)) h2';refine⟨cl,?_,a1,fun x d e2=>?_,fun y hy hf=>?_⟩
   ·rw [ux]
    simp only [beq_self_eq_true,nj];have hco:cellOf env n=pure c:=by unfold cellOf;rw [hc]
    rw [hco];exact e
   ·by_cases q:x=n
    ·subst q
     exact a2 x c (by rw [mm];simp)
    ·exact a2 x d (by rw [mm,show(x==n)=false by simpa using q];exact e2)
   ·rcases mv.mp hy with rfl|hy
    ·exact a2 n c (by rw [mm];simp)
    ·exact a3 y hy hf
  ·obtain⟨cl,e,a1,a2,a3⟩:=q0v env r acc (fun y hy=>h1 y (gz _ hy)) h2
   refine⟨cl,?_,a1,a2,fun y hy hf=>?_⟩
   ·rw [ux]
    have hb:(k==NameKind.free)=false:=by simpa using hk
    simp only [hb,p6,ub];exact e
   ·rcases mv.mp hy with rfl|hy
    ·exact absurd hf hk
    ·exact a3 y hy hf
theorem qbr{scope:Scope}{env:Env}(h:∀y∈scope.names,y.2=.free->∃c,env.cells.lookup y.1=some c):
  ∃cl,closureFor scope env=pure cl/\(∀x c,cl.lookup x=some c->env.cells.lookup x=some c)/\(∀y∈scope.names,y.2=.free->∃c,cl.lookup y.1=some c):=by
 obtain⟨cl,e,a1,_,a3⟩:=q0v env scope.names [] h (fun x c q=>by cases q);refine⟨cl,?_,a1,a3⟩;unfold closureFor;exact(pb (fun m=>m >>= fun r=>(pure r:Sem (List (Str×Addr)))) e).trans rfl
abbrev qcw(ifs:List Expr)(env:Env): Sem Bool:=
 forIn ifs true fun c r=>if r=true then do let ok <- isTrue c env (eval c env);pure (ForInStep.yield ok) else pure (ForInStep.yield r)
def q1r(X:Cx)(ifs:List Expr)(t:TT): Prop:=
 ∀(pins:List (Addr×Obj)) (s:Shared) (σ : St) (H:Hp) (Q:Bool->Hp->Prop),Inv X pins σ H s->t σ H Q->wpAny (model X.prog X.w) X.A (qcw ifs X.env) (TP X pins σ Q) X.xe s
def tTrue:TT:=fun _ H Q=>Q true H
theorem qer{X:Cx}: q1r X [] tTrue:=fun pins s σ H Q I h=>wpAny_tests_nil ⟨H,I,h⟩
theorem qes{X:Cx}{c:Expr}{t:TT}(h:PT X c t): q1r X [c] t:=fun pins s σ H Q I hq=>wpAny_tests_one (h pins s σ H Q I hq)
section
variable{prog:Program}{w:World}{A:Around}{R:Result->Shared->Prop}{s:Shared}
theorem qa7{elt target iter:Expr}{ifs:List Expr}{scope:Scope}{pos:Pos}{it acc:Value}{env:Env}(I:Nat->Shared->Prop)
  (turn:∀n s,I n s->wpAny (model prog w) A (pyNext it) (fun r s₁=>match r with
   | none=>R (.ok .next) s₁
   | some v=>wpAny (model prog w) A (letOwnedTupleGo target it v) (fun _ s'=>wpAny (model prog w) A (assign target env v) (fun _ s₂=>
     wpAny (model prog w) A (qcw ifs env) (fun ok s₃=>
      if ok=true then wpAny (model prog w) A (eval elt env) (fun x s₄=>
       wpAny (model prog w) A (call (.builtin "list.append") [acc,x]) (fun _ s₅=>∃m,m<n/\I m s₅) (fun _ _=>False) s₄) (fun _ _=>False) s₃
      else ∃m,m<n/\I m s₃) (fun _ _=>False) s₂) (fun _ _=>False) s') (fun _ _=>False) s₁) (fun _ _=>False) s)
  (n:Nat) (h:I n s) :
  codeAny (model prog w) A (.compLoop (.ListComp elt [⟨target,iter,ifs,0⟩] scope pos) 0 it acc env) R s:=by
 refine codeAny_loop rfl I (fun n s hI=>?_) n h;show wpAny _ A ((compTurn (.ListComp elt [⟨target,iter,ifs,0⟩] scope pos) 0 it acc env).onRaise (fun x=>do noteFrame x env;theTreesLotGoes x)) _ _ s;refine wpAny_noted ?_;rw [compTurn_list];refine g9 (wpAny_standAt (g9 (p5 (turn n s hI) (fun r s₁ h₁=>?_) fun _ _ h'=>h'.elim)));cases r with
 | none=>exact gi h₁
 | some v=>
  refine g9 (p5 h₁ (fun _ s' h'=>?_) fun _ _ h'=>h'.elim);refine g9 (p5 h' (fun _ s₂ h₂=>g9 (p5 h₂ (fun ok s₃ h₃=>?_) fun _ _ h'=>h'.elim)) fun _ _ h'=>h'.elim);cases ok with
  | false=>exact gi ⟨rfl,h₃⟩
  | true=>
   exact g9 (g9 (p5 h₃ (fun x s₄ h₄=>g9 (p5 h₄ (fun _ s₅ h₅=>gi (gi ⟨rfl,h₅⟩)) fun _ _ h'=>h'.elim)) fun _ _ h'=>h'.elim))
end
abbrev xp(X:Cx)(N':List Str)(scope:Scope)(cl:List (Str×Addr))(C:Addr)(s₀:Shared)(H₀:Hp)(fp:List Addr): Cx:=
 {X with N:=N',env:=compEnvC scope cl C X.env,s₀:=s₀,H₀:=H₀,outer:=X.stack,ex:=fp,fn:=fun _=>false,pn:=[],xe:=fun _ _=>False}
structure CapOk(X:Cx)(N':List Str)(scope:Scope)(cap:List (Option Nat)): Prop where
 kind:scope.kind=.function
 cell:∀y∈scope.names,y.2 ≠ .cell
 names:∀y∈scope.names,y.2=.local->scope.names.lookup y.1=some .local
 frees:∀y∈scope.names,y.2=.free->X.env.kindOf y.1=some .cell\/X.env.kindOf y.1=some .free
 len:cap.length=N'.length
 cap:∀(i j:Nat),cap[i]? = some (some j)->∃x,N'[i]? = some x/\X.N[j]? = some x/\scope.names.lookup x=some .free
def q6d(cap:List (Option Nat))(σ : St): St:=cap.map fun o=>o.bind fun j=>(σ[j]?).join
theorem lookup_mem{α β : Type}[BEq α][LawfulBEq α]{l:List (α × β)}{a : α}{b : β}(h:l.lookup a=some b): (a,b)∈l:=by
 induction l with
 | nil=>cases h
 | cons p r ih=>
  obtain⟨x,y⟩:=p;rw [mm] at h
  split at h
  ·rename_i q
   have q':a=x:=by simpa using q
   subst q';cases h;exact md
  ·exact gz _ (ih h)
theorem q0w{env:Env}: ∀ {names:List (Str×NameKind)} {x:Str} {k:NameKind},(names.map fun(n,k)=>if(k==NameKind.free&&env.scope.kind == .function&&env.kindOf n==some .cell) then(n,NameKind.cell) else(n,k)).lookup x=some k ->
  (names.lookup x=some k)\/(k=.cell/\names.lookup x=some .free)
 | [],_,_,h=>by cases h
 | (n,k0) :: r,x,k,h=>by
  have ih:=@q0w env r x k;have h':List.lookup x ((if(k0==NameKind.free&&env.scope.kind == .function&&env.kindOf n==some .cell)=true then(n,NameKind.cell) else(n,k0)) :: _)=some k:=h
  by_cases hc:(k0==NameKind.free&&env.scope.kind == .function&&env.kindOf n==some .cell)=true
  ·rw [gw hc,mm] at h'
   have hf:k0=.free:=by
    simp only [mi,pk] at hc;exact hc.1.1
   cases q:x==n with
   | true=>rw [q] at h';cases h';exact .inr ⟨rfl,by rw [mm,q,hf]⟩
   | false=>rw [q] at h';rw [mm,q];exact ih h'
  ·rw [m7 hc,mm] at h'
   cases q:x==n with
   | true=>rw [q] at h';rw [mm,q];exact .inl h'
   | false=>rw [q] at h';rw [mm,q];exact ih h'
theorem q36{env:Env}: ∀ {names:List (Str×NameKind)} {x:Str},names.lookup x=some .free ->
  (names.map fun(n,k)=>if(k==NameKind.free&&env.scope.kind == .function&&env.kindOf n==some .cell) then(n,NameKind.cell) else(n,k)).lookup x=some .cell \/
  (names.map fun(n,k)=>if(k==NameKind.free&&env.scope.kind == .function&&env.kindOf n==some .cell) then(n,NameKind.cell) else(n,k)).lookup x=some .free
 | [],_,h=>by cases h
 | (n,k0) :: r,x,h=>by
  have ih:=@q36 env r x;show List.lookup x ((if(k0==NameKind.free&&env.scope.kind == .function&&env.kindOf n==some .cell)=true then(n,NameKind.cell) else(n,k0)) :: _)=_\/List.lookup x ((if(k0==NameKind.free&&env.scope.kind == .function&&env.kindOf n==some .cell)=true then(n,NameKind.cell) else(n,k0)) :: _)=_;rw [mm] at h
  by_cases hc:(k0==NameKind.free&&env.scope.kind == .function&&env.kindOf n==some .cell)=true
  ·rw [gw hc,mm]
   cases q:x==n with
   | true=>exact .inl rfl
   | false=>rw [q] at h;exact ih h
  ·rw [m7 hc,mm]
   cases q:x==n with
   | true=>rw [q] at h;exact .inr h
   | false=>rw [q] at h;exact ih h
section
variable{X:Cx}{pins:List (Addr×Obj)}{σ : St}{H:Hp}{s:Shared}{N':List Str}{scope:Scope}{cap:List (Option Nat)}{cl:List (Str×Addr)}{fp:List Addr}
theorem qet(I:Inv X pins σ H s)(co:CapOk X N' scope cap)(h1:∀x c,cl.lookup x=some c->X.env.cells.lookup x=some c)(h2:∀y∈scope.names,y.2=.free->∃c,cl.lookup y.1=some c)
  (hf:∀b∈fp,k7 X pins H b) (ho:∀b∈fp,∃o,s.heap.get? b=some o) {h':Heap} {t':Nat} {m:Str->Option Value} (hn:h'.Ns s.heap.objs.size m) (hk:∀b o,s.heap.get? b=some o->h'.get? b=some o) :
  Inv (xp X N' scope cl s.heap.objs.size s H fp) [] (q6d cap σ) H {s with heap:=h',toks:=t'}:=by
 have flt:∀b∈fp,b<s.heap.objs.size:=fun b hb=>let⟨o,e⟩:=ho b hb;gs e
 refine⟨⟨I.ok.mod,co.kind,I.ok.glob,I.ok.blt,gy _,fun x y c e1 e2=>I.ok.inj x y c (h1 x c e1) (h1 y c e2),fun x hx=>?_,fun x c z _=>(nomatch z),I.ok.hd,I.ok.frames,.inl rfl,fun b hb=>?_,I.bs,mj I.ok.bsz I.sz,fun b o e hb=>?_,fun b hb z=>?_,I.stack,I.stkFree⟩,
  rfl,I.bare,Un.kept hk,⟨m,hn,fun i x v e1 e2 e3=>?_⟩,fun x c e=>?_,I.hok.fresh (gy _),fun x c e=>I.freeC x c (h1 x c e),fun p hp=>(nomatch hp),I.hok.kept hk,?_⟩
 ·have hx':(relabel scope X.env).names.lookup x=some .cell\/(relabel scope X.env).names.lookup x=some .free:=hx
  have hfree:scope.names.lookup x=some .free:=by
   rcases hx' with q|q
   ·rcases q0w q with z|⟨_,z⟩
    ·exact absurd rfl (co.cell _ (lookup_mem z))
    ·exact z
   ·rcases q0w q with z|⟨z,_⟩
    ·exact z
    ·cases z
  exact h2 (x,.free) (lookup_mem hfree) rfl
 ·obtain⟨f0,f1,f2,f3,f4,f5⟩:=hf b hb
  exact⟨mh (flt b hb),fun x c e=>f4 x c (h1 x c e)⟩
 ·obtain⟨f0,f1,f2,f3,f4,f5⟩:=hf b hb
  rcases f3 with z|z
  ·exact I.ok.noex b o e z
  ·exact absurd (m8 (gs e) (mj I.ok.bsz z)) (ph _)
 ·obtain⟨f0,f1,f2,f3,f4,f5⟩:=hf b hb
  rcases mv.mp (I.stkSub b z) with q|q
  ·exact f1 q
  ·exact f2 q
 ·-- a captured name
  have e2':(cap.map fun o=>o.bind fun j=>(σ[j]?).join)[i]? = some (some v):=e2;rw [ma] at e2';cases q:cap[i]? with
  | none=>rw [q] at e2';cases e2'
  | some o=>
   rw [q] at e2';cases o with
   | none=>cases e2'
   | some j=>
    obtain⟨y,a1,a2,a3⟩:=co.cap i j q;have e1':N'[i]? = some x:=e1;rw [a1] at e1';obtain rfl:y=x:=mn e1';have ej:(σ[j]?).join=some v:=by
     have:=e2';simp only [gx,gc,g0h] at this;exact this
    have ej' : σ[j]? = some (some v):=by
     cases z : σ[j]? with
     | none=>rw [z] at ej;cases ej
     | some u=>rw [z] at ej;simp only [um] at ej;rw [ej]
    have kd:=co.frees (y,.free) (lookup_mem a3) rfl;obtain⟨m0,hn0,hl0⟩:=I.loc;have vis:Vis X.env.scope y:=by
     rcases kd with k|k
     ·exact .inr (.inl k)
     ·exact .inr (.inr k)
    obtain⟨u,ru,lk⟩:=hl0 j y v a2 ej' vis;refine⟨u,ru,.inr ⟨q36 a3,?_⟩⟩;obtain⟨c,hc⟩:=h2 (y,.free) (lookup_mem a3) rfl;rcases lk with⟨k,_⟩|⟨_,c',hc',z⟩
    ·rcases kd with k'|k'
     ·rw [k] at k';cases k'
     ·rw [k] at k';cases k'
    ·have:=h1 _ _ hc
     rw [hc'] at this;obtain rfl:c'=c:=mn this;obtain⟨o,eo,ed⟩:=z;exact⟨c',hc,o,hk _ _ eo,ed⟩
 ·obtain⟨v,o,eo,ed⟩:=I.cell x c (h1 x c e)
  exact⟨v,o,hk _ _ eo,ed⟩
 ·show(cap.map _).length=N'.length
  rw [gv];exact co.len
theorem qbs{N':List Str}{C:Addr}{H':Hp}{s':Shared}{σ':St}{h':Heap}(I:Inv X pins σ H s)(hf:∀b∈fp,k7 X pins H b)(J:Inv (xp X N' scope cl C s H fp) [] σ' H' s')(hs:Heap.SameBut C s'.heap h'):
  Inv X pins σ H' {s' with heap:=h'}:=by
 have hC:s.heap.objs.size<=C:=J.ok.above;have kp:∀b o,b≠C->s'.heap.get? b=some o->h'.get? b=some o:=fun b o hb e=>(hs.2 b hb).trans e;have hC0:H' C=none:=J.free;have un:Un (frs X.stack) fp H H' s.heap h':=by
  have u:Un (frs X.stack) fp H H' s.heap s'.heap:=J.base;have neC:∀b o,s.heap.get? b=some o->b≠C:=fun b o e=>mh (m8 (gs e) hC);exact⟨fun b o e n h1 h2=>kp b o (neC b o e) (u.keep b o e n h1 h2),fun b o e n h1 h2=>let⟨sl,q⟩:=u.slot b o e n h1 h2; ⟨sl,kp b _ (neC b o e) q⟩,u.free,fun b o e h=>let⟨o',q⟩:=u.there b o e h; ⟨o',kp b o' (neC b o e) q⟩,u.tups,u.frzs,u.tbls⟩
 have hok:HOk X.prog X.w H' h':=fun b u e=>by
  refine(J.hok b u e).stay (fun c v hc q=>kp c v ?_ q) (fun _ q=>q) fun _ _ q=>q;rcases hc with z|z
  ·rw [z];intro z2;rw [z2,hC0] at e;cases e
  ·intro z2;rw [z2,hC0] at z;cases z
 exact I.call' (s':={s' with heap:=h'}) (ch:=fp) J.os un hok J.bare fun b hb=>by
  obtain⟨f0,f1,f2,f3,f4,f5⟩:=hf b hb;exact⟨f3,f1,f4,f5⟩
end
def qiu(J:It)(cap:List (Option Nat))(g:TG)(tc:TT)(te:TE)(σ : St)(H1:Hp)(p:Addr)(K:Hp->Prop): Prop:=
 ∃ W:Nat->Nat->St->Hp->Prop,(∃m,W 0 m (q6d cap σ) (upd H1 p (.lst [])))/\∀i m σ' H',W i m σ' H' ->
  (J.stop i H'/\K H')\/(J.go i H'/\∀x H'',J.yld i H' x H''->g x σ' H'' fun σ2 H2=>tc σ2 H2 fun b H3=>
   if b=true then te σ2 H3 fun y H4=>∃xs,H4 p=some (.lst xs)/\xs.length<sizeLine/\∃m',m'<m/\W (i+1) m' σ2 (upd H4 p (.lst (xs++[y])))
   else ∃m',m'<m/\W (i+1) m' σ2 H3)
def qg6(wi:TI)(cap:List (Option Nat))(g:TG)(tc:TT)(te:TE): TE:=fun σ H Q=>wi σ H fun J H1=>∀p,H1 p=none->qiu J cap g tc te σ H1 p (Q (.ref p))
section
variable{X:Cx}{N':List Str}{scope:Scope}{cap:List (Option Nat)}{tg iter elt:Expr}{ifs:List Expr}{wi:TI}{g:TG}{tc:TT}{te:TE}{pos:Pos}
theorem qcx{cl:List (Str×Addr)}{pins:List (Addr×Obj)}{s:Shared}{σ : St}{H:Hp}{it:Addr}{fp:List Addr}{tn:Nat->Heap->Prop}{J:It}{E:Value->Shared->Prop}{K:Addr->Hp->Prop}
  {RR:Value->Addr->Result->Shared->Prop} (hc:X.calm=true) (co:CapOk X N' scope cap)
  (h1:∀x c,cl.lookup x=some c->X.env.cells.lookup x=some c) (h2:∀y∈scope.names,y.2=.free->∃c,cl.lookup y.1=some c)
  (hg:∀cl C s₀ H₀ fp,PG (xp X N' scope cl C s₀ H₀ fp) tg g) (hcs:∀cl C s₀ H₀ fp,q1r (xp X N' scope cl C s₀ H₀ fp) ifs tc) (he:∀cl C s₀ H₀ fp,PE (xp X N' scope cl C s₀ H₀ fp) elt te)
  (I:Inv X pins σ H s) (T:Turn X.prog X.w X.K tg J fp it tn) (st:tn 0 s.heap) (hf:∀b∈fp,k7 X pins H b) (h:∀p,H p=none->qiu J cap g tc te σ H p (K p))
  (hRR:∀(D C:Addr) (s':Shared) (H':Hp),s.heap.objs.size<=C->(∃m,s'.heap.Ns C m)->(∀h',Heap.SameBut C s'.heap h'->Inv X pins σ H' {s' with heap:=h'})->H' C=none->K D H'->RR (.ref D) C (.ok .next) s') :
  wpAny (model X.prog X.w) X.A (newList []) (fun acc s₃=>wpAny (model X.prog X.w) X.A (newFunctionEnv scope X.env.globals cl [] X.env.qual none .none (some X.env)) (fun cenv s₄=>
   codeAny (model X.prog X.w) X.A (.compStart (.ListComp elt [⟨tg,iter,ifs,0⟩] scope pos) 0 (.ref it) acc {cenv with scope:=relabel scope X.env}) (RR acc cenv.locals) s₄) E s₃) E s:=by
 refine nt (wpAny_newFunctionEnv co.cell (by intro y hy;simp at hy) (fun hh hns hsb=>?_) co.kind);have hD:H s.heap.objs.size=none:=I.fresh;have I3:Inv X pins σ (upd H s.heap.objs.size (.lst [])) {s with heap:=s.heap.push {cls:=.type "list",dict:=none,data:=.seq ([]:List Value).toArray} }:=I.lnew (ys:=[]) (its:=[]) (t':=s.toks) .nil (g11 _);obtain⟨W,⟨m0,w0⟩,turn⟩:=h s.heap.objs.size hD;have fobj:∀b∈fp,∃o,s.heap.get? b=some o:=fun b hb=>let⟨o,e,_⟩:=T.obj 0 _ st b hb; ⟨o,e⟩
 generalize e3:({s with heap:=s.heap.push {cls:=.type "list",dict:=none,data:=.seq ([]:List Value).toArray} }:Shared)=s3 at I3;have es3:s3.heap=s.heap.push {cls:=.type "list",dict:=none,data:=.seq ([]:List Value).toArray}:=by rw [<- e3]
 have eC:(s.heap.push {cls:=.type "list",dict:=none,data:=.seq ([]:List Value).toArray}).objs.size=s3.heap.objs.size:=by rw [es3]
 have hf3:∀b∈fp,k7 X pins (upd H s.heap.objs.size (.lst [])) b:=fun b hb=>by
  obtain⟨f0,f1⟩:=hf b hb;obtain⟨o,e⟩:=fobj b hb;exact⟨by rw [ql (mh (gs e))];exact f0,f1⟩
 have kp:∀b o,s3.heap.get? b=some o->hh.get? b=some o:=fun b o e=>by
  refine hsb.extBut b o ?_ (gh _ (by rw [<- es3];exact e));show b≠(s.heap.push {cls:=.type "list",dict:=none,data:=.seq ([]:List Value).toArray}).objs.size;rw [eC];exact mh (gs e)
 have hle:s.heap.objs.size<=s3.heap.objs.size:=by rw [es3,ny];exact Nat.le_succ _
 have s3e:∀t:Nat,({s with heap:=hh,toks:=t}:Shared) = {s3 with heap:=hh,toks:=t}:=fun t=>by rw [<- e3]
 have I4:Inv (xp X N' scope cl s3.heap.objs.size s3 (upd H s.heap.objs.size (.lst [])) fp) [] (q6d cap σ) (upd H s.heap.objs.size (.lst [])) {s3 with heap:=hh,toks:=s.toks+([]:List (Str×Value)).length}:=
  qet I3 co h1 h2 hf3 (fun b hb=>let⟨o,e⟩:=fobj b hb; ⟨o,by rw [es3];exact gh _ e⟩) (by rw [<- eC];exact hns) kp
 have st4:tn 0 hh:=T.keep 0 _ _ st fun b hb o e=>kp b o (by rw [es3];exact gh _ e);have etk:s3.toks+([]:List (Str×Value)).length=s.toks+([]:List (Str×Value)).length:=by rw [<- e3]
 show codeAny (model X.prog X.w) X.A (.compStart (.ListComp elt [⟨tg,iter,ifs,0⟩] scope pos) 0 (.ref it) (.ref s.heap.objs.size) (compEnvC scope cl s3.heap.objs.size X.env)) (RR (.ref s.heap.objs.size) s3.heap.objs.size)
  {s3 with heap:=hh,toks:=s3.toks+([]:List (Str×Value)).length}
 rw [etk];generalize eX:xp X N' scope cl s3.heap.objs.size s3 (upd H s.heap.objs.size (.lst [])) fp=X' at I4;have hg':PG X' tg g:=by rw [<- eX];exact hg _ _ _ _ _
 have hcs':q1r X' ifs tc:=by rw [<- eX];exact hcs _ _ _ _ _
 have he':PE X' elt te:=by rw [<- eX];exact he _ _ _ _ _
 have eenv:X'.env=compEnvC scope cl s3.heap.objs.size X.env:=by rw [<- eX]
 have exe:X'.xe=fun _ _=>False:=by rw [<- eX]
 have eex:X'.ex=fp:=by rw [<- eX]
 have eprog:X'.prog=X.prog:=by rw [<- eX]
 have ew:X'.w=X.w:=by rw [<- eX]
 have eK:X'.K=X.K:=by rw [<- eX]
 have eA:X'.A=X.A:=by rw [<- eX]
 have ecalm:X'.calm=true:=by rw [<- eX];exact hc
 have epn:X'.pn=[]:=by rw [<- eX]
 have eloc:X'.env.locals=s3.heap.objs.size:=by rw [eenv];rfl
 have ok':=I4.ok;have stat:∀ {H':Hp},(∀b∈fp,H' b=none)->∀b∈fp,k7 X' [] H' b:=fun hn b hb=>by
  have hbx:b∈X'.ex:=by rw [eex];exact hb
  exact⟨hn b hb,(ok'.exf b hbx).1,ok'.exfs b hbx,.inl hbx,(ok'.exf b hbx).2,fun p hp=>by rw [epn] at hp;cases hp⟩
 have back:∀ {σ':St} {H':Hp} {s':Shared},Inv X' [] σ' H' s'->K s.heap.objs.size H'->RR (.ref s.heap.objs.size) s3.heap.objs.size (.ok .next) s':=fun {σ' H' s'} J' k=>by
  refine hRR _ _ _ H' hle ?_ (fun h' hs'=>?_) ?_ k
  ·obtain⟨m,hm,_⟩:=J'.loc
   exact⟨m,by rw [<- eloc];exact hm⟩
  ·rw [<- eX] at J'
   exact qbs I3 hf3 J' hs'
  ·rw [<- eloc];exact J'.free
 have loop:codeAny (model X.prog X.w) X.A (.compLoop (.ListComp elt [⟨tg,iter,ifs,0⟩] scope pos) 0 (.ref it) (.ref s.heap.objs.size) (compEnvC scope cl s3.heap.objs.size X.env)) (RR (.ref s.heap.objs.size) s3.heap.objs.size)
   {s3 with heap:=hh,toks:=s.toks+([]:List (Str×Value)).length}:=by
  refine qa7 (fun n s'=>∃i σ' H',Inv X' [] σ' H' s'/\tn i s'.heap/\(∀b∈fp,H' b=none)/\W i n σ' H') ?_ m0 ⟨0,_,_,I4,st4,fun b hb=>(hf3 b hb).1,w0⟩
  rintro n s5 ⟨i, σ5,H5,I5,st5,fr5,w5⟩
  rw [<- eenv];rcases turn i n σ5 H5 w5 with⟨stop,qn⟩|⟨go,step⟩
  ·have:=T.done X' eprog ew eK ecalm i [] s5 σ5 H5 (fun _ _=>False) I5 (stat fr5) st5 stop
   rw [eA] at this;refine thn this fun r s6 ⟨hr,I6⟩=>?_;subst hr;exact back I6 qn
  ·have:=T.item X' eprog ew eK ecalm i [] s5 σ5 H5 (fun _ _=>False) I5 (stat fr5) st5 go
   rw [eA] at this;refine thn this fun r s6 ⟨u,hr,h6⟩=>?_;subst hr;refine thn h6 fun _ s7 ⟨x,H7,I7,r7,y7,st7,fr7⟩=>?_;have I7':=I7.pinned (stat fr7) (T.obj _ _ st7);have hg2:=hg' _ s7 σ5 H7 x u _ I7' r7 (step x H7 y7);rw [exe,eprog,ew,eA] at hg2;refine thn hg2 fun _ s8 ⟨σ8,H8,I8,q8⟩=>?_;have hc2:=hcs' _ s8 σ8 H8 _ I8 q8;rw [exe,eprog,ew,eA] at hc2;refine thn hc2 fun ok s9 ⟨H9,I9,q9⟩=>?_;have again:∀ {H':Hp} {s':Shared} {m':Nat},Inv X' ([]++q21 fp s7.heap) σ8 H' s'->m'<n->W (i+1) m' σ8 H'->∃m,m<n/\∃i σ' H',Inv X' [] σ' H' s'/\tn i s'.heap/\(∀b∈fp,H' b=none)/\W i m σ' H':=fun {H' s' m'} J' hm w'=>by
    refine⟨m',hm,i+1, σ8,H',J'.unpinned,T.keep _ _ _ st7 fun b hb o e=>(J'.pin (b,o) (mr _ (mr _ (q0l hb e)))).1,fun b hb=>?_,w'⟩;obtain⟨o,e,d⟩:=T.obj _ _ st7 b hb;exact(J'.pin (b,o) (mr _ (mr _ (q0l hb e)))).2.1
   cases ok with
   | false=>
    rw [m7 gq] at q9 ⊢;obtain⟨m',hm,w'⟩:=q9;exact again I9 hm w'
   | true=>
    rw [gw rfl] at q9 ⊢;have he2:=he' _ s9 σ8 H9 _ I9 q9;rw [exe,eprog,ew,eA] at he2;refine thn he2 fun y s10 ⟨yv,H10,I10,r10,xs,hp,hz,m',hm,w'⟩=>?_;have ha2:=q75 (X:=X') ([]++q21 fp s7.heap) s10 σ8 H10 (.ref s.heap.objs.size) [yv] (.ref s.heap.objs.size) [y] (fun _ H'=>H'=upd H10 s.heap.objs.size (.lst (xs++[yv]))) I10 rfl (.cons r10 .nil) ⟨_,xs,yv,rfl,rfl,hp,hz,rfl⟩;rw [exe,eprog,ew,eA] at ha2;refine thn ha2 fun _ s11 ⟨_,H11,I11,_,e11⟩=>?_;subst e11;exact again I11 hm w'
 exact codeAny_compStart_list loop (T.self _ 0 _ _ _ st4 loop)
theorem qh2(hc:X.calm=true)(co:CapOk X N' scope cap)(hi:PI X tg iter wi)
  (hg:∀cl C s₀ H₀ fp,PG (xp X N' scope cl C s₀ H₀ fp) tg g) (hcs:∀cl C s₀ H₀ fp,q1r (xp X N' scope cl C s₀ H₀ fp) ifs tc) (he:∀cl C s₀ H₀ fp,PE (xp X N' scope cl C s₀ H₀ fp) elt te)
  (hs:∀x,foldedSetIterable iter X.env x=pure x:=by intro _;rfl):PE X (.ListComp elt [⟨tg,iter,ifs,0⟩] scope pos) (qg6 wi cap g tc te):=by
 intro pins s σ H Q I h;obtain⟨cl,ecl,c1,c2⟩:=qbr (scope:=scope) (env:=X.env) fun y hy hf=>I.ok.has y.1 (co.frees y hy hf);rw [eval_ListComp];refine wpAny_comprehension_free (use:=none) rfl hs ecl co.kind co.names (p5 (hi pins s σ H _ I h) (fun v s1 h1=>p5 h1 (fun itv s2 h2=>?_) fun _ _ e=>e) fun _ _ e=>e);obtain⟨it,fp,tn,J,H2,rfl,I2,T,st2,f2,h2⟩:=h2;refine qcx (K:=fun p=>Q (.ref p)) (RR:=fun acc C=>compPost (model X.prog X.w) X.A X.xe none (EP X pins σ Q) acc C) hc co c1 c2 hg hcs he I2 T st2 f2 h2 ?_;intro D C s' H' hle ⟨m,hm⟩ hI hC q;exact⟨m,hm,fun h' hs'=>⟨.ref D,H',hI h' hs',rfl,q⟩⟩
end
section
variable{X:Cx}{N':List Str}{scope:Scope}{cap:List (Option Nat)}{tg iter elt:Expr}{ifs:List Expr}{wi:TI}{g:TG}{tc:TT}{te:TE}{pos:Pos}
end
end L2
namespace DL
open PySem PySem.Spec PyProof.Rows L2
structure ExcC(K:PySem.W.Frag)(D:Addr): Prop where
 ga:PySem.W.findIn K (.ref D) "__getattribute__" = some (some (.builtin "BaseException.__getattribute__"))
 gk:PySem.W.findIn K (.ref D) "__getattr__" = some none
 cc:PySem.W.findIn K (.ref D) "__class__" = some (some (.builtin "object.__class__"))
 cs:PySem.W.specialIn K (.builtin "object.__class__") "__get__" = some (some (.builtin "getset_descriptor.__get__"))
 ct:PySem.W.takesIn K (.builtin "object.__class__")=some true
 cm:PySem.W.mroIn K D (.type "object")=some true
 cb:PySem.W.mroIn K D (.type "BaseException")=some true
section
variable{prog:Program}{w:World}{A:Around}{E:Value->Shared->Prop}{K:PySem.W.Frag}{s:Shared}{x D:Addr}{ox:Obj}
open PySem.W in
theorem qar(c:ExcC K D): (clsIn K D).isSome=true:=by
 have:=c.cm;unfold mroIn at this;cases q:clsIn K D with
 | none=>rw [q] at this;cases this
 | some cd=>rfl
def XE(a C:Addr)(h:Heap): Prop:=∃o vs,h.get? a=some o/\o.cls=.ref C/\o.data=.fields vs
open PySem.W in
theorem q23{M:Model}{a C:Addr}{h:Heap}(e:XE a C h): Looks M h (typeOf (.ref a)) (.ref C):=by
 obtain⟨o,vs,e1,e2,e3⟩:=e;exact e2 ▸ (Looks.ld e1).andThen .now
open PySem.W Builtin.ObjectAttr in
theorem qh3{M:Model}{h:Heap}(c:ExcC K D)(X:K.In h): Looks M h (find (.ref x) (.ref D) "__class__") (.bind (.builtin "getset_descriptor.__get__") (.builtin "object.__class__")):=by
 refine(looks_findIn (M:=M) X c.cc).andThen ((looks_specialIn (M:=M) X c.cs).andThen ?_);exact(show Looks M h (dataDescriptor? (some (.builtin "object.__class__")) (some (.builtin "getset_descriptor.__get__"))) (some (.builtin "getset_descriptor.__get__",.builtin "object.__class__")) from(looks_takesIn (M:=M) X c.ct).andThen .now).andThen (Looks.tag .now)
open PySem.W Builtin Builtin.ObjectAttr Builtin.Getset_descriptor in
theorem qiv{tp:Value}{R:Result->Shared->Prop}(c:ExcC K D)(X:K.In s.heap)(I:XE x D s.heap)(h:R (.ok (.ret (.ref D))) s):
  codeAny (model prog w) A (.call (.builtin "getset_descriptor.__get__") ⟨[.builtin "object.__class__",.ref x,tp],[]⟩) R s:=by
 obtain⟨hh,g,dr,t,os⟩:=s;have L0:=q23 (M:=model prog w) I;have L1:=looks_mroIn (M:=model prog w) X c.cm;refine codeAny_call_builtin KF.slot_gs.plain KF.entry_gs (KF.slot_gs.check _ _ _ _ _ _ _ _ KF.type_class (KF.args_gs _ _ _) ?_);unfold Builtin.«getset_descriptor.__get__» descrGet;rw [dga_obj];refine g9 (gi ?_);unfold descrGetter descrCheckInstance descrNameAndClass isInstance;simp only [KF.owner_class]
 repeat lk
 refine⟨Code.quiet_builtin _ (by decide +kernel),codeAny_builtin KF.entry_class ?_⟩;unfold Builtin.«object.__class__» shownTypeOf
 repeat lk
 exact h
open PySem.W in
theorem qeu{tk:Tok}{Q:Fin->Shared->Prop}(c:ExcC K D)(X:K.In s.heap)(I:XE x D s.heap)(hq:Q (.done (.ret (.ref D))) s):
  wpAny (model prog w) A (Builtin.«object.__getattribute__» ⟨[.ref x,.str "__class__" tk],[]⟩) Q E s:=by
 obtain⟨hh,g,dr,t,os⟩:=s;have L0:=q23 (M:=model prog w) I;have L1:=qh3 (x:=x) (M:=model prog w) c X;unfold Builtin.«object.__getattribute__»;refine g9 (gi (g9 (gi (g9 (L0.at (g9 (L1.at ?_)))))));show wpAny _ _ (Builtin.ObjectAttr.bindTo _ _ _ _) _ _ _;unfold Builtin.ObjectAttr.bindTo;refine g9 (ni (wpAny_call (qiv c X I ?_)));exact gi hq
open PySem.W in
theorem qev{M:Model}{nameV:Value}{Q:Unit->Shared->Prop}(c:ExcC K D)(X:K.In s.heap)(I:XE x D s.heap)(hq:Q () s): wpAny M A (checkBuiltinCall "BaseException.__getattribute__" ⟨[.ref x,nameV],[]⟩) Q E s:=by
 obtain⟨hh,g,dr,t,os⟩:=s;have L0:=q23 (M:=M) I;have L1:=looks_mroIn (M:=M) X c.cb;have hk:builtinKind "BaseException.__getattribute__" = some .slot:=by decide +kernel
 have hsplit:splitId "BaseException.__getattribute__" = some ("BaseException","__getattribute__"):=by decide +kernel
 have ha:=F.args_bexc_ga (.ref x) nameV;simp only [checkBuiltinCall,hk,hsplit];refine g9 ?_;unfold isInstance;refine g9 (L0.at (L1.at ?_))
 repeat (first|wp_step)
 exact hq
open PySem.W in
theorem qew{Q:Option Value->Shared->Prop}(c:ExcC K D)(X:K.In s.heap)(I:XE x D s.heap)(h:Q (some (.ref D)) {s with toks:=s.toks+1}): wpAny (model prog w) A (getAttr? (.ref x) "__class__") Q E s:=by
 obtain⟨hh,g,dr,t,os⟩:=s;have L0:=q23 (M:=model prog w) I;have L1:=looks_findIn (M:=model prog w) X c.ga;have L2:=looks_findIn (M:=model prog w) X c.gk;have f3:=g0b.ga.bind (.ref x);unfold getAttr? getAttrBy? getAttrBy;refine g9 (wpAny_mkText (g9 (g0f (ni (g9 (L0.at (g9 (L1.at ?_))))))));show wpAny _ _ (getAttrByItsOwn _ _ _ _ _ _) _ _ _;unfold getAttrByItsOwn hookBefore;rw [gw (show onTheHeap (Value.ref D)=true from rfl)];refine g9 (L2.at ?_);refine g9 (g0f (ni ?_));unfold callGetattribute boundAndCalled;rw [m7 (by decide)];rw [f3];refine g9 (gi ?_);refine wpAny_call (codeAny_call_builtin g0b.ga.plain F.entry_bexc_ga (qev c X I (qeu c X I ?_)));dsimp only;exact handed_on rfl (gi h)
theorem qex(c:ExcC K D): PySem.W.KitX K (.ref x) (.ref D) (XE x D) where
 ty:=fun M h _ e=>q23 e
 it:=fun _ _ X _=>by
  obtain⟨cdD,hcD⟩:=u9.mp (qar c);unfold PySem.W.clsIn at hcD
  split at hcD
  ·rename_i c' d' cd' sl' ho
   intro A' Q' E' s' k q;unfold isType loadHead;exact g9 (wpAny_loadPart (k _ _ (X _ _ ho)) (gi q))
  ·cases hcD
 ne:=fun h tp dd its n sl X htp=>by
  obtain⟨cdD,hcD⟩:=u9.mp (qar c);refine Bool.eq_false_iff.mpr fun q=>?_;have e:D=tp:=Value.ref.inj (pk.mp q);subst e;unfold PySem.W.clsIn at hcD
  split at hcD
  ·rename_i c' d' cd' sl' ho
   have z:=(X _ _ ho).symm.trans htp;cases z
  ·cases hcD
 ca:=fun X e k=>qew c X e k
end
def qiw(K:PySem.W.Frag)(C:Addr): Prop:=ExcC K C/\∀T:String,T∈["int","bool","tuple","list","str","dict"]->PySem.W.kitOne K (.ref C) (.type T)=some false
inductive D where
 | non
 | bl (b:Bool)
 | int (i:Int)
 | str (x:Str)
 | tup (ds:List D)
 | lst (ds:List D)
 | dct (ks:List Key) (vs:List D)
 | dtt (ks:List (List Int)) (vs:List D)
 | obj (x:Str)
 | exc (x:Str)
abbrev Frag:=PySem.W.Frag
abbrev St:=L2.St
def qix(K:Frag)(C:Addr): Prop:=PySem.W.plainGet K C "__class__" = true/\PySem.W.hasDictIn K C=true/\PySem.W.findIn K (.ref C) "__class__" = some (some (.builtin "object.__class__")) /\
 PySem.W.specialIn K (.builtin "object.__class__") "__get__" = some (some (.builtin "getset_descriptor.__get__"))/\PySem.W.takesIn K (.builtin "object.__class__")=some true/\PySem.W.mroIn K C (.type "object")=some true /\
 ∀T:String,T∈["int","bool","tuple","list","str","dict"]->PySem.W.kitOne K (.ref C) (.type T)=some false
def qlh(x:List Int×Addr×Value): DictEntry:=⟨reduceHash (Builtin.Tuple.tupleHashOf (x.1.map hashInt)),.ref x.2.1,x.2.2⟩
def DE(a:Addr)(xs:List (List Int×Addr×Value))(ep:Nat)(h:Heap): Prop:=∃o es,h.get? a=some o/\o.ExactDict/\o.data=.dict es ep/\es.toList=xs.map qlh
mutual
/-- v stands for the datum in the heap H -/
def Rep(K:Frag)(H:Hp): D->V->Prop
 | .non,v=>v=.non
 | .bl b,v=>v=.bl b
 | .int i,v=>v=.int i
 | .str x,v=>v=.str x
 | .tup ds,v=>∃a xs,v=.ref a/\SqT K H a xs/\RepL K H ds xs
 | .lst ds,v=>∃a xs,v=.ref a/\SqL K H a xs/\RepL K H ds xs
 | .dct ks vs,v=>∃a xs,v=.ref a/\H a=some (.dK (ks.zip xs))/\ks.length=xs.length/\RepL K H vs xs
 | .dtt ks vs,v=>∃a xs ys ep,v=.ref a/\H a=some (.ext (DE a xs ep))/\xs.map (·.1)=ks/\ks.Nodup/\xs.length<=sizeLine/\(a==sysModules)=false/\(∀x∈xs,SqT K H x.2.1 (x.1.map V.int))/\Vals ys (xs.map fun x=>x.2.2)/\RepL K H vs ys
 | .obj x,v=>∃a dx C,v=.ref a/\H a=some (.ins C dx [])/\PySem.W.nsIn K mainGlobals x=some (some (.ref C))/\qix K C
 | .exc x,v=>∃a C,v=.ref a/\H a=some (.ext (XE a C))/\PySem.W.nsIn K mainGlobals x=some (some (.ref C))/\qiw K C
def RepL(K:Frag)(H:Hp): List D->List V->Prop
 | [],xs=>xs=[]
 | d :: ds,xs=>∃x r,xs=x :: r/\Rep K H d x/\RepL K H ds r
end
theorem qu{K:Frag}{H H':Hp}{a:Addr}{xs:List V}(e:Same H H')(h:SqT K H a xs): SqT K H' a xs:=by
 rcases h with(h|⟨o,h⟩)|h
 ·exact .inl (.inl (e _ _ h))
 ·exact .inl (.inr ⟨o,e _ _ h⟩)
 ·exact .inr h
mutual
theorem Rep.mono{K:Frag}{H H':Hp}(e:Same H H'): ∀ {d:D} {v:V},Rep K H d v->Rep K H' d v
 | .non,v,h=>by simpa only [Rep] using h
 | .bl b,v,h=>by simpa only [Rep] using h
 | .int i,v,h=>by simpa only [Rep] using h
 | .str x,v,h=>by simpa only [Rep] using h
 | .tup ds,v,h=>by
  simp only [Rep] at h ⊢;obtain⟨a,xs,e1,e2,e3⟩:=h;exact⟨a,xs,e1,qu e e2,RepL.mono e e3⟩
 | .lst ds,v,h=>by
  simp only [Rep] at h ⊢;obtain⟨a,xs,e1,e2,e3⟩:=h;exact⟨a,xs,e1,e.seq e2,RepL.mono e e3⟩
 | .dct ks vs,v,h=>by
  simp only [Rep] at h ⊢;obtain⟨a,xs,e1,e2,e3,e4⟩:=h;exact⟨a,xs,e1,e _ _ e2,e3,RepL.mono e e4⟩
 | .dtt ks vs,v,h=>by
  simp only [Rep] at h ⊢;obtain⟨a,xs,ys,ep,e1,e2,e3,e4,e5,e6,e7,e8,e9⟩:=h;exact⟨a,xs,ys,ep,e1,e _ _ e2,e3,e4,e5,e6,fun x hx=>qu e (e7 x hx),e8,RepL.mono e e9⟩
 | .obj x,v,h=>by
  simp only [Rep] at h ⊢;obtain⟨a,dx,C,e1,e2,e3⟩:=h;exact⟨a,dx,C,e1,e _ _ e2,e3⟩
 | .exc x,v,h=>by
  simp only [Rep] at h ⊢;obtain⟨a,C,e1,e2,e3⟩:=h;exact⟨a,C,e1,e _ _ e2,e3⟩
theorem RepL.mono{K:Frag}{H H':Hp}(e:Same H H'): ∀ {ds:List D} {xs:List V},RepL K H ds xs->RepL K H' ds xs
 | [],xs,h=>by simpa only [RepL] using h
 | d :: ds,xs,h=>by
  simp only [RepL] at h ⊢;obtain⟨x,r,e1,e2,e3⟩:=h;exact⟨x,r,e1,Rep.mono e e2,RepL.mono e e3⟩
end
section
variable{K:Frag}{H:Hp}
theorem RepL.nil:RepL K H [] []:=by simp only [RepL]
theorem RepL.cons{d:D}{ds:List D}{x:V}{xs:List V}(h:Rep K H d x)(t:RepL K H ds xs): RepL K H (d :: ds) (x :: xs):=by
 simp only [RepL];exact⟨x,xs,rfl,h,t⟩
theorem RepL.nil_inv{xs:List V}(h:RepL K H [] xs): xs=[]:=by simpa only [RepL] using h
theorem RepL.cons_inv{d:D}{ds:List D}{xs:List V}(h:RepL K H (d :: ds) xs): ∃x r,xs=x :: r/\Rep K H d x/\RepL K H ds r:=by simpa only [RepL] using h
theorem RepL.length:∀ {ds:List D} {xs:List V},RepL K H ds xs->ds.length=xs.length
 | [],xs,h=>by rw [h.nil_inv];rfl
 | d :: ds,xs,h=>by
  obtain⟨x,r,rfl,_,t⟩:=h.cons_inv;simp [RepL.length t]
theorem RepL.append:∀ {ds es:List D} {xs ys:List V},RepL K H ds xs->RepL K H es ys->RepL K H (ds++es) (xs++ys)
 | [],es,xs,ys,h,t=>by rw [h.nil_inv];exact t
 | d :: ds,es,xs,ys,h,t=>by
  obtain⟨x,r,rfl,h1,h2⟩:=h.cons_inv;exact .cons h1 (RepL.append h2 t)
theorem RepL.get:∀ {ds:List D} {xs:List V} {i:Nat} {d:D},RepL K H ds xs->ds[i]? = some d->∃x,xs[i]? = some x/\Rep K H d x
 | [],xs,i,d,h,e=>by simp at e
 | d :: ds,xs,0,d',h,e=>by
  obtain⟨x,r,rfl,h1,h2⟩:=h.cons_inv;simp at e;subst e;exact⟨x,rfl,h1⟩
 | d :: ds,xs,i+1,d',h,e=>by
  obtain⟨x,r,rfl,h1,h2⟩:=h.cons_inv;obtain⟨y,e1,e2⟩:=RepL.get (i:=i) h2 (by simpa using e);exact⟨y,by simpa using e1,e2⟩
theorem RepL.take:∀ {ds:List D} {xs:List V} (n:Nat),RepL K H ds xs->RepL K H (ds.take n) (xs.take n)
 | _,_,0,_=>by simp only [List.take_zero];exact .nil
 | [],xs,n+1,h=>by rw [h.nil_inv];exact .nil
 | d :: ds,xs,n+1,h=>by
  obtain⟨x,r,rfl,h1,h2⟩:=h.cons_inv;exact .cons h1 (RepL.take n h2)
theorem RepL.drop:∀ {ds:List D} {xs:List V} (n:Nat),RepL K H ds xs->RepL K H (ds.drop n) (xs.drop n)
 | ds,xs,0,h=>by simpa only [g17] using h
 | [],xs,n+1,h=>by rw [h.nil_inv];exact .nil
 | d :: ds,xs,n+1,h=>by
  obtain⟨x,r,rfl,h1,h2⟩:=h.cons_inv;exact RepL.drop n h2
theorem RepL.ints:∀ {ns:List Int} {xs:List V},RepL K H (ns.map D.int) xs↔xs=ns.map V.int
 | [],xs=>by simp only [g0p,RepL]
 | n :: ns,xs=>by
  simp only [ml,RepL]
  constructor
  ·rintro⟨x,r,rfl,h1,h2⟩
   simp only [Rep] at h1;rw [h1,RepL.ints.mp h2]
  ·rintro rfl
   exact⟨_,_,rfl,by simp only [Rep],RepL.ints.mpr rfl⟩
theorem rep_int{i:Int}{v:V}: Rep K H (.int i) v↔v=.int i:=by simp only [Rep]
theorem rep_bl{i:Bool}{v:V}: Rep K H (.bl i) v↔v=.bl i:=by simp only [Rep]
theorem rep_str{i:Str}{v:V}: Rep K H (.str i) v↔v=.str i:=by simp only [Rep]
theorem rep_non{v:V}: Rep K H .non v↔v=.non:=by simp only [Rep]
theorem rep_tup{ds:List D}{v:V}: Rep K H (.tup ds) v↔∃a xs,v=.ref a/\SqT K H a xs/\RepL K H ds xs:=by simp only [Rep]
theorem rep_lst{ds:List D}{v:V}: Rep K H (.lst ds) v↔∃a xs,v=.ref a/\SqL K H a xs/\RepL K H ds xs:=by simp only [Rep]
theorem rep_dct{ks:List Key}{vs:List D}{v:V}: Rep K H (.dct ks vs) v↔∃a xs,v=.ref a/\H a=some (.dK (ks.zip xs))/\ks.length=xs.length/\RepL K H vs xs:=by simp only [Rep]
theorem rep_dtt{ks:List (List Int)}{vs:List D}{v:V}: Rep K H (.dtt ks vs) v↔∃a xs ys ep,v=.ref a/\H a=some (.ext (DE a xs ep))/\xs.map (·.1)=ks/\ks.Nodup/\xs.length<=sizeLine/\(a==sysModules)=false/\(∀x∈xs,SqT K H x.2.1 (x.1.map V.int))/\Vals ys (xs.map fun x=>x.2.2)/\RepL K H vs ys:=by simp only [Rep]
theorem rep_exc{x:Str}{v:V}: Rep K H (.exc x) v↔∃a C,v=.ref a/\H a=some (.ext (XE a C))/\PySem.W.nsIn K mainGlobals x=some (some (.ref C))/\qiw K C:=by simp only [Rep]
theorem rep_obj{x:Str}{v:V}: Rep K H (.obj x) v↔∃a dx C,v=.ref a/\H a=some (.ins C dx [])/\PySem.W.nsIn K mainGlobals x=some (some (.ref C))/\qix K C:=by simp only [Rep]
end
class Lam where
 tab:List (Addr×Str)
class Pin where
 pin:Option Addr
instance (priority:=low) pin0:Pin:=⟨none⟩
variable[Lam][Pin]
def Tab(H:Hp): Prop:=∀p∈Lam.tab,∃ps,H p.1=some (.tbl ps)/\TriplesOk ps.toList/\∀pos cv,codeAmong pos ps.toList=some cv->∃c φ,cv=.ref c/\H c=some (.ext φ)/\∀h, φ h->h.CodeRec (.ref c) p.2
def qey(F:Hp): Prop:=∀p∈Lam.tab,F p.1=none
theorem Tab.updG{H:Hp}(t:Tab H){p:Addr}{o:HO}(h:∀u,H p=some u->(∀ps,u ≠ .tbl ps)/\∀ φ,u ≠ .ext φ): Tab (upd H p o):=fun q hq=>by
 obtain⟨ps,e,ht,k⟩:=t q hq;refine⟨ps,by rw [ql (fun z=>by subst z;exact(h _ e).1 ps rfl)];exact e,ht,fun pos cv z=>?_⟩;obtain⟨c, φ,e1,e2,e3⟩:=k pos cv z;exact⟨c, φ,e1,by rw [ql (fun z=>by subst z;exact(h _ e2).2 φ rfl)];exact e2,e3⟩
theorem Tab.upd{H:Hp}(t:Tab H){p:Addr}{o:HO}(h:H p=none\/∃xs,H p=some (.lst xs)): Tab (upd H p o):=t.updG fun u e=>by
 rcases h with h|⟨xs,h⟩
 ·rw [h] at e;cases e
 ·rw [h] at e;cases e;exact⟨nofun,nofun⟩
structure Kept(H H':Hp): Prop where
 lst:∀b xs,H b=some (.lst xs)->H' b=some (.lst xs)
 ext:∀b φ,H b=some (.ext φ)->H' b=some (.ext φ)
 free:∀ {b},H' b=none->H b=none
 tb:Tab H->Tab H'
 dk:∀b (u:Addr×Addr×List (Str×V)),H b=some (.ins u.1 u.2.1 u.2.2)->H' b=some (.ins u.1 u.2.1 u.2.2)
theorem Kept.refl(H:Hp): Kept H H:=⟨fun _ _ e=>e,fun _ _ e=>e,fun e=>e,fun t=>t,fun _ _ e=>e⟩
theorem Kept.trans{H H1 H2:Hp}(a:Kept H H1)(b:Kept H1 H2): Kept H H2:=⟨fun c xs e=>b.lst c xs (a.lst c xs e),fun c φ e=>b.ext c φ (a.ext c φ e),fun e=>a.free (b.free e),fun t=>b.tb (a.tb t),fun c kvs e=>b.dk c kvs (a.dk c kvs e)⟩
theorem Kept.new{H:Hp}{p:Addr}{o:HO}(hp:H p=none): Kept H (upd H p o):=⟨fun b xs e=>by rw [ql (ji e hp)];exact e,fun b φ e=>by rw [ql (ji e hp)];exact e,fun {b} e=>by
 by_cases z:b=p
 ·subst z;exact hp
 ·rw [ql z] at e;exact e,fun t=>t.upd (.inl hp),fun b kvs e=>by rw [ql (ji e hp)];exact e⟩
structure SameT(F H:Hp): Prop where
 s:Same F H
 t:Tab H
 f:qey F
structure Grow(F H F' H':Hp): Prop where
 ff:Same F F'
 hh:Kept H H'
 fh:Same F' H'
 nw:∀b,F' b≠none->F b≠none\/H b=none
theorem Grow.refl{F H:Hp}(h:Same F H): Grow F H F H:=⟨.refl _,.refl _,h,fun _ h=>.inl h⟩
theorem Grow.trans{F H F1 H1 F2 H2:Hp}(a:Grow F H F1 H1)(b:Grow F1 H1 F2 H2): Grow F H F2 H2:=
 ⟨a.ff.trans b.ff,a.hh.trans b.hh,b.fh,fun c h=>(b.nw c h).elim (fun z=>a.nw c z) fun z=>.inr (a.hh.free z)⟩
theorem q2h{H:Hp}{p:Addr}{o:HO}(h:H p=none): Same H (upd H p o):=fun b u q=>by rw [ql (ji q h)];exact q
theorem qcy{F H:Hp}{p:Addr}{o:HO}(h:Same F H): Same (upd F p o) (upd H p o):=fun b u q=>by
 unfold upd at q ⊢
 split
 ·rename_i z;rw [gw z] at q;exact q
 ·rename_i z;rw [m7 z] at q;exact h _ _ q
theorem Grow.new{F H:Hp}{p:Addr}{o:HO}(h:Same F H)(hp:H p=none): Grow F H (upd F p o) (upd H p o):=
 ⟨q2h (h.free hp),.new hp,qcy h,fun b hb=>by
  by_cases e:b=p
  ·subst e;exact .inr hp
  ·rw [ql e] at hb;exact .inl hb⟩
theorem Grow.own{F H:Hp}{p:Addr}{o:HO}(h:Same F H)(hp:H p=none): Grow F H F (upd H p o):=
 ⟨.refl _,.new hp,h.trans (q2h hp),fun _ h=>.inl h⟩
inductive B where
 | fz (d:D)
 | ow (ds:List D)
 | od (kvs:Str×List (Str×D))
abbrev Rho:=List (Option B)
def FsR(K:Frag)(F:Hp): List (Str×D)->List (Str×V)->Prop
 | [],vs=>vs=[]
 | p :: fs,vs=>∃v r,vs=(p.1,v) :: r/\Rep K F p.2 v/\FsR K F fs r
omit [Lam] [Pin] in
theorem FsR.mono{K:Frag}{F F':Hp}(s:Same F F'): ∀ {fs:List (Str×D)} {vs:List (Str×V)},FsR K F fs vs->FsR K F' fs vs
 | [],_,h=>h
 | p :: fs,_,⟨v,r,e,h1,h2⟩=>⟨v,r,e,h1.mono s,FsR.mono s h2⟩
structure ODt(K:Frag)(F H H0:Hp)(a:Addr)(bs:List Addr)(kvs:Str×List (Str×D)): Prop where
 nb:bs=[]
 ex:∃C dx vs,H a=some (.ins C dx vs)/\PySem.W.nsIn K mainGlobals kvs.1=some (some (.ref C))/\FsR K F kvs.2 vs
 f:F a=none
 z:H0 a=none
 pn:∀p,Pin.pin=some p->a=p
structure RS(K:Frag)(F0 H0 F H:Hp)(σ : St)(ρ : Rho): Prop where
 t0:Tab H0/\qey F0
 g:Grow F0 H0 F H
 len : σ.length = ρ.length
 fz:∀(i:Nat) (d:D), ρ[i]? = some (some (.fz d))->∃v, σ[i]? = some (some v)/\Rep K F d v
 ow:∀(i:Nat) (ds:List D), ρ[i]? = some (some (.ow ds))->∃a xs, σ[i]? = some (some (.ref a))/\H a=some (.lst xs)/\F a=none/\H0 a=none/\RepL K F ds xs
 dj:∀(i j:Nat) (ds es:List D) (a:Addr),i≠j -> ρ[i]? = some (some (.ow ds)) -> ρ[j]? = some (some (.ow es)) -> σ[i]? = some (some (.ref a)) -> σ[j]? ≠ some (some (.ref a))
 od:∀(i:Nat) (kvs:Str×List (Str×D)), ρ[i]? = some (some (.od kvs))->∃a bs, σ[i]? = some (some (.ref a))/\ODt K F H H0 a bs kvs/\∀(j:Nat) (es:List D) (b:Addr), ρ[j]? = some (some (.ow es))->b∈bs -> σ[j]? ≠ some (some (.ref b))
 o1:∀(i j:Nat) (k1 k2:Str×List (Str×D)), ρ[i]? = some (some (.od k1)) -> ρ[j]? = some (some (.od k2))->i=j
theorem qas{F H F' H':Hp}{a:Addr}{o:HO}(g:Grow F H F' H')(h1:F a=none)(h2:H a=some o): F' a=none:=by
 cases q:F' a with
 | none=>rfl
 | some o=>
  rcases g.nw a (by rw [q];simp) with z|z
  ·exact absurd h1 z
  ·rw [h2] at z;cases z
theorem ODt.mem{K:Frag}{F H H0:Hp}{a:Addr}{bs:List Addr}{kvs:Str×List (Str×D)}(o:ODt K F H H0 a bs kvs){b:Addr}(h:b∈bs): ∃xs,H b=some (.lst xs)/\F b=none/\H0 b=none:=by
 rw [o.nb] at h;cases h
theorem ODt.nl{K:Frag}{F H H0:Hp}{a:Addr}{bs:List Addr}{kvs:Str×List (Str×D)}(o:ODt K F H H0 a bs kvs){xs:List V}(h:H a=some (.lst xs)): False:=by
 obtain⟨C,dx,vs,e,_⟩:=o.ex;rw [h] at e;cases e
theorem ODt.grow{K:Frag}{F H F' H' H0:Hp}{a:Addr}{bs:List Addr}{kvs:Str×List (Str×D)}(o:ODt K F H H0 a bs kvs)(g:Grow F H F' H'): ODt K F' H' H0 a bs kvs:=by
 obtain⟨C,dx,vs,e1,e2,e3⟩:=o.ex;exact⟨o.nb,⟨C,dx,vs,g.hh.dk a (C,dx,_) e1,e2,e3.mono g.ff⟩,qas g o.f e1,o.z,o.pn⟩
theorem ODt.other{K:Frag}{F H H0:Hp}{a p:Addr}{bs:List Addr}{kvs:Str×List (Str×D)}{u:HO}(o:ODt K F H H0 a bs kvs)(h1:p≠a)(h2:p∉bs): ODt K F (upd H p u) H0 a bs kvs:=by
 obtain⟨C,dx,vs,e1,e2,e3⟩:=o.ex;exact⟨o.nb,⟨C,dx,vs,by rw [ql (m6 h1)];exact e1,e2,e3⟩,o.f,o.z,o.pn⟩
theorem ODt.otherF{K:Frag}{F H H0:Hp}{a p:Addr}{bs:List Addr}{kvs:Str×List (Str×D)}{u:HO}(o:ODt K F H H0 a bs kvs)(hs:Same F (upd F p u))(h1:p≠a)(h2:p∉bs): ODt K (upd F p u) H H0 a bs kvs:=by
 obtain⟨C,dx,vs,e1,e2,e3⟩:=o.ex;exact⟨o.nb,⟨C,dx,vs,e1,e2,e3.mono hs⟩,by rw [ql (m6 h1)];exact o.f,o.z,o.pn⟩
section
variable{K:Frag}{F0 H0 F H F' H':Hp}{σ : St}{ρ : Rho}
theorem RS.fh(r:RS K F0 H0 F H σ ρ): Same F H:=r.g.fh
theorem RS.tab(r:RS K F0 H0 F H σ ρ): Tab H:=r.g.hh.tb r.t0.1
theorem RS.tabF(r:RS K F0 H0 F H σ ρ): qey F:=fun p hp=>by
 cases q:F p.1 with
 | none=>rfl
 | some o=>
  rcases r.g.nw p.1 (by rw [q];simp) with z|z
  ·exact absurd (r.t0.2 p hp) z
  ·obtain⟨ps,e,_⟩:=r.t0.1 p hp
   rw [e] at z;cases z
theorem RS.grow(r:RS K F0 H0 F H σ ρ)(g:Grow F H F' H'): RS K F0 H0 F' H' σ ρ where
 t0:=r.t0
 g:=r.g.trans g
 len:=r.len
 fz:=fun i d e=>let⟨v,e1,e2⟩:=r.fz i d e; ⟨v,e1,e2.mono g.ff⟩
 ow:=fun i ds e=>by
  obtain⟨a,xs,e1,e2,e3,e4,e5⟩:=r.ow i ds e;refine⟨a,xs,e1,g.hh.lst _ _ e2,?_,e4,e5.mono g.ff⟩;cases q:F' a with
  | none=>rfl
  | some o=>
   rcases g.nw a (by rw [q];simp) with z|z
   ·exact absurd e3 z
   ·rw [e2] at z;cases z
 dj:=r.dj
 od:=fun i kvs e=>let⟨a,bs,e1,e2,e3⟩:=r.od i kvs e; ⟨a,bs,e1,e2.grow g,e3⟩
 o1:=r.o1
theorem RS.sameT(r:RS K F0 H0 F H σ ρ)(g:Grow F H F' H'): SameT F' H':=⟨g.fh,(r.grow g).tab,(r.grow g).tabF⟩
theorem qk{α : Type}{l:List α}{i:Nat}{x y : α}(h:(l.set i x)[i]? = some y): y=x/\i<l.length:=by
 rw [ue] at h;simp only [nj] at h
 split at h
 ·exact⟨(mn h).symm,by assumption⟩
 ·cases h
theorem RS.set(r:RS K F0 H0 F H σ ρ){d:D}{v:V}(i:Nat)(h:Rep K F d v): RS K F0 H0 F H (σ.set i (some v)) (ρ.set i (some (.fz d))) where
 t0:=r.t0
 g:=r.g
 len:=by rw [nc,nc];exact r.len
 fz:=fun j e h1=>by
  by_cases q:j=i
  ·subst q
   obtain⟨z,l⟩:=qk h1;cases z;exact⟨v,by rw [ue];simp [r.len,l],h⟩
  ·rw [gf (m6 q)] at h1 ⊢
   exact r.fz j e h1
 ow:=fun j ds h1=>by
  by_cases q:j=i
  ·subst q
   obtain⟨z,l⟩:=qk h1;cases z
  ·rw [gf (m6 q)] at h1 ⊢
   exact r.ow j ds h1
 dj :=fun j k ds es a hjk h1 h2 h3=>by
  by_cases q:j=i
  ·subst q
   obtain⟨z,l⟩:=qk h1;cases z
  ·by_cases q2:k=i
   ·subst q2
    obtain⟨z,l⟩:=qk h2;cases z
   ·rw [gf (m6 q)] at h1 h3
    rw [gf (m6 q2)] at h2 ⊢;exact r.dj j k ds es a hjk h1 h2 h3
 od :=fun j kvs h1=>by
  by_cases q:j=i
  ·subst q
   obtain⟨z,l⟩:=qk h1;cases z
  ·rw [gf (m6 q)] at h1 ⊢
   obtain⟨a,bs,e1,e2,e3⟩:=r.od j kvs h1;refine⟨a,bs,e1,e2,fun k es b h2 h3=>?_⟩
   by_cases q2:k=i
   ·subst q2
    obtain⟨z,l⟩:=qk h2;cases z
   ·rw [gf (m6 q2)] at h2 ⊢
    exact e3 k es b h2 h3
 o1 :=fun j k k1 k2 h1 h2=>by
  by_cases q:j=i
  ·subst q
   obtain⟨z,l⟩:=qk h1;cases z
  ·by_cases q2:k=i
   ·subst q2
    obtain⟨z,l⟩:=qk h2;cases z
   ·rw [gf (m6 q)] at h1
    rw [gf (m6 q2)] at h2;exact r.o1 j k k1 k2 h1 h2
theorem RS.setO(r:RS K F0 H0 F H σ ρ){ds:List D}{xs:List V}{a:Addr}(i:Nat)(h1:H a=some (.lst xs))(h2:F a=none)(h3:H0 a=none)(h4:RepL K F ds xs)
  (h5:∀(j:Nat) (es:List D), ρ[j]? = some (some (.ow es)) -> σ[j]? ≠ some (some (.ref a)))
  (h6:∀(j:Nat) (kvs:Str×List (Str×D)), ρ[j]? = some (some (.od kvs))->∃a' bs, σ[j]? = some (some (.ref a'))/\ODt K F H H0 a' bs kvs/\a∉bs/\∀(j':Nat) (es:List D) (b:Addr), ρ[j']? = some (some (.ow es))->b∈bs -> σ[j']? ≠ some (some (.ref b))):RS K F0 H0 F H (σ.set i (some (.ref a))) (ρ.set i (some (.ow ds))) where
 t0:=r.t0
 g:=r.g
 len:=by rw [nc,nc];exact r.len
 fz:=fun j e q1=>by
  by_cases q:j=i
  ·subst q
   obtain⟨z,l⟩:=qk q1;cases z
  ·rw [gf (m6 q)] at q1 ⊢
   exact r.fz j e q1
 ow:=fun j es q1=>by
  by_cases q:j=i
  ·subst q
   obtain⟨z,l⟩:=qk q1;cases z;exact⟨a,xs,by rw [ue];simp [r.len,l],h1,h2,h3,h4⟩
  ·rw [gf (m6 q)] at q1 ⊢
   exact r.ow j es q1
 dj :=fun j k ds' es b hjk q1 q2 q3=>by
  by_cases q:j=i
  ·subst q
   have e3:=qk q3;have eb:b=a:=by have:=e3.1;simpa using this
   subst eb;rw [gf hjk] at q2 ⊢;exact h5 k es q2
  ·rw [gf (m6 q)] at q1 q3
   by_cases q4:k=i
   ·subst q4
    intro z;have eb:b=a:=by have:=(qk z).1;simpa using this
    subst eb;exact h5 j ds' q1 q3
   ·rw [gf (m6 q4)] at q2 ⊢
    exact r.dj j k ds' es b hjk q1 q2 q3
 od :=fun j kvs q1=>by
  by_cases q:j=i
  ·subst q
   obtain⟨z,l⟩:=qk q1;cases z
  ·rw [gf (m6 q)] at q1 ⊢
   obtain⟨a',bs,e1,e2,e3,e4⟩:=h6 j kvs q1;refine⟨a',bs,e1,e2,fun k es b p1 p2 p3=>?_⟩
   by_cases q2:k=i
   ·subst q2
    have eb:b=a:=by have:=(qk p3).1;simpa using this
    exact e3 (eb ▸ p2)
   ·rw [gf (m6 q2)] at p1 p3
    exact e4 k es b p1 p2 p3
 o1 :=fun j k k1 k2 p1 p2=>by
  by_cases q:j=i
  ·subst q
   obtain⟨z,l⟩:=qk p1;cases z
  ·by_cases q2:k=i
   ·subst q2
    obtain⟨z,l⟩:=qk p2;cases z
   ·rw [gf (m6 q)] at p1
    rw [gf (m6 q2)] at p2;exact r.o1 j k k1 k2 p1 p2
theorem RS.wrt(r:RS K F0 H0 F H σ ρ){ds es:List D}{ys:List V}{a:Addr}{i:Nat}(h1 : ρ[i]? = some (some (.ow ds)))(h2 : σ[i]? = some (some (.ref a)))(h4:RepL K F es ys):
  RS K F0 H0 F (upd H a (.lst ys)) σ (ρ.set i (some (.ow es))):=by
 obtain⟨a',xs,e1,e2,e3,e4,e5⟩:=r.ow i ds h1;rw [h2] at e1;obtain rfl:a=a':=by simpa using e1
 have nF:∀b o,F b=some o->b≠a:=fun b o e z=>by subst z;rw [e3] at e;cases e
 exact {
  t0:=r.t0
  g :=⟨r.g.ff,⟨fun b o e=>by rw [ql (fun z=>by subst z;rw [e4] at e;cases e)];exact r.g.hh.lst b o e,fun b o e=>by rw [ql (fun z=>by subst z;rw [e4] at e;cases e)];exact r.g.hh.ext b o e,fun {b} e=>by
    by_cases z:b=a
    ·subst z;exact e4
    ·rw [ql z] at e;exact r.g.hh.free e,fun t=>(r.g.hh.tb t).upd (.inr ⟨_,e2⟩),fun b o e=>by rw [ql (fun z=>by subst z;rw [e4] at e;cases e)];exact r.g.hh.dk b o e⟩,fun b o e=>by rw [ql (nF b o e)];exact r.g.fh b o e,r.g.nw⟩
  len:=by rw [nc];exact r.len
  fz:=fun j e q1=>by
   by_cases q:j=i
   ·subst q
    obtain⟨z,l⟩:=qk q1;cases z
   ·rw [gf (m6 q)] at q1
    exact r.fz j e q1
  ow :=fun j es' q1=>by
   by_cases q:j=i
   ·subst q
    obtain⟨z,l⟩:=qk q1;cases z;exact⟨a,ys,h2,qz,e3,e4,h4⟩
   ·rw [gf (m6 q)] at q1
    obtain⟨b,zs,f1,f2,f3,f4,f5⟩:=r.ow j es' q1;have hb:b≠a:=fun z=>by
     subst z;exact r.dj i j ds es' b (m6 q) h1 q1 h2 f1
    exact⟨b,zs,f1,by rw [ql hb];exact f2,f3,f4,f5⟩
  dj:=fun j k ds' es' b hjk q1 q2 q3=>by
   have back:∀(l:Nat) (us:List D),(ρ.set i (some (.ow es)))[l]? = some (some (.ow us))->∃ws, ρ[l]? = some (some (.ow ws)):=fun l us z=>by
    by_cases q:l=i
    ·subst q;exact⟨ds,h1⟩
    ·rw [gf (m6 q)] at z;exact⟨us,z⟩
   obtain⟨w1,z1⟩:=back j ds' q1;obtain⟨w2,z2⟩:=back k es' q2;exact r.dj j k w1 w2 b hjk z1 z2 q3
  od:=fun j kvs q1=>by
   by_cases q:j=i
   ·subst q
    obtain⟨z,l⟩:=qk q1;cases z
   ·rw [gf (m6 q)] at q1
    obtain⟨a',bs,f1,f2,f3⟩:=r.od j kvs q1;refine⟨a',bs,f1,f2.other (fun z=>by subst z;exact f2.nl e2) fun z=>f3 i ds a h1 z h2,fun k es' b p1 p2=>?_⟩
    by_cases q2:k=i
    ·subst q2;exact f3 k ds b h1 p2
    ·rw [gf (m6 q2)] at p1;exact f3 k es' b p1 p2
  o1 :=fun j k k1 k2 p1 p2=>by
   have back:∀(l:Nat) (us),(ρ.set i (some (.ow es)))[l]? = some (some (.od us)) -> ρ[l]? = some (some (.od us)):=fun l us z=>by
    by_cases q:l=i
    ·subst q
     obtain⟨z',_⟩:=qk z;cases z'
    ·rw [gf (m6 q)] at z;exact z
   exact r.o1 j k k1 k2 (back _ _ p1) (back _ _ p2)}
theorem RS.freeze(r:RS K F0 H0 F H σ ρ){ds:List D}{i:Nat}(h1 : ρ[i]? = some (some (.ow ds))): ∃F',Same F F'/\RS K F0 H0 F' H σ (ρ.set i (some (.fz (.lst ds)))):=by
 obtain⟨a,xs,e1,e2,e3,e4,e5⟩:=r.ow i ds h1;have sF:Same F (upd F a (.lst xs)):=q2h e3;refine⟨upd F a (.lst xs),sF,?_⟩;exact {
  t0:=r.t0
  g :=⟨r.g.ff.trans sF,r.g.hh,fun b o e=>by
    by_cases q:b=a
    ·subst q;rw [qz] at e;cases e;exact e2
    ·rw [ql q] at e;exact r.g.fh b o e,fun b hb=>by
    by_cases q:b=a
    ·subst q;exact .inr e4
    ·rw [ql q] at hb;exact r.g.nw b hb⟩
  len:=by rw [nc];exact r.len
  fz:=fun j e q1=>by
   by_cases q:j=i
   ·subst q
    obtain⟨z,l⟩:=qk q1;cases z;exact⟨_,e1,rep_lst.mpr ⟨a,xs,rfl,SqL.of qz,e5.mono sF⟩⟩
   ·rw [gf (m6 q)] at q1
    obtain⟨v,z1,z2⟩:=r.fz j e q1;exact⟨v,z1,z2.mono sF⟩
  ow :=fun j es' q1=>by
   by_cases q:j=i
   ·subst q
    obtain⟨z,l⟩:=qk q1;cases z
   ·rw [gf (m6 q)] at q1
    obtain⟨b,zs,f1,f2,f3,f4,f5⟩:=r.ow j es' q1;have hb:b≠a:=fun z=>by
     subst z;exact r.dj i j ds es' b (m6 q) h1 q1 e1 f1
    exact⟨b,zs,f1,f2,by rw [ql hb];exact f3,f4,f5.mono sF⟩
  dj :=fun j k ds' es' b hjk q1 q2 q3=>by
   have back:∀(l:Nat) (us:List D),(ρ.set i (some (.fz (.lst ds))))[l]? = some (some (.ow us)) -> ρ[l]? = some (some (.ow us)):=fun l us z=>by
    by_cases q:l=i
    ·subst q
     obtain⟨z',_⟩:=qk z;cases z'
    ·rw [gf (m6 q)] at z;exact z
   exact r.dj j k ds' es' b hjk (back _ _ q1) (back _ _ q2) q3
  od:=fun j kvs q1=>by
   by_cases q:j=i
   ·subst q
    obtain⟨z,l⟩:=qk q1;cases z
   ·rw [gf (m6 q)] at q1
    obtain⟨a',bs,f1,f2,f3⟩:=r.od j kvs q1;refine⟨a',bs,f1,f2.otherF sF (fun z=>by subst z;exact f2.nl e2) fun z=>f3 i ds a h1 z e1,fun k es' b p1 p2=>?_⟩
    by_cases q2:k=i
    ·subst q2;exact f3 k ds b h1 p2
    ·rw [gf (m6 q2)] at p1;exact f3 k es' b p1 p2
  o1 :=fun j k k1 k2 p1 p2=>by
   have back:∀(l:Nat) (us),(ρ.set i (some (.fz (.lst ds))))[l]? = some (some (.od us)) -> ρ[l]? = some (some (.od us)):=fun l us z=>by
    by_cases q:l=i
    ·subst q
     obtain⟨z',_⟩:=qk z;cases z'
    ·rw [gf (m6 q)] at z;exact z
   exact r.o1 j k k1 k2 (back _ _ p1) (back _ _ p2)}
end
end DL
namespace DL
open PySem PySem.Spec PyProof.Rows L2
variable[Lam][Pin]
abbrev lim:Nat:=1000000
theorem y4{n:Nat}(h:n<=lim): n<=sizeLine:=mj h (by decide)
theorem q76{n:Nat}(h:n<lim): n<sizeLine:=m8 h (by decide)
abbrev FE:=Rho->Option D
abbrev FT:=Rho->Option Bool
abbrev FA:=Rho->Option (List D)
inductive Fl where
 | nx|bk|ct
 | rt (d:D)
abbrev FS:=Rho->Option (Fl×Rho)
def tD(K:Frag)(f:FE): TE:=fun σ H Q=>∃F0 H0 F ρ d,RS K F0 H0 F H σ ρ /\ f ρ = some d/\∀v F' H',Grow F H F' H'->Rep K F' d v->Q v H'
def tL(K:Frag)(f:FA): TE:=fun σ H Q=>∃F0 H0 F ρ ds,RS K F0 H0 F H σ ρ /\ f ρ = some ds/\∀a xs F' H',Grow F H F' H'->F' a=none->H a=none->H' a=some (.lst xs)->RepL K F' ds xs->Q (.ref a) H'
def tDT(K:Frag)(f:FT): TT:=fun σ H Q=>∃F0 H0 F ρ b,RS K F0 H0 F H σ ρ /\ f ρ = some b/\∀F' H',Grow F H F' H'->Q b H'
def tDA(K:Frag)(f:FA): TA:=fun σ H Q=>∃F0 H0 F ρ ds,RS K F0 H0 F H σ ρ /\ f ρ = some ds/\∀vs F' H',Grow F H F' H'->RepL K F' ds vs->Q vs H'
def qbt(K:Frag)(F0 H0 F:Hp)(D:Ends)(fl:Fl)(ρ':Rho): Prop:=match fl with
 | .nx=>∀ σ' F' H',Same F F'->RS K F0 H0 F' H' σ' ρ'->D.nx σ' H'
 | .bk=>∀ σ' F' H',Same F F'->RS K F0 H0 F' H' σ' ρ'->D.bk σ' H'
 | .ct=>∀ σ' F' H',Same F F'->RS K F0 H0 F' H' σ' ρ'->D.ct σ' H'
 | .rt d=>∀v σ' F' H',RS K F0 H0 F' H' σ' ρ'->Rep K F' d v->D.rt v H'
def tDS(K:Frag)(f:FS): TS:=fun D σ H=>∃F0 H0 F ρ fl ρ',RS K F0 H0 F H σ ρ /\ f ρ = some (fl, ρ')/\qbt K F0 H0 F D fl ρ'
section
variable{X:Cx}{e:Expr}{pos:Pos}
theorem zj{t t':TE}(h:PE X e t)(i:∀ σ H Q,t' σ H Q->t σ H Q): PE X e t':=fun pins s σ H Q I q=>h pins s σ H Q I (i σ H Q q)
theorem q37{t t':TT}(h:PT X e t)(i:∀ σ H Q,t' σ H Q->t σ H Q): PT X e t':=fun pins s σ H Q I q=>h pins s σ H Q I (i σ H Q q)
theorem q5h{es:List Expr}{t t':TA}(h:PA X es t)(i:∀ σ H Q,t' σ H Q->t σ H Q): PA X es t':=fun pos pins s σ H Q I q=>h pos pins s σ H Q I (i σ H Q q)
theorem xg{st:Stmt}{t t':TS}(h:PS X st t)(i:∀D σ H,t' D σ H->t D σ H): PS X st t':=fun pins s σ H D I q=>h pins s σ H D I (i D σ H q)
theorem q6e{st:List Stmt}{t t':TS}(h:PSs X st t)(i:∀D σ H,t' D σ H->t D σ H): PSs X st t':=fun pins s σ H D I q=>h pins s σ H D I (i D σ H q)
def eV(i:Nat): FE:=fun ρ =>match ρ[i]? with
 | some (some (.fz d))=>some d
 | _=>none
def eC(d:D): FE:=fun _=>some d
theorem qat{i:Nat}{ρ : Rho}{d:D}(h:eV i ρ = some d): ρ[i]? = some (some (.fz d)):=by
 unfold eV at h
 split at h
 ·rename_i e;rw [e,mn h]
 ·cases h
theorem q0{K:Frag}{i:Nat}(h:PE X e (q2g i)): PE X e (tD K (eV i)):=zj h fun σ H Q ⟨F0,H0,F, ρ,d,r,hf,q⟩=>by
 obtain⟨v,e1,e2⟩:=r.fz i d (qat hf);exact⟨v,e1,q v F H (.refl r.fh) e2⟩
theorem q2i{K:Frag}{v:V}{d:D}(h:PE X e (tC v))(hd:∀H,Rep K H d v): PE X e (tD K (eC d)):=zj h fun σ H Q ⟨F0,H0,F, ρ,d',r,hf,q⟩=>by
 cases hf;exact q v F H (.refl r.fh) (hd F)
theorem qe{K:Frag}{i j}: PE X (.Constant (.int i) j pos) (tD K (eC (.int i))):=q2i qhy fun _=>rep_int.mpr rfl
theorem q00{K:Frag}{b j}: PE X (.Constant (.bool b) j pos) (tD K (eC (.bl b))):=q2i qjw fun _=>rep_bl.mpr rfl
theorem q8n{K:Frag}{j}: PE X (.Constant .none j pos) (tD K (eC .non)):=q2i qhz fun _=>rep_non.mpr rfl
def rD(K:Frag)(op:D->D->Option D): R2:=fun x y H Q=>∃F d1 d2 d,Same F H/\Rep K F d1 x/\Rep K F d2 y/\op d1 d2=some d/\∀v F' H',Grow F H F' H'->Rep K F' d v->Q v H'
def eOp(op:D->D->Option D)(f g:FE): FE:=fun ρ =>(f ρ).bind fun x=>(g ρ).bind fun y=>op x y
theorem two{K:Frag}{f g:FE}{op:D->D->Option D}{σ : St}{H:Hp}{Q:VK}(h:tD K (eOp op f g) σ H Q): tD K f σ H fun x H1=>tD K g σ H1 fun y H2=>rD K op x y H2 Q:=by
 obtain⟨F0,H0,F, ρ,d,r,hf,q⟩:=h;obtain⟨d1,h1,hf⟩:=g6.mp hf;obtain⟨d2,h2,h3⟩:=g6.mp hf;refine⟨F0,H0,F, ρ,d1,r,h1,fun v F1 H1 g1 r1=>⟨F0,H0,F1, ρ,d2,r.grow g1,h2,fun u F2 H2 g2 r2=>?_⟩⟩;exact⟨F2,d1,d2,d,g2.fh,r1.mono g2.ff,r2,h3,fun w F3 H3 g3 r3=>q w F3 H3 (g1.trans (g2.trans g3)) r3⟩
variable{a b:Expr}{f g:FE}
theorem qm{op:Operator}{o:D->D->Option D}(ho:OpR X (binaryOp op) (rD X.K o))(ha:PE X a (tD X.K f))(hb:PE X b (tD X.K g)): PE X (.BinOp a op b pos) (tD X.K (eOp o f g)):=
 zj (qk3 ho ha hb) fun σ H Q h=>two h
theorem q0r{f:Value->Value->Sem Value}{r r':R2}(h:OpR X f r)(i:∀x y H Q,r' x y H Q->r x y H Q): OpR X f r':=fun pins s σ H x y v u Q I rx ry q=>h pins s σ H x y v u Q I rx ry (i x y H Q q)
theorem q8o{f:Value->Value->Sem Value}{K:Frag}{o o':D->D->Option D}(h:OpR X f (rD K o))(h':OpR X f (rD K o')): OpR X f (rD K fun x y=>(o x y).or (o' x y)):=fun pins s σ H x y v u Q I rx ry q=>by
 obtain⟨F,d1,d2,d,q1,q2,q3,q4,q5⟩:=q;have q4:(o d1 d2).or (o' d1 d2)=some d:=q4;cases e:o d1 d2 with
 | some d'=>rw [e] at q4;cases q4;exact h pins s σ H x y v u Q I rx ry ⟨F,d1,d2,_,q1,q2,q3,e,q5⟩
 | none=>rw [e] at q4;exact h' pins s σ H x y v u Q I rx ry ⟨F,d1,d2,d,q1,q2,q3,q4,q5⟩
def oI(C:Int->Int->Bool)(z:Int->Int->Int): D->D->Option D
 | .int i,.int j=>if C i j then some (.int (z i j)) else none
 | _,_=>none
def oB(z:Int->Int->Bool): D->D->Option D
 | .int i,.int j=>some (.bl (z i j))
 | _,_=>none
theorem q6f{C:Int->Int->Bool}{z:Int->Int->Int}{d1 d2 d:D}(h:oI C z d1 d2=some d): ∃i j,d1=.int i/\d2=.int j/\C i j=true/\d=.int (z i j):=by
 cases d1 <;> cases d2 <;> simp only [oI] at h <;> first|(cases h;done)|skip
 split at h
 ·exact⟨_,_,rfl,rfl,by assumption,(mn h).symm⟩
 ·cases h
theorem qh4{z:Int->Int->Bool}{d1 d2 d:D}(h:oB z d1 d2=some d): ∃i j,d1=.int i/\d2=.int j/\d=.bl (z i j):=by
 cases d1 <;> cases d2 <;> simp only [oB] at h <;> first|(cases h;done)|skip
 exact⟨_,_,rfl,rfl,(mn h).symm⟩
theorem q5i{fv:Value->Value->Sem Value}{P:Int->Int->Prop}{C:Int->Int->Bool}{z:Int->Int->Int}(h:OpR X fv (rI P fun i j=>.int (z i j)))(hC:∀i j,C i j=true->P i j): OpR X fv (rD X.K (oI C z)):=
 q0r h fun x y H Q ⟨F,d1,d2,d,q1,q2,q3,q4,q5⟩=>by
  obtain⟨i,j,rfl,rfl,c,rfl⟩:=q6f q4;exact⟨i,j,rep_int.mp q2,rep_int.mp q3,hC i j c,q5 _ F H (.refl q1) (rep_int.mpr rfl)⟩
theorem qcz{fv:Value->Value->Sem Value}{z:Int->Int->Int}(h:OpR X fv (rI0 fun i j=>.int (z i j))): OpR X fv (rD X.K (oI (fun _ _=>true) z)):=
 q0r h fun x y H Q ⟨F,d1,d2,d,q1,q2,q3,q4,q5⟩=>by
  obtain⟨i,j,rfl,rfl,c,rfl⟩:=q6f q4;exact⟨i,j,rep_int.mp q2,rep_int.mp q3,q5 _ F H (.refl q1) (rep_int.mpr rfl)⟩
theorem q5j{fv:Value->Value->Sem Value}{z:Int->Int->Bool}(h:OpR X fv (rI0 fun i j=>.bl (z i j))): OpR X fv (rD X.K (oB z)):=
 q0r h fun x y H Q ⟨F,d1,d2,d,q1,q2,q3,q4,q5⟩=>by
  obtain⟨i,j,rfl,rfl,rfl⟩:=qh4 q4;exact⟨i,j,rep_int.mp q2,rep_int.mp q3,q5 _ F H (.refl q1) (rep_bl.mpr rfl)⟩
abbrev oAdd:=oI (fun _ _=>true) fun i j=>i+j
abbrev oSub:=oI (fun _ _=>true) fun i j=>i-j
abbrev oMul:=oI (fun i j=>(decide (-(2 ^ 64)<i)&&decide (i<2 ^ 64)) || (decide (-(2 ^ 64)<j)&&decide (j<2 ^ 64))) fun i j=>i*j
abbrev oDiv:=oI (fun _ j=>decide (0<j)&&decide (j<1073741824)) fun i j=>i / j
abbrev oMod:=oI (fun _ j=>decide (0<j)) fun i j=>i%j
theorem q24{p q:Prop}[Decidable p][Decidable q](h:(decide p&&decide q)=true): p/\q:=by simpa using h
theorem qiy:OpR X (binaryOp .Add) (rD X.K oAdd):=qcz qid
theorem kl:OpR X (binaryOp .Sub) (rD X.K oSub):=qcz qie
theorem qiz:OpR X (binaryOp .Mult) (rD X.K oMul):=q5i qif fun i j h=>by
 rcases uy _ _ ▸ h with z|z
 ·exact .inl (q24 z)
 ·exact .inr (q24 z)
theorem q0x:OpR X (binaryOp .FloorDiv) (rD X.K oDiv):=q5i qgq fun i j h=>q24 h
theorem zm:OpR X (binaryOp .Mod) (rD X.K oMod):=q5i qig fun i j h=>uf h
abbrev oPow:=oI (fun i j=>decide (0<=j)&&(decide (j<=1000000)&&decide (i.natAbs<2 ^ 64))) fun i j=>i ^ j.toNat
theorem qez{p q r:Prop}[Decidable p][Decidable q][Decidable r](h:(decide p&&(decide q&&decide r))=true): p/\q/\r:=by simpa using h
theorem q5k:OpR X (binaryOp .Pow) (rD X.K oPow):=q5i qih fun i j h=>qez h
abbrev oLt:=oB fun i j=>decide (i<j)
abbrev oLe:=oB fun i j=>decide (i<=j)
abbrev oGt:=oB fun i j=>decide (j<i)
abbrev oGe:=oB fun i j=>decide (j<=i)
theorem qkg:OpR X (compareOp .Lt) (rD X.K oLt):=q5j qk6
theorem qg7:OpR X (compareOp .LtE) (rD X.K oLe):=q5j qk7
theorem q01:OpR X (compareOp .Gt) (rD X.K oGt):=q5j qk8
theorem qg8:OpR X (compareOp .GtE) (rD X.K oGe):=q5j qk9
def flD:D->Option V
 | .non=>some .non
 | .bl b=>some (.bl b)
 | .int i=>some (.int i)
 | .str x=>some (.str x)
 | _=>none
theorem q41{K:Frag}{H:Hp}{d:D}{v u:V}(h:flD d=some u)(r:Rep K H d v): v=u:=by
 cases d <;> simp only [flD] at h <;> first|(cases h;done)|skip
 ·cases h;exact rep_non.mp r
 ·cases h;exact rep_bl.mp r
 ·cases h;exact rep_int.mp r
 ·cases h;exact rep_str.mp r
def qf0:D->D->Option D:=fun d e=>(flD d).bind fun x=>(flD e).bind fun y=>if q69 x y then some (.bl (decide (x=y))) else none
def q8p:D->D->Option D:=fun d e=>(flD d).bind fun x=>(flD e).bind fun y=>if q69 x y then some (.bl (!decide (x=y))) else none
theorem qj0:OpR X (compareOp .Eq) (rD X.K qf0):=q0r qk4 fun x y H Q ⟨F,d1,d2,d,q1,q2,q3,q4,q5⟩=>by
 obtain⟨u,h1,q4⟩:=g6.mp q4;obtain⟨w,h2,q4⟩:=g6.mp q4;cases q41 h1 q2;cases q41 h2 q3
 split at q4
 ·rename_i z
  cases q4;exact⟨z,q5 _ F H (.refl q1) (rep_bl.mpr rfl)⟩
 ·cases q4
theorem qd0:OpR X (compareOp .NotEq) (rD X.K q8p):=q0r qk5 fun x y H Q ⟨F,d1,d2,d,q1,q2,q3,q4,q5⟩=>by
 obtain⟨u,h1,q4⟩:=g6.mp q4;obtain⟨w,h2,q4⟩:=g6.mp q4;cases q41 h1 q2;cases q41 h2 q3
 split at q4
 ·rename_i z
  cases q4;exact⟨z,q5 _ F H (.refl q1) (rep_bl.mpr rfl)⟩
 ·cases q4
theorem q0y{op:CmpOp}{o:D->D->Option D}(ho:OpR X (compareOp op) (rD X.K o))(ha:PE X a (tD X.K f))(hb:PE X b (tD X.K g))(hm:behindInMarks op b=false:=by first|exact q8g _ (by decide) (by decide)|rfl):
  PE X (.Compare a [op] [b] pos) (tD X.K (eOp o f g)):=zj (qgr ho ha hb hm) fun σ H Q h=>two h
def q4z:D->Option Bool
 | .non=>some false
 | .bl b=>some b
 | .int i=>some (i != 0)
 | .tup ds=>some (!ds.isEmpty)
 | .lst ds=>some (!ds.isEmpty)
 | .str x=>if x.length<=lim then some ((x.length:Int) != 0) else none
 | _=>none
def bT(f:FE): FT:=fun ρ =>(f ρ).bind q4z
theorem qd1{K:Frag}{F H:Hp}{d:D}{b:Bool}{v:V}(h:q4z d=some b)(fh:Same F H)(r:Rep K F d v): qei K v H b:=by
 cases d with
 | non=>cases h;rw [rep_non.mp r];rfl
 | bl c=>cases h;rw [rep_bl.mp r];rfl
 | int i=>cases h;rw [rep_int.mp r];rfl
 | str x=>
  simp only [q4z] at h
  split at h
  ·rename_i z
   cases h;rw [rep_str.mp r];exact⟨y4 z,rfl⟩
  ·cases h
 | tup ds=>
  cases h;obtain⟨p,xs,rfl,q1,q2⟩:=rep_tup.mp r;refine .inr (.inl ⟨xs,qu fh q1,?_⟩);cases ds with
  | nil=>rw [q2.nil_inv];rfl
  | cons d ds=>obtain⟨y,r',rfl,_⟩:=q2.cons_inv;rfl
 | lst ds=>
  cases h;obtain⟨p,xs,rfl,q1,q2⟩:=rep_lst.mp r;refine .inl ⟨xs,fh.seq q1,?_⟩;cases ds with
  | nil=>rw [q2.nil_inv];rfl
  | cons d ds=>obtain⟨y,r',rfl,_⟩:=q2.cons_inv;rfl
 | dct _ _=>cases h
 | dtt _ _=>cases h
 | obj _=>cases h
 | exc _=>cases h
theorem vd(ha:PE X a (tD X.K f))(he:∀whole,isTrue a X.env whole=(do let v <- whole;standAt a.pos;holding [v] (truthy v)):=by intro _;rfl): PT X a (tDT X.K (bT f)):=
 q37 (q8h ha he) fun σ H Q ⟨F0,H0,F, ρ,b,r,hf,q⟩=>by
  obtain⟨d,h1,h2⟩:=g6.mp hf;exact⟨F0,H0,F, ρ,d,r,h1,fun v F' H' g' r'=>⟨b,qd1 h2 g'.fh r',q F' H' g'⟩⟩
def isB:D->Option Bool
 | .bl b=>some b
 | _=>none
def zc(o:D->D->Option D)(f g:FE): FT:=fun ρ =>(eOp o f g ρ).bind isB
theorem zg{op:CmpOp}{o:D->D->Option D}(ho:OpR X (compareOp op) (rD X.K o))(ha:PE X a (tD X.K f))(hb:PE X b (tD X.K g))(hm:behindInMarks op b=false:=by first|exact q8g _ (by decide) (by decide)|rfl):
  PT X (.Compare a [op] [b] pos) (tDT X.K (zc o f g)):=q37 (qgs ho ha hb hm) fun σ H Q ⟨F0,H0,F, ρ,c,r,hf,q⟩=>by
 obtain⟨d,h1,h2⟩:=g6.mp hf;refine two ⟨F0,H0,F, ρ,d,r,h1,fun v F' H' g' r'=>?_⟩;cases d <;> simp only [isB] at h2 <;> first|(cases h2;done)|skip
 cases h2;exact⟨_,rep_bl.mp r',q F' H' g'⟩
def km(t:FT): FT:=fun ρ =>(t ρ).map not
def q2j(t u:FT): FT:=fun ρ =>(t ρ).bind fun c=>if c then u ρ else some false
def bOr(t u:FT): FT:=fun ρ =>(t ρ).bind fun c=>if c then some true else u ρ
variable{t u:FT}{rest:List Expr}
theorem kn(ha:PT X a (tDT X.K t)): PT X (.UnaryOp .Not a pos) (tDT X.K (km t)):=q37 (qce ha) fun σ H Q ⟨F0,H0,F, ρ,c,r,hf,q⟩=>by
 obtain⟨d,h1,h2⟩:=gj.mp hf;subst h2;exact⟨F0,H0,F, ρ,d,r,h1,fun F' H' g'=>q F' H' g'⟩
theorem qd2{t t':TT}(h:PW X a t)(i:∀ σ H Q,t' σ H Q->t σ H Q): PW X a t':=fun wh pins s σ H Q I q=>h wh pins s σ H Q I (i σ H Q q)
theorem qau(ha:PT X a (tDT X.K t)): PW X (.BoolOp .And [a] pos) (tDT X.K t):=qgl ha
theorem q38(ha:PT X a (tDT X.K t)): PW X (.BoolOp .Or [a] pos) (tDT X.K t):=qi0 ha
theorem qd3(ha:PT X a (tDT X.K t))(hb:PW X (.BoolOp .And (b :: rest) pos) (tDT X.K u)): PW X (.BoolOp .And (a :: b :: rest) pos) (tDT X.K (q2j t u)):=qd2 (qi1 ha hb) fun σ H Q ⟨F0,H0,F, ρ,c,r,hf,q⟩=>by
 obtain⟨d,h1,h2⟩:=g6.mp hf;refine⟨F0,H0,F, ρ,d,r,h1,fun F' H' g'=>?_⟩;cases d with
 | true=>rw [gw rfl] at h2 ⊢;exact⟨F0,H0,F', ρ,c,r.grow g',h2,fun F2 H2 g2=>q F2 H2 (g'.trans g2)⟩
 | false=>rw [m7 gq] at h2 ⊢;cases h2;exact q F' H' g'
theorem q5l(ha:PT X a (tDT X.K t))(hb:PW X (.BoolOp .Or (b :: rest) pos) (tDT X.K u)): PW X (.BoolOp .Or (a :: b :: rest) pos) (tDT X.K (bOr t u)):=qd2 (qjx ha hb) fun σ H Q ⟨F0,H0,F, ρ,c,r,hf,q⟩=>by
 obtain⟨d,h1,h2⟩:=g6.mp hf;refine⟨F0,H0,F, ρ,d,r,h1,fun F' H' g'=>?_⟩;cases d with
 | false=>rw [m7 gq] at h2 ⊢;exact⟨F0,H0,F', ρ,c,r.grow g',h2,fun F2 H2 g2=>q F2 H2 (g'.trans g2)⟩
 | true=>rw [gw rfl] at h2 ⊢;cases h2;exact q F' H' g'
def yq(f g:FE): FE:=fun ρ =>(f ρ).bind fun x=>(isB x).bind fun c=>if c then g ρ else some (.bl false)
def eOr(f g:FE): FE:=fun ρ =>(f ρ).bind fun x=>(isB x).bind fun c=>if c then some (.bl true) else g ρ
def q6g(f:FE): FE:=fun ρ =>(f ρ).bind fun x=>(isB x).map fun c=>.bl (!c)
def eIf(t:FT)(f g:FE): FE:=fun ρ =>(t ρ).bind fun c=>if c then f ρ else g ρ
theorem q50{d:D}{c:Bool}(h:isB d=some c): d=.bl c:=by
 cases d <;> simp only [isB] at h <;> first|(cases h;done)|skip
 rw [mn h]
theorem q25{op}(h:PE X a (tD X.K f)): PE X (.BoolOp op [a] pos) (tD X.K f):=qi2 h
theorem q08(ha:PE X a (tD X.K f))(hb:PE X (.BoolOp .And (b :: rest) pos) (tD X.K g)): PE X (.BoolOp .And (a :: b :: rest) pos) (tD X.K (yq f g)):=zj (qi3 ha hb) fun σ H Q ⟨F0,H0,F, ρ,d,r,hf,q⟩=>by
 obtain⟨x,h1,hf⟩:=g6.mp hf;obtain⟨c,h2,h3⟩:=g6.mp hf;refine⟨F0,H0,F, ρ,x,r,h1,fun v F' H' g' r'=>?_⟩;rw [q50 h2] at r';refine⟨c,rep_bl.mp r',?_⟩;cases c with
 | true=>rw [gw rfl] at h3 ⊢;exact⟨F0,H0,F', ρ,d,r.grow g',h3,fun w F2 H2 g2 r2=>q w F2 H2 (g'.trans g2) r2⟩
 | false=>rw [m7 gq] at h3 ⊢;cases h3;exact q _ F' H' g' (rep_bl.mpr rfl)
theorem qd4(ha:PE X a (tD X.K f)): PE X (.UnaryOp .Not a pos) (tD X.K (q6g f)):=zj (qi4 ha) fun σ H Q ⟨F0,H0,F, ρ,d,r,hf,q⟩=>by
 obtain⟨x,h1,hf⟩:=g6.mp hf;obtain⟨c,h2,h3⟩:=gj.mp hf;subst h3;refine⟨F0,H0,F, ρ,x,r,h1,fun v F' H' g' r'=>?_⟩;rw [q50 h2] at r';exact⟨c,rep_bl.mp r',q _ F' H' g' (rep_bl.mpr rfl)⟩
theorem qg9{c:Expr}(hc:PT X c (tDT X.K t))(ha:PE X a (tD X.K f))(hb:PE X b (tD X.K g)): PE X (.IfExp c a b pos) (tD X.K (eIf t f g)):=zj (qec hc ha hb) fun σ H Q ⟨F0,H0,F, ρ,d,r,hf,q⟩=>by
 obtain⟨x,h1,h2⟩:=g6.mp hf;refine⟨F0,H0,F, ρ,x,r,h1,fun F' H' g'=>?_⟩;cases x with
 | true=>rw [gw rfl] at h2 ⊢;exact⟨F0,H0,F', ρ,d,r.grow g',h2,fun w F2 H2 g2 r2=>q w F2 H2 (g'.trans g2) r2⟩
 | false=>rw [m7 gq] at h2 ⊢;exact⟨F0,H0,F', ρ,d,r.grow g',h2,fun w F2 H2 g2 r2=>q w F2 H2 (g'.trans g2) r2⟩
end
section
variable{X:Cx}{e:Expr}{es:List Expr}{pos:Pos}{f g:FE}{fa:FA}
def notStar:Expr->Bool
 | .Starred _ _=>false
 | _=>true
theorem q6h{e:Expr}{es:List Expr}{env:Env}(h:notStar e=true): starEach (e :: es) env=(false,eval e env) :: starEach es env:=by
 cases e <;> first|rfl|cases h
def qf:FA:=fun _=>some []
def qa(f:FE)(fa:FA): FA:=fun ρ =>(f ρ).bind fun d=>(fa ρ).map fun ds=>d :: ds
theorem qd:PA X [] (tDA X.K qf):=q5h q8i fun σ H Q ⟨F0,H0,F, ρ,ds,r,hf,q⟩=>by
 cases hf;exact q [] F H (.refl r.fh) .nil
theorem qh5(ha:PE X e (tD X.K f))(hr:PA X es (tDA X.K fa))(hs:starEach (e :: es) X.env=(false,eval e X.env) :: starEach es X.env:=by first|exact q6h rfl|rfl): PA X (e :: es) (tDA X.K (qa f fa)):=
 q5h (q22 ha hr hs) fun σ H Q ⟨F0,H0,F, ρ,ds,r,hf,q⟩=>by
  obtain⟨d,h1,hf⟩:=g6.mp hf;obtain⟨ds',h2,h3⟩:=gj.mp hf;subst h3;refine⟨F0,H0,F, ρ,d,r,h1,fun v F1 H1 g1 r1=>⟨F0,H0,F1, ρ,ds',r.grow g1,h2,fun vs F2 H2 g2 r2=>?_⟩⟩;exact q _ F2 H2 (g1.trans g2) (.cons (r1.mono g2.ff) r2)
def v3(fa:FA): FE:=fun ρ =>(fa ρ).bind fun ds=>if ds.length<=lim then some (.tup ds) else none
def v5(fa:FA): FA:=fun ρ =>(fa ρ).bind fun ds=>if ds.length<=lim then some ds else none
theorem xh{x1}(h:PA X es (tDA X.K fa)): PE X (.Tuple es x1 pos) (tD X.K (v3 fa)):=zj (qil h) fun σ H Q ⟨F0,H0,F, ρ,d,r,hf,q⟩=>by
 obtain⟨ds,h1,h2⟩:=g6.mp hf
 split at h2
 ·rename_i hl
  cases h2;refine⟨F0,H0,F, ρ,ds,r,h1,fun vs F1 H1 g1 r1=>⟨y4 (by rw [<- r1.length];exact hl),fun p hp=>?_⟩⟩;have gn:Grow F1 H1 (upd F1 p (.tup vs)) (upd H1 p (.tup vs)):=Grow.new g1.fh hp;exact q _ _ _ (g1.trans gn) (rep_tup.mpr ⟨p,vs,rfl,SqT.of qz,r1.mono gn.ff⟩)
 ·cases h2
theorem ve(h:PA X es (tDA X.K fa)): PE X (.List es pos) (tL X.K (v5 fa)):=zj (qim h) fun σ H Q ⟨F0,H0,F, ρ,ds,r,hf,q⟩=>by
 obtain⟨ds',h1,h2⟩:=g6.mp hf
 split at h2
 ·rename_i hl
  cases h2;refine⟨F0,H0,F, ρ,ds,r,h1,fun vs F1 H1 g1 r1=>⟨y4 (by rw [<- r1.length];exact hl),fun p hp=>?_⟩⟩;exact q p vs F1 (upd H1 p (.lst vs)) (g1.trans (Grow.own g1.fh hp)) (g1.fh.free hp) (g1.hh.free hp) qz r1
 ·cases h2
def eL(fa:FA): FE:=fun ρ =>(fa ρ).map .lst
theorem y6(h:PE X e (tL X.K fa)): PE X e (tD X.K (eL fa)):=zj h fun σ H Q ⟨F0,H0,F, ρ,d,r,hf,q⟩=>by
 obtain⟨ds,h1,h2⟩:=gj.mp hf;subst h2;refine⟨F0,H0,F, ρ,ds,r,h1,fun a xs F1 H1 g1 fa' ha' hl r1=>?_⟩;have sF:Same F1 (upd F1 a (.lst xs)):=q2h fa';refine q _ (upd F1 a (.lst xs)) H1 ⟨g1.ff.trans sF,g1.hh,fun b o z=>?_,fun b hb=>?_⟩ (rep_lst.mpr ⟨a,xs,rfl,SqL.of qz,r1.mono sF⟩)
 ·by_cases q':b=a
  ·subst q';rw [qz] at z;cases z;exact hl
  ·rw [ql q'] at z;exact g1.fh b o z
 ·by_cases q':b=a
  ·subst q';exact .inr ha'
  ·rw [ql q'] at hb;exact g1.nw b hb
def rC(K:Frag)(op:List D->Option D): List V->Hp->VK->Prop:=fun xs H Q=>∃F ds d,Same F H/\RepL K F ds xs/\op ds=some d/\∀v F' H',Grow F H F' H'->Rep K F' d v->Q v H'
def qg(op:List D->Option D)(fa:FA): FE:=fun ρ =>(fa ρ).bind op
theorem q1k{f:Value}{r r':List V->Hp->VK->Prop}(h:xf X f r)(i:∀xs H Q,r' xs H Q->r xs H Q): xf X f r':=fun pins s σ H xs us Q I rv q=>h pins s σ H xs us Q I rv (i xs H Q q)
theorem qd5{K:Frag}{op:List D->Option D}{σ : St}{H:Hp}{Q:VK}(h:tD K (qg op fa) σ H Q): tDA K fa σ H fun vs H1=>rC K op vs H1 Q:=by
 obtain⟨F0,H0,F, ρ,d,r,hf,q⟩:=h;obtain⟨ds,h1,h2⟩:=g6.mp hf;exact⟨F0,H0,F, ρ,ds,r,h1,fun vs F1 H1 g1 r1=>⟨F1,ds,d,g1.fh,r1,h2,fun v F2 H2 g2 r2=>q v F2 H2 (g1.trans g2) r2⟩⟩
theorem qv{x:Str}{p:Pos}{id:String}{op:List D->Option D}(hc:xf X (.builtin id) (rC X.K op))(hg:Gl X x)(hm:X.mg x=none)(hv:bootBuiltins x=some (.builtin id))(ha:PA X (e :: es) (tDA X.K fa))
  (hn:x≠"__name__" :=by decide) (hdb:(x==("__debug__" : Str))=false:=by decide)
  (he:starEach (e :: es) X.env=(false,eval e X.env) :: starEach es X.env:=by rfl) (hpl:(backTo pos (starEach es X.env)).any (·.1)=false:=by rfl):PE X (.Call (.Name x p) (e :: es) [] pos) (tD X.K (qg op fa)):=
 zj (q8l hc hg hm hv ha hn hdb he hpl) fun σ H Q h=>qd5 h
theorem q09{x:Str}{p:Pos}{T:String}{op:List D->Option D}(hc:xf X (.type T) (rC X.K op))(hg:Gl X x)(hm:X.mg x=none)(hv:bootBuiltins x=some (.type T))(ha:PA X (e :: es) (tDA X.K fa))
  (hn:x≠"__name__" :=by decide) (hdb:(x==("__debug__" : Str))=false:=by decide)
  (he:starEach (e :: es) X.env=(false,eval e X.env) :: starEach es X.env:=by rfl) (hpl:(backTo pos (starEach es X.env)).any (·.1)=false:=by rfl):PE X (.Call (.Name x p) (e :: es) [] pos) (tD X.K (qg op fa)):=
 zj (qcq hc hg hm hv ha hn hdb he hpl) fun σ H Q h=>qd5 h
def spD(K:Frag)(ar:Nat)(op:List D->Option D): Sp:=fun vs H Q _=>∃F ds d,SameT F H/\RepL K F ds vs/\ds.length=ar/\op ds=some d/\∀v F' H',Grow F H F' H'->Rep K F' d v->Q v H'
def qq(ar:Nat)(dds:List D)(op:List D->Option D): List D->Option D:=fun ds=>if(ds++dds).length=ar then op (ds++dds) else none
theorem qh6{k ar:Nat}{fn:Addr}{fd:FuncData}{ps:List Str}{op:List D->Option D}{x:Str}{p:Pos}{dvs:List V}{dds:List D}{dv:List Value}(F:FnOk X.prog X.w X.K X.mg X.base CX0 k fn fd ps (spD X.K ar op))(hr:Room k X.A)(hg:Gl X x)(hm:X.mg x=some (.ref fn))(hk:PySem.W.keepIn X.K (.ref fn)=true)
  (hb:Binds X.K fd ps dv) (hd:Vals dvs dv) (hdd:∀H,RepL X.K H dds dvs) (ha:PA X (e :: es) (tDA X.K fa)) (hdb:(x==("__debug__" : Str))=false:=by decide)
  (he:starEach (e :: es) X.env=(false,eval e X.env) :: starEach es X.env:=by rfl) (hpl:(backTo pos (starEach es X.env)).any (·.1)=false:=by rfl) :
  PE X (.Call (.Name x p) (e :: es) [] pos) (tD X.K (qg (qq ar dds op) fa)):=
 zj (q6a F hr hg hm hk hb hd q40 ha hdb he hpl) fun σ H Q ⟨F0,H0,Fz, ρ,d,r,hf,q⟩=>by
  obtain⟨ds,h1,h2⟩:=g6.mp hf;unfold qq at h2
  split at h2
  ·rename_i hl
   exact⟨F0,H0,Fz, ρ,ds,r,h1,fun vs F1 H1 g1 r1=>⟨F1,ds++dds,d,r.sameT g1,r1.append (hdd F1),hl,h2,fun v F2 H2 g2 r2=>q v F2 H2 (g1.trans g2) r2⟩⟩
  ·cases h2
end
section
variable{X:Cx}{st:Stmt}{rest:List Stmt}{e:Expr}{pos:Pos}{f:FE}{fa:FA}{t:FT}{u w:FS}
def zt:FS:=fun ρ =>some (.nx, ρ)
def qp(u w:FS): FS:=fun ρ =>(u ρ).bind fun r=>match r with
 | (.nx, ρ')=>w ρ'
 | (fl, ρ')=>some (fl, ρ')
def sIf(t:FT)(u w:FS): FS:=fun ρ =>(t ρ).bind fun c=>if c then u ρ else w ρ
def zo(i:Nat)(f:FE): FS:=fun ρ =>(f ρ).map fun d=>(.nx, ρ.set i (some (.fz d)))
def q1s(i:Nat)(fa:FA): FS:=fun ρ =>(fa ρ).map fun ds=>(.nx, ρ.set i (some (.ow ds)))
def za(f:FE): FS:=fun ρ =>(f ρ).map fun d=>(.rt d, ρ)
def qkh:FS:=fun ρ =>some (.rt .non, ρ)
def qli:FS:=fun ρ =>some (.bk, ρ)
def qlj:FS:=fun ρ =>some (.ct, ρ)
def qki(f:FE): FS:=fun ρ =>(f ρ).map fun _=>(.nx, ρ)
theorem zh:PSs X [] (tDS X.K zt):=q6e qgm fun D σ H ⟨F0,H0,F, ρ,fl, ρ',r,hf,q⟩=>by
 cases hf;exact q σ F H (.refl _) r
theorem wd{K:Frag}{F0 H0 F F':Hp}{D:Ends}{fl:Fl}{ρ':Rho}(s:Same F F')(h:qbt K F0 H0 F D fl ρ'): qbt K F0 H0 F' D fl ρ':=by
 cases fl with
 | nx=>exact fun σ' F2 H2 s2 r=>h σ' F2 H2 (s.trans s2) r
 | bk=>exact fun σ' F2 H2 s2 r=>h σ' F2 H2 (s.trans s2) r
 | ct=>exact fun σ' F2 H2 s2 r=>h σ' F2 H2 (s.trans s2) r
 | rt d=>exact h
theorem qi(h1:PS X st (tDS X.K u))(h2:PSs X rest (tDS X.K w)): PSs X (st :: rest) (tDS X.K (qp u w)):=q6e (qed h1 h2) fun D σ H ⟨F0,H0,F, ρ,fl, ρ',r,hf,q⟩=>by
 obtain⟨⟨fl1, ρ1⟩,h3,h4⟩:=g6.mp hf;refine⟨F0,H0,F, ρ,fl1, ρ1,r,h3,?_⟩;cases fl1 with
 | nx=>exact fun σ' F' H' s r'=>⟨F0,H0,F', ρ1,fl, ρ',r',h4,wd s q⟩
 | bk=>cases h4;exact q
 | ct=>cases h4;exact q
 | rt d=>cases h4;exact q
theorem qj(h1:PS X st (tDS X.K u)): PSs X [st] (tDS X.K u):=qgn h1
theorem j5{c:Expr}{a b:List Stmt}(hc:PT X c (tDT X.K t))(ha:PSs X a (tDS X.K u))(hb:PSs X b (tDS X.K w)): PS X (.If c a b pos) (tDS X.K (sIf t u w)):=xg (qg3 hc ha hb) fun D σ H ⟨F0,H0,F, ρ,fl, ρ',r,hf,q⟩=>by
 obtain⟨c,h1,h2⟩:=g6.mp hf;refine⟨F0,H0,F, ρ,c,r,h1,fun F' H' g'=>?_⟩;cases c with
 | true=>rw [gw rfl] at h2 ⊢;exact⟨F0,H0,F', ρ,fl, ρ',r.grow g',h2,wd g'.ff q⟩
 | false=>rw [m7 gq] at h2 ⊢;exact⟨F0,H0,F', ρ,fl, ρ',r.grow g',h2,wd g'.ff q⟩
theorem qw(he:PE X e (tD X.K f)): PS X (.Return (some e) pos) (tDS X.K (za f)):=xg (qcf he) fun D σ H ⟨F0,H0,F, ρ,fl, ρ',r,hf,q⟩=>by
 obtain⟨d,h1,h2⟩:=gj.mp hf;cases h2;exact⟨F0,H0,F, ρ,d,r,h1,fun v F' H' g' r'=>q v σ F' H' (r.grow g') r'⟩
theorem qkj{K:Frag}{i:Nat}{D:Ends}{σ : St}{H:Hp}(h:tDS K (zo i f) D σ H): tD K f σ H fun x H1=>q85 i x σ H1 D.nx:=by
 obtain⟨F0,H0,F, ρ,fl, ρ',r,hf,q⟩:=h;obtain⟨d,h1,h2⟩:=gj.mp hf;cases h2;exact⟨F0,H0,F, ρ,d,r,h1,fun v F' H' g' r'=>q _ F' H' g'.ff ((r.grow g').set i r')⟩
theorem qkk{K:Frag}{i:Nat}{D:Ends}{σ : St}{H:Hp}(h:tDS K (q1s i fa) D σ H): tL K fa σ H fun x H1=>q85 i x σ H1 D.nx:=by
 obtain⟨F0,H0,F, ρ,fl, ρ',r,hf,q⟩:=h;obtain⟨ds,h1,h2⟩:=gj.mp hf;cases h2;refine⟨F0,H0,F, ρ,ds,r,h1,fun a xs F' H' g' fa' ha' hl r'=>q _ F' H' g'.ff ((r.grow g').setO i hl fa' (r.g.hh.free ha') r' (fun j es z1 z2=>?_) fun j kvs z1=>?_)⟩
 ·obtain⟨b,ys,e1,e2,_⟩:=r.ow j es z1
  rw [z2] at e1;obtain rfl:a=b:=by simpa using e1
  rw [ha'] at e2;cases e2
 ·obtain⟨b,bs,e1,e2,e3⟩:=r.od j kvs z1
  refine⟨b,bs,e1,e2.grow g',fun z=>?_,e3⟩;obtain⟨xs,f,_⟩:=e2.mem z;rw [ha'] at f;cases f
theorem zq{i:Nat}{x:Str}{px:Pos}(hN:X.N.Nodup)(hi:X.N[i]? = some x)(hx:Loc X.env.scope x)(he:PE X e (tD X.K f))(hs:swapsWith e (some (.Name x px)) pos.line X.env=pure false:=by rfl)(hf:X.fn x=true\/X.env.scope.names.lookup x=some .local:=by first|exact .inl rfl|exact .inr rfl|assumption):
  PS X (.Assign [.Name x px] e pos) (tDS X.K (zo i f)):=xg (q5c hN hi hx he hs hf) fun D σ H h=>qkj h
theorem q39{i:Nat}{x:Str}{px:Pos}(hN:X.N.Nodup)(hi:X.N[i]? = some x)(hx:Loc X.env.scope x)(he:PE X e (tL X.K fa))(hs:swapsWith e (some (.Name x px)) pos.line X.env=pure false:=by rfl)(hf:X.fn x=true\/X.env.scope.names.lookup x=some .local:=by first|exact .inl rfl|exact .inr rfl|assumption):
  PS X (.Assign [.Name x px] e pos) (tDS X.K (q1s i fa)):=xg (q5c hN hi hx he hs hf) fun D σ H h=>qkk h
def qbu(i:Nat)(ρ : Rho): Option (List D):=match ρ[i]? with
 | some (some (.ow ds))=>some ds
 | _=>none
theorem qd6{i:Nat}{ρ : Rho}{ds:List D}(h:qbu i ρ = some ds): ρ[i]? = some (some (.ow ds)):=by
 unfold qbu at h
 split at h
 ·rename_i e;rw [e,mn h]
 ·cases h
def q3a(i:Nat)(f:FE): FS:=fun ρ =>(qbu i ρ).bind fun ds=>(f ρ).bind fun d=>if ds.length<lim then some (.nx, ρ.set i (some (.ow (ds++[d])))) else none
theorem q3b{i:Nat}{x:Str}{px apos cpos:Pos}(hv:PE X (.Name x px) (q2g i))(he:PE X e (tD X.K f))
  (hbase:attributeBase (.Name x px) "append" X.env (eval (.Name x px) X.env)=eval (.Name x px) X.env:=by rfl)
  (hfew:((backTo cpos (starEach [e] X.env)).all (fun x=> !x.1)&&(backToKw cpos (keywordEach [] X.env)).all (fun x=>x.1.isSome)&&decide ([e].length+([]:List Keyword).length+(if([]:List Keyword).isEmpty then 0 else 1)<30))=true:=by rfl)
  (hline:(apos.endLine==cpos.line)=true:=by rfl) (hse:starEach [e] X.env=(false,eval e X.env) :: starEach [] X.env:=by rfl)
  (hs:swapsWith (.Call (.Attribute (.Name x px) "append" apos) [e] [] cpos) none pos.line X.env=pure false:=by rfl):PS X (.Expr (.Call (.Attribute (.Name x px) "append" apos) [e] [] cpos) pos) (tDS X.K (q3a i f)):=
 xg (qal (qkf PySem.F.plainAttrs_list PySem.F.slot_list_append PySem.F.type_list_append q75 hv (q22 he q8i hse) hbase hfew hline hse rfl) hs) fun D σ H ⟨F0,H0,F, ρ,fl, ρ',r,hf,q⟩=>by
  obtain⟨ds,h1,hf⟩:=g6.mp hf;obtain⟨d,h2,h3⟩:=g6.mp hf;have h1:=qd6 h1
  split at h3
  ·rename_i hl
   cases h3;obtain⟨a,xs,e1,e2,e3,e4,e5⟩:=r.ow i ds h1;refine⟨.ref a,e1,.inl ⟨rfl,xs,SqL.of e2⟩,F0,H0,F, ρ,d,r,h2,fun v F' H' g' r'=>?_⟩;have r2:=r.grow g';refine⟨a,xs,v,rfl,rfl,g'.hh.lst _ _ e2,q76 (by rw [<- e5.length];exact hl),?_⟩;exact q _ F' _ g'.ff (r2.wrt h1 e1 ((e5.mono g'.ff).append (.cons r' .nil)))
  ·cases h3
def frz(i:Nat)(ρ : Rho): Rho:=match ρ[i]? with
 | some (some (.ow ds))=> ρ.set i (some (.fz (.lst ds)))
 | _=> ρ
def q2k(i:Nat)(u:FS): FS:=fun ρ =>u (frz i ρ)
theorem qj1{K:Frag}{F0 H0 F H:Hp}{σ : St}{ρ : Rho}(i:Nat)(r:RS K F0 H0 F H σ ρ): ∃F',Same F F'/\RS K F0 H0 F' H σ (frz i ρ):=by
 unfold frz
 split
 ·rename_i ds h
  exact r.freeze h
 ·exact⟨F,.refl _,r⟩
theorem q3c(i:Nat){sts:List Stmt}(h:PSs X sts (tDS X.K u)): PSs X sts (tDS X.K (q2k i u)):=q6e h fun D σ H ⟨F0,H0,F, ρ,fl, ρ',r,hf,q⟩=>by
 obtain⟨F',s',r'⟩:=qj1 i r;exact⟨F0,H0,F',frz i ρ,fl, ρ',r',hf,wd s' q⟩
end
def zd(n:Nat)(u:FS)(ds:List D): Option D:=match u (ds.map (fun d=>some (.fz d))++List.replicate (n-ds.length) none) with
 | some (.rt d,_)=>some d
 | some (.nx,_)=>some .non
 | _=>none
theorem qd7{N:List Str}{vs:List V}{i:Nat}{v:V}(h:vs[i]? = some v): (L2.start N vs)[i]? = some (some v):=by
 unfold L2.start;have hi:i<vs.length:=(my.mp h).1;rw [mq (by simpa using hi),ma,h];rfl
theorem qj2{P:Program}{w:World}{K:Frag}{H:Hp}{vs:List V}{Q:VK}{N:List Str}{u:FS}{ar:Nat}{E:XK}(hl:ar<=N.length)(h:spD K ar (zd N.length u) vs H Q E): tDS K u {nx:=fun _ H'=>Q .non H',rt:=Q} (L2.start N vs) H:=by
 obtain⟨F,ds,d,fh,rl,el,hd,q⟩:=h;have hlen:=rl.length;have r:RS K F H F H (L2.start N vs) (ds.map (fun d=>some (.fz d))++List.replicate (N.length-ds.length) none):={
  t0:=⟨fh.t,fh.f⟩
  g:=.refl fh.s
  len:=by unfold L2.start;simp only [m9,gv,uq];omega
  fz :=fun i e h1=>by
   by_cases hi:i<ds.length
   ·rw [mq (by simpa using hi),ma] at h1
    cases z:ds[i]? with
    | none=>rw [z] at h1;cases h1
    | some d'=>
     rw [z] at h1;cases h1;obtain⟨v,e1,e2⟩:=rl.get z;exact⟨v,qd7 e1,e2⟩
   ·rw [mx (by simpa using hi),n9] at h1
    split at h1 <;> cases h1
  ow:=fun i es h1=>by
   by_cases hi:i<ds.length
   ·rw [mq (by simpa using hi),ma] at h1
    cases z:ds[i]? with
    | none=>rw [z] at h1;cases h1
    | some d'=>rw [z] at h1;cases h1
   ·rw [mx (by simpa using hi),n9] at h1
    split at h1 <;> cases h1
  dj:=fun i j us es a _ h1=>by
   by_cases hi:i<ds.length
   ·rw [mq (by simpa using hi),ma] at h1
    cases z:ds[i]? with
    | none=>rw [z] at h1;cases h1
    | some d'=>rw [z] at h1;cases h1
   ·rw [mx (by simpa using hi),n9] at h1
    split at h1 <;> cases h1
  od:=fun i kvs h1=>by
   by_cases hi:i<ds.length
   ·rw [mq (by simpa using hi),ma] at h1
    cases z:ds[i]? with
    | none=>rw [z] at h1;cases h1
    | some d'=>rw [z] at h1;cases h1
   ·rw [mx (by simpa using hi),n9] at h1
    split at h1 <;> cases h1
  o1:=fun i j k1 k2 h1=>by
   by_cases hi:i<ds.length
   ·rw [mq (by simpa using hi),ma] at h1
    cases z:ds[i]? with
    | none=>rw [z] at h1;cases h1
    | some d'=>rw [z] at h1;cases h1
   ·rw [mx (by simpa using hi),n9] at h1
    split at h1 <;> cases h1}
 unfold zd at hd;cases z:u (ds.map (fun d=>some (.fz d))++List.replicate (N.length-ds.length) none) with
 | none=>rw [z] at hd;cases hd
 | some p=>
  obtain⟨fl, ρ'⟩:=p;rw [z] at hd;refine⟨F,H,F,_,fl, ρ',r,z,?_⟩;cases fl with
  | nx=>cases hd;exact fun σ' F' H' s' r'=>q .non F' H' r'.g (rep_non.mpr rfl)
  | bk=>cases hd
  | ct=>cases hd
  | rt d'=>cases hd;exact fun v σ' F' H' g' r'=>q v F' H' g'.g r'
theorem qkl{P:Program}{w:World}{K:Frag}{mg:Str->Option Value}{base:Heap}{k:Nat}{f:Addr}{name qual:Str}{params:Arguments}{body:List Stmt}{scope:Scope}{dV kV doc pm cdv ct oc:Value}{an od:Option Addr}
  {osl:Array (Option Value)} {N ps:List Str} {u:FS} (lk:K.lookup f=some ⟨oc,od,.func (PySem.W.fnOf name qual params body scope dV kV doc pm an cdv ct),osl⟩) (hcd:PySem.W.codeIn K cdv qual=true) (S:FnScope N ps scope)
  (hb:∀(A:Around) (outer:List Env) (s:Shared) (H:Hp) (E:XK),Room k (A.deeper (envOfC qual scope s.heap.objs.size f cdv))->PSs (zk CX0 P w K mg base N qual scope f cdv A outer s H E).nox body (tDS K u)) :
  FnOk P w K mg base CX0 (k+1) f (PySem.W.fnOf name qual params body scope dV kV doc pm an cdv ct) ps (spD K ps.length (zd N.length u)):=by
 have hpl:ps.length<=N.length:=by have:=pb List.length S.pre;rw [t9] at this;omega
 refine qg5 lk hcd S (fun vs H Q E h=>?_) fun A outer s H vs Q E hr hsp=>⟨_,(hb A outer s H E hr).nox,qj2 (P:=P) (w:=w) hpl hsp⟩
 obtain⟨F,ds,d,_,rl,el,_⟩:=h;rw [<- rl.length];exact el
structure ItD(K:Frag)(F:Hp)(ds:List D)(J:It): Prop where
 go:∀(i:Nat) (F' H:Hp),Same F F'->Same F' H->i<ds.length->J.go i H
 yld:∀(i:Nat) (d:D) (F' H:Hp) (x:V) (H':Hp),Same F F'->Same F' H->ds[i]? = some d->J.yld i H x H'->∃F'',Grow F' H F'' H'/\Rep K F'' d x
 stop:∀(i:Nat) (F' H:Hp),Same F F'->Same F' H->ds.length<=i->J.stop i H
def tDI(K:Frag)(f:FA): TI:=fun σ H R=>∃F0 H0 F ρ ds,RS K F0 H0 F H σ ρ /\ f ρ = some ds/\∀J F' H',Grow F H F' H'->ItD K F' ds J->R J H'
abbrev FB:=D->Rho->Option Rho
abbrev FBs:=List D->Rho->Option Rho
def tDG(K:Frag)(b:FB): TG:=fun v σ H Q=>∃F0 H0 F ρ d ρ',RS K F0 H0 F H σ ρ /\ Rep K F d v/\b d ρ = some ρ'/\∀ σ',RS K F0 H0 F H σ' ρ'->Q σ' H
def q8q(K:Frag)(b:FBs): TGs:=fun vs σ H Q=>∃F0 H0 F ρ ds ρ',RS K F0 H0 F H σ ρ /\ RepL K F ds vs/\b ds ρ = some ρ'/\∀ σ',RS K F0 H0 F H σ' ρ'->Q σ' H
section
variable{X:Cx}{tg e:Expr}{es:List Expr}{pos:Pos}
theorem q8r{t t':TI}(h:PI X tg e t)(i:∀ σ H R,t' σ H R->t σ H R): PI X tg e t':=fun pins s σ H R I q=>h pins s σ H R I (i σ H R q)
theorem q8s{t t':TG}(h:PG X e t)(i:∀v σ H Q,t' v σ H Q->t v σ H Q): PG X e t':=fun pins s σ H v u Q I r q=>h pins s σ H v u Q I r (i v σ H Q q)
theorem qav{t t':TGs}(h:PGs X es t)(i:∀v σ H Q,t' v σ H Q->t v σ H Q): PGs X es t':=fun pins s σ H v u Q I r q=>h pins s σ H v u Q I r (i v σ H Q q)
def bN(i:Nat): FB:=fun d ρ =>some (ρ.set i (some (.fz d)))
def j6:FBs:=fun ds ρ =>if ds.isEmpty then some ρ else none
def qs(b:FB)(bs:FBs): FBs:=fun ds ρ =>match ds with
 | d :: r=>(b d ρ).bind fun ρ'=>bs r ρ'
 | []=>none
def je(n:Nat)(bs:FBs): FB:=fun d ρ =>match d with
 | .tup ds=>if ds.length=n then bs ds ρ else none
 | _=>none
theorem qx{i:Nat}{x:Str}(hN:X.N.Nodup)(hi:X.N[i]? = some x)(hx:Loc X.env.scope x)(hf:X.fn x=true\/X.env.scope.names.lookup x=some .local:=by first|exact .inl rfl|exact .inr rfl|assumption): PG X (.Name x pos) (tDG X.K (bN i)):=
 q8s (qgo hN hi hx hf) fun v σ H Q ⟨F0,H0,F, ρ,d, ρ',r,hr,hb,q⟩=>by
  cases hb;exact q _ (r.set i hr)
theorem y8:PGs X [] (q8q X.K j6):=qav qgp fun vs σ H Q ⟨F0,H0,F, ρ,ds, ρ',r,hr,hb,q⟩=>by
 unfold j6 at hb
 split at hb
 ·rename_i z
  cases hb;have z':ds=[]:=by simpa using z
  subst z';exact⟨hr.nil_inv,q σ r⟩
 ·cases hb
theorem zb{b:FB}{bs:FBs}(h1:PG X e (tDG X.K b))(h2:PGs X es (q8q X.K bs))(hs:(assignEach (e :: es) X.env).map (·.2)=assign e X.env :: (assignEach es X.env).map (·.2):=by rfl): PGs X (e :: es) (q8q X.K (qs b bs)):=
 qav (qee h1 h2 hs) fun vs σ H Q ⟨F0,H0,F, ρ,ds, ρ',r,hr,hb,q⟩=>by
  cases ds with
  | nil=>cases hb
  | cons d ds=>
   obtain⟨v,vr,rfl,h3,h4⟩:=hr.cons_inv;obtain⟨ρ1,h5,h6⟩:=g6.mp hb;exact⟨v,vr,rfl,F0,H0,F, ρ,d, ρ1,r,h3,h5,fun σ' r'=>⟨F0,H0,F, ρ1,ds, ρ',r',h4,h6,q⟩⟩
theorem ko{k n:Nat}{bs:FBs}(hc:X.calm=true)(h:PGs X es (q8q X.K bs))(hn:(assignEach es X.env).length=n:=by rfl)(hst:(assignEach es X.env).findIdx? (·.1)=none:=by rfl): PG X (.Tuple es k pos) (tDG X.K (je n bs)):=
 q8s (qi5 hc h hn hst) fun v σ H Q ⟨F0,H0,F, ρ,d, ρ',r,hr,hb,q⟩=>by
  cases d <;> simp only [je] at hb <;> first|(cases hb;done)|skip
  rename_i ds
  split at hb
  ·rename_i hl
   obtain⟨a,xs,rfl,h1,h2⟩:=rep_tup.mp hr;exact⟨a,xs,rfl,qu r.fh h1,by rw [<- h2.length];exact hl,F0,H0,F, ρ,ds, ρ',r,h2,hb,q⟩
  ·cases hb
def q2l(f:FE)(b:FB): FS:=fun ρ =>(f ρ).bind fun d=>(b d ρ).map fun ρ'=>(.nx, ρ')
theorem qaw{f:FE}{b:FB}{ts:Expr}(he:PE X e (tD X.K f))(hg:PG X ts (tDG X.K b))(hs:swapsWithSole [ts] e pos.line X.env=pure false:=by rfl)(hw:swappedStores [ts] e X.env=pure none:=by rfl)
  (h1:(assignEach [ts] X.env).map (·.2)=[assign ts X.env]:=by rfl):PS X (.Assign [ts] e pos) (tDS X.K (q2l f b)):=xg (qi7 he hg hs hw h1) fun D σ H ⟨F0,H0,F, ρ,fl, ρ',r,hf,q⟩=>by
 obtain⟨d,h2,h3⟩:=g6.mp hf;obtain⟨ρ1,h4,h5⟩:=gj.mp h3;cases h5;exact⟨F0,H0,F, ρ,d,r,h2,fun v F' H' g' r'=>⟨F0,H0,F', ρ,d, ρ',r.grow g',r',h4,fun σ' r2=>q σ' F' H' g'.ff r2⟩⟩
theorem qf1{K:Frag}{F:Hp}{a:Addr}{xs:List V}{ds:List D}(h:SqL K F a xs)(hd:RepL K F ds xs): ItD K F ds (Itl K a) where
 go:=fun i F' H s1 s2 hi=>⟨xs,xs[i]'(by rw [<- hd.length];exact hi),(s1.trans s2).seq h,by simp⟩
 yld:=fun i d F' H x H' s1 s2 hi ⟨e,y⟩=>by
  subst e;obtain⟨z,h1,h2⟩:=hd.get hi;have:=y xs ((s1.trans s2).seq h);rw [h1] at this;cases this;exact⟨F',.refl s2,h2.mono s1⟩
 stop:=fun i F' H s1 s2 hi=>⟨xs,(s1.trans s2).seq h,by rw [<- hd.length];exact hi⟩
theorem qh7{K:Frag}{F:Hp}{a:Addr}{xs:List V}{ds:List D}(h:SqT K F a xs)(hd:RepL K F ds xs): ItD K F ds (Itt K a) where
 go:=fun i F' H s1 s2 hi=>⟨xs,xs[i]'(by rw [<- hd.length];exact hi),qu (s1.trans s2) h,by simp⟩
 yld:=fun i d F' H x H' s1 s2 hi ⟨e,y⟩=>by
  subst e;obtain⟨z,h1,h2⟩:=hd.get hi;have:=y xs (qu (s1.trans s2) h);rw [h1] at this;cases this;exact⟨F',.refl s2,h2.mono s1⟩
 stop:=fun i F' H s1 s2 hi=>⟨xs,qu (s1.trans s2) h,by rw [<- hd.length];exact hi⟩
def jl(lo:Int)(n:Nat): List D:=(List.range n).map fun i:Nat=>.int (lo+i)
theorem qd8{K:Frag}{F:Hp}(lo:Int)(n:Nat): ItD K F (jl lo n) (Itr lo n) where
 go:=fun i F' H s1 s2 hi=>by show i<n;simpa [jl] using hi
 yld:=fun i d F' H x H' s1 s2 hi ⟨e,y⟩=>by
  subst e y;simp only [jl,ma] at hi;cases q:(List.range n)[i]? with
  | none=>rw [q] at hi;cases hi
  | some j=>
   rw [q] at hi;cases hi;have:j=i:=by
    have h2:=my.mp q;obtain⟨h3,h4⟩:=h2;rw [List.getElem_range] at h4;exact h4.symm
   subst this;exact⟨F',.refl s2,rep_int.mpr rfl⟩
 stop:=fun i F' H s1 s2 hi=>by show n<=i;simpa [jl] using hi
def q0z:D->Option (List D)
 | .tup ds=>some ds
 | .lst ds=>some ds
 | _=>none
def k8(f:FE): FA:=fun ρ =>(f ρ).bind q0z
theorem qkm{l:Expr}{tl:TE}(hl:PE X l tl): PI X tg l (fun σ H R=>tl σ H fun x H1=>(∃a,x=.ref a/\(∃xs,SqL X.K H1 a xs)/\R (Itl X.K a) H1)\/(∃a,x=.ref a/\(∃xs,SqT X.K H1 a xs)/\R (Itt X.K a) H1)):=by
 intro pins s σ H R I h;refine thn (hl pins s σ H _ I h) fun v s1 ⟨x,H1,I1,r1,q1⟩=>?_;rcases q1 with⟨a,e,⟨xs,hq⟩,q⟩|⟨a,e,⟨xs,hq⟩,q⟩
 ·subst e
  cases r1;obtain⟨its,rv,p,hz⟩:=I1.list hq;refine ug p.isList ?_;refine⟨s1.heap.objs.size,[s1.heap.objs.size],_,_,H1,rfl,I1.kept (t':=s1.toks) fun b o e=>gh _ e,qcg a _,⟨_,m5 _ rfl,rfl,rfl⟩,fun b hb=>?_,q⟩;have e:b=s1.heap.objs.size:=by simpa using hb
  subst e;exact I1.fpOk (gy _) (I1.hok.fresh (gy _))
 ·subst e
  cases r1;obtain⟨its,rv,p,hz⟩:=I1.tuple hq;refine wpAny_pyIter_tuple (show s1.heap.IsTuple a its.toArray from p) ?_;refine⟨s1.heap.objs.size,[s1.heap.objs.size],_,_,H1,rfl,I1.kept (t':=s1.toks) fun b o e=>gh _ e,qbg a _,⟨_,m5 _ rfl,rfl,rfl⟩,fun b hb=>?_,q⟩;have e:b=s1.heap.objs.size:=by simpa using hb
  subst e;exact I1.fpOk (gy _) (I1.hok.fresh (gy _))
theorem y9{f:FE}(h:PE X e (tD X.K f)): PI X tg e (tDI X.K (k8 f)):=q8r (qkm h) fun σ H R ⟨F0,H0,F, ρ,ds,r,hf,q⟩=>by
 obtain⟨d,h1,h2⟩:=g6.mp hf;refine⟨F0,H0,F, ρ,d,r,h1,fun v F' H' g' r'=>?_⟩;cases d <;> simp only [q0z] at h2 <;> first|(cases h2;done)|skip
 ·cases h2
  obtain⟨a,xs,rfl,h3,h4⟩:=rep_tup.mp r';exact .inr ⟨a,rfl,⟨xs,qu g'.fh h3⟩,q _ F' H' g' (qh7 h3 h4)⟩
 ·cases h2
  obtain⟨a,xs,rfl,h3,h4⟩:=rep_lst.mp r';exact .inl ⟨a,rfl,⟨xs,g'.fh.seq h3⟩,q _ F' H' g' (qf1 h3 h4)⟩
def iR1(fa:FA): FA:=fun ρ =>(fa ρ).bind fun ds=>match ds with
 | [.int j]=>if decide (-(2 ^ 62)<=j)&&decide (j<2 ^ 62) then some (jl 0 j.toNat) else none
 | _=>none
theorem q77{a:Expr}{fa:FA}{p:Pos}(hg:Gl X "range")(hm:X.mg "range" = none)(ha:PA X [a] (tDA X.K fa))(hs:starEach [a] X.env=[(false,eval a X.env)]:=by rfl): PI X tg (.Call (.Name "range" p) [a] [] pos) (tDI X.K (iR1 fa)):=
 q8r (qch hg hm ha hs) fun σ H R ⟨F0,H0,F, ρ,ds,r,hf,q⟩=>by
  obtain⟨es,h1,h2⟩:=g6.mp hf;refine⟨F0,H0,F, ρ,es,r,h1,fun vs F' H' g' r'=>?_⟩
  split at h2
  ·rename_i j
   split at h2
   ·rename_i z
    cases h2;obtain⟨x,t,rfl,h3,h4⟩:=r'.cons_inv;cases h4.nil_inv;obtain⟨z1,z2⟩:=q24 z;exact⟨j,by rw [rep_int.mp h3],z1,z2,q _ F' H' g' (qd8 0 _)⟩
   ·cases h2
  ·cases h2
def runFor(b:FB)(body:FS): List D->Rho->Option (Fl×Rho)
 | [], ρ =>some (.nx, ρ)
 | d :: ds, ρ =>(b d ρ).bind fun ρ1=>(body ρ1).bind fun r=>match r with
  | (.nx, ρ2)=>runFor b body ds ρ2
  | (.ct, ρ2)=>runFor b body ds ρ2
  | (.bk, ρ2)=>some (.nx, ρ2)
  | (.rt v, ρ2)=>some (.rt v, ρ2)
def q2m(it:FA)(b:FB)(body:FS): FS:=fun ρ =>(it ρ).bind fun ds=>runFor b body ds ρ
theorem q3d{iter:Expr}{body:List Stmt}{it:FA}{b:FB}{u:FS}(hp:PassesOwn (model X.prog X.w) X.A X.env X.xe)(hc:X.calm=true)(hi:PI X tg iter (tDI X.K it))(hg:PG X tg (tDG X.K b))(hb:PSs X body (tDS X.K u))
  (hs:∀x,foldedSetIterable iter X.env x=pure x:=by intro _;rfl):PS X (.For tg iter body [] pos) (tDS X.K (q2m it b u)):=xg (qib hp hc hi hg hb hs) fun D σ H ⟨F0,H0,F, ρ,fl, ρ',r,hf,q⟩=>by
 obtain⟨ds,h1,h2⟩:=g6.mp hf;refine⟨F0,H0,F, ρ,ds,r,h1,fun J F1 H1 g1 itd=>?_⟩;refine⟨fun i m σ H=>m=ds.length-i/\i<=ds.length/\∃F' ρi,Same F1 F'/\RS X.K F0 H0 F' H σ ρi/\runFor b u (ds.drop i) ρi=some (fl, ρ'),⟨ds.length,by simp,g11 _,F1, ρ,.refl _,r.grow g1,by simpa using h2⟩,?_⟩
 rintro i m σ H ⟨rfl,hi,F', ρi,s1,r1,h3⟩
 by_cases hlt:i<ds.length
 ·have hd:ds.drop i=ds[i] :: ds.drop (i+1):=tx hlt
  rw [hd] at h3;obtain⟨ρ1,h4,h5⟩:=g6.mp h3;obtain⟨⟨fl1, ρ2⟩,h6,h7⟩:=g6.mp h5;refine .inr ⟨itd.go i F' H s1 r1.fh hlt,fun σ' H'=>∃F',Same F1 F'/\RS X.K F0 H0 F' H' σ' ρ2/\runFor b u (ds.drop (i+1)) ρ2=some (fl, ρ'),fun σ' H' ⟨F',z1,z2,z3⟩=>⟨ds.length-(i+1),by omega,rfl,hlt,F', ρ2,z1,z2,z3⟩,fun x H' y=>?_⟩;obtain⟨F2,g2,r2⟩:=itd.yld i ds[i] F' H x H' s1 r1.fh (by simp [hlt]) y;refine⟨F0,H0,F2, ρi,ds[i], ρ1,r1.grow g2,r2,h4,fun σ' r3=>⟨F0,H0,F2, ρ1,fl1, ρ2,r3,h6,?_⟩⟩;cases fl1 with
  | nx=>exact fun σ2 F3 H3 s3 r4=>⟨F3,(s1.trans g2.ff).trans s3,r4,h7⟩
  | ct=>exact fun σ2 F3 H3 s3 r4=>⟨F3,(s1.trans g2.ff).trans s3,r4,h7⟩
  | bk=>cases h7;exact fun σ2 F3 H3 s3 r4=>q σ2 F3 H3 ((g1.ff.trans (s1.trans g2.ff)).trans s3) r4
  | rt d=>cases h7;exact q
 ·have e:i=ds.length:=by omega
  subst e;rw [g0q] at h3;cases h3;exact .inl ⟨itd.stop _ F' H s1 r1.fh (gy _),q σ F' H (g1.ff.trans s1) r1⟩
end
def qj3:Option B->Option B
 | some (.fz d)=>some (.fz d)
 | _=>none
def ya(cap:List (Option Nat))(ρ : Rho): Rho:=cap.map fun o=>o.bind fun j=>qj3 (ρ[j]?).join
structure Sub(ρ ρ':Rho): Prop where
 len : ρ.length = ρ'.length
 sub:∀(i:Nat) (b:B), ρ[i]? = some (some b) -> ρ'[i]? = some (some b)
theorem RS.weak{K:Frag}{F0 H0 F H:Hp}{σ : St}{ρ ρ':Rho}(r:RS K F0 H0 F H σ ρ')(s:Sub ρ ρ'): RS K F0 H0 F H σ ρ where
 t0:=r.t0
 g:=r.g
 len:=by rw [s.len];exact r.len
 fz:=fun i d e=>r.fz i d (s.sub i _ e)
 ow:=fun i ds e=>r.ow i ds (s.sub i _ e)
 dj:=fun i j ds es a h e1 e2=>r.dj i j ds es a h (s.sub i _ e1) (s.sub j _ e2)
 od:=fun i kvs e=>let⟨a,bs,e1,e2,e3⟩:=r.od i kvs (s.sub i _ e); ⟨a,bs,e1,e2,fun j es b h=>e3 j es b (s.sub j _ h)⟩
 o1:=fun i j k1 k2 e1 e2=>r.o1 i j k1 k2 (s.sub i _ e1) (s.sub j _ e2)
def q0m(ρ : Rho): Prop:=∀(i:Nat) (b:B), ρ[i]? = some (some b)->∃d,b=.fz d
theorem q2n{ρ : Rho}(no:q0m ρ){i:Nat}{ds:List D}(h : ρ[i]? = some (some (.ow ds))): False:=let⟨_,e⟩:=no i _ h;nomatch e
theorem q2o{ρ : Rho}(no:q0m ρ){i:Nat}{ds}(h : ρ[i]? = some (some (.od ds))): False:=let⟨_,e⟩:=no i _ h;nomatch e
theorem xx(cap:List (Option Nat))(ρ : Rho): q0m (ya cap ρ):=fun i ds h=>by
 unfold ya at h;rw [ma] at h;cases q:cap[i]? with
 | none=>rw [q] at h;cases h
 | some o=>
  rw [q] at h;cases o with
  | none=>cases h
  | some j=>
   simp only [gx,gc,g0h] at h;generalize (ρ[j]?).join=z at h;cases z with
   | none=>cases h
   | some b=>cases b with
    | fz d=>cases h;exact⟨d,rfl⟩
    | ow _=>cases h
    | od _=>cases h
theorem qj4{K:Frag}{F0 H0 F H:Hp}{σ : St}{ρ : Rho}(cap:List (Option Nat))(r:RS K F0 H0 F H σ ρ): RS K F H F H (q6d cap σ) (ya cap ρ) where
 t0:=⟨r.tab,r.tabF⟩
 g:=.refl r.fh
 len:=by unfold q6d ya;rw [gv,gv]
 fz := fun i d h=>by
  unfold ya at h;rw [ma] at h;cases q:cap[i]? with
  | none=>rw [q] at h;cases h
  | some o=>
   rw [q] at h;cases o with
   | none=>cases h
   | some j=>
    simp only [gx,gc,g0h] at h;have e : ρ[j]? = some (some (.fz d)):=by
     cases z : ρ[j]? with
     | none=>rw [z] at h;cases h
     | some b=>
      rw [z] at h;cases b with
      | none=>cases h
      | some b=>cases b with
       | fz d'=>cases h;rfl
       | ow _=>cases h
       | od _=>cases h
    obtain⟨v,e1,e2⟩:=r.fz j d e;refine⟨v,?_,e2⟩;unfold q6d;rw [ma,q];simp only [gx,gc,e1,um]
 ow:=fun i ds h=>(q2n (xx cap ρ) h).elim
 dj:=fun i j ds es a _ h=>(q2n (xx cap ρ) h).elim
 od:=fun i ds h=>(q2o (xx cap ρ) h).elim
 o1:=fun i j ds es h=>(q2o (xx cap ρ) h).elim
theorem RS.other{K:Frag}{F0 H0 F H:Hp}{σ : St}{ρ : Rho}(r:RS K F0 H0 F H σ ρ)(no:q0m ρ){p:Addr}{o:HO}(h1:F p=none)(h2:H0 p=none)(h3:H p=none\/∃xs,H p=some (.lst xs)): RS K F0 H0 F (upd H p o) σ ρ where
 t0:=r.t0
 g :=⟨r.g.ff,⟨fun b u e=>by rw [ql (fun z=>by subst z;rw [h2] at e;cases e)];exact r.g.hh.lst b u e,fun b u e=>by rw [ql (fun z=>by subst z;rw [h2] at e;cases e)];exact r.g.hh.ext b u e,fun {b} e=>by
   by_cases z:b=p
   ·subst z;exact h2
   ·rw [ql z] at e;exact r.g.hh.free e,fun t=>(r.g.hh.tb t).upd h3,fun b u e=>by rw [ql (fun z=>by subst z;rw [h2] at e;cases e)];exact r.g.hh.dk b u e⟩,fun b u e=>by rw [ql (fun z=>by subst z;rw [h1] at e;cases e)];exact r.g.fh b u e,r.g.nw⟩
 len:=r.len
 fz:=r.fz
 ow:=fun i ds h=>(q2n no h).elim
 dj:=fun i j ds es a _ h=>(q2n no h).elim
 od:=fun i ds h=>(q2o no h).elim
 o1:=fun i j ds es h=>(q2o no h).elim
theorem q3e{F H F' H':Hp}{p:Addr}(g:Grow F H F' H')(h1:F p=none){o:HO}(h2:H p=some o): F' p=none:=by
 cases q:F' p with
 | none=>rfl
 | some u=>
  rcases g.nw p (by rw [q];simp) with z|z
  ·exact absurd h1 z
  ·rw [h2] at z;cases z
def jx(b:FB)(c:FT)(f:FE)(ρ : Rho): List D->Option (List D)
 | []=>some []
 | d :: ds=>(b d ρ).bind fun ρ1=>(c ρ1).bind fun t=>if t then(f ρ1).bind fun y=>(jx b c f ρ ds).map fun ys=>y :: ys else jx b c f ρ ds
def vy:FT:=fun _=>some true
def vz(it:FA)(cap:List (Option Nat))(b:FB)(c:FT)(f:FE): FA:=fun ρ =>(it ρ).bind fun ds=>if ds.length<=lim then jx b c f (ya cap ρ) ds else none
def q86(b:FB)(cap:List (Option Nat)): Prop:=∀ ρ d ρ',b d (ya cap ρ)=some ρ'->Sub (ya cap ρ) ρ'/\q0m ρ'
section
variable{X:Cx}
theorem qf2{ifs:List Expr}{t t':TT}(h:q1r X ifs t)(i:∀ σ H Q,t' σ H Q->t σ H Q): q1r X ifs t':=fun pins s σ H Q I q=>h pins s σ H Q I (i σ H Q q)
theorem q26:q1r X [] (tDT X.K vy):=qf2 qer fun σ H Q ⟨F0,H0,F, ρ,b,r,hf,q⟩=>by cases hf;exact q F H (.refl r.fh)
theorem q5m{c:Expr}{t:FT}(h:PT X c (tDT X.K t)): q1r X [c] (tDT X.K t):=qes h
theorem qj5{K:Frag}{it:FA}{cap:List (Option Nat)}{b:FB}{c:FT}{f:FE}{σ : St}{H:Hp}{Q:VK}(fr:q86 b cap)(h:tL K (vz it cap b c f) σ H Q): qg6 (tDI K it) cap (tDG K b) (tDT K c) (tD K f) σ H Q:=by
 obtain⟨F0,H0,F, ρ,zs,r,hf,q⟩:=h;obtain⟨ds,h1,h2⟩:=g6.mp hf;have hlim:ds.length<=lim:=Decidable.byContradiction fun z=>by rw [m7 z] at h2;cases h2
 rw [gw hlim] at h2;refine⟨F0,H0,F, ρ,ds,r,h1,fun J F1 H1 g1 itd p hp=>?_⟩;have rc:=qj4 cap (r.grow g1);have hF1:F1 p=none:=g1.fh.free hp;refine⟨fun i m σ H=>m=ds.length-i/\i<=ds.length/\∃F' xs ys us,Same F1 F'/\RS K F1 H1 F' H σ (ya cap ρ)/\H p=some (.lst xs)/\F' p=none/\RepL K F' ys xs/\jx b c f (ya cap ρ) (ds.drop i)=some us/\ys++us=zs/\ys.length<=i,
  ⟨ds.length,by simp,g11 _,F1,[],[],zs,.refl _,rc.other (xx cap ρ) hF1 hp (.inl hp),qz,hF1,.nil,by simpa using h2,rfl,gy _⟩,?_⟩
 rintro i m σ' H' ⟨rfl,hi,F',xs,ys,us,s1,r1,hl,hn,ry,h3,h4,hyi⟩
 by_cases hlt:i<ds.length
 ·have hd:ds.drop i=ds[i] :: ds.drop (i+1):=tx hlt
  rw [hd] at h3;obtain⟨ρ1,h5,h3⟩:=g6.mp h3;obtain⟨t,h6,h3⟩:=g6.mp h3;obtain⟨sb,no1⟩:=fr ρ _ _ h5;refine .inr ⟨itd.go i F' H' s1 r1.fh hlt,fun x H'' y=>?_⟩;obtain⟨F2,g2,r2⟩:=itd.yld i ds[i] F' H' x H'' s1 r1.fh (by simp [hlt]) y;refine⟨F1,H1,F2,ya cap ρ,ds[i], ρ1,r1.grow g2,r2,h5,fun σ2 r3=>⟨F1,H1,F2, ρ1,t,r3,h6,fun F3 H3 g3=>?_⟩⟩;have r4:=r3.grow g3;have hl2:=g2.hh.lst _ _ hl;have hn2:=q3e g2 hn hl;have hl3:=g3.hh.lst _ _ hl2;have hn3:=q3e g3 hn2 hl2;cases t with
  | false=>
   rw [m7 gq] at h3;exact qlf ⟨ds.length-(i+1),by omega,rfl,hlt,F3,xs,ys,us,(s1.trans g2.ff).trans g3.ff,r4.weak sb,hl3,hn3,ry.mono (g2.ff.trans g3.ff),h3,h4,Nat.le_succ_of_le hyi⟩
  | true=>
   rw [gw rfl] at h3;obtain⟨yd,h7,h3⟩:=g6.mp h3;obtain⟨us',h8,h9⟩:=gj.mp h3;refine qlg ⟨F1,H1,F3, ρ1,yd,r4,h7,fun v F4 H4 g4 r5=>?_⟩;have hl4:=g4.hh.lst _ _ hl3;have hn4:=q3e g4 hn3 hl3;have ss:Same F' F4:=(g2.ff.trans g3.ff).trans g4.ff;refine⟨xs,hl4,q76 (by have:=ry.length;omega),ds.length-(i+1),by omega,rfl,hlt,F4,xs++[v],ys++[yd],us',(s1.trans ss),?_,qz,hn4,(ry.mono ss).append (.cons r5 .nil),h8,?_,?_⟩
   ·exact((r4.grow g4).weak sb).other (xx cap ρ) hn4 hp (.inr ⟨_,hl4⟩)
   ·rw [nu,List.singleton_append,h9];exact h4
   ·rw [m9,g16];omega
 ·have e:i=ds.length:=by omega
  subst e;rw [g0q] at h3;cases h3;rw [nh] at h4;subst h4;have gg:Grow F1 H1 F' H':=r1.g;exact .inl ⟨itd.stop _ F' H' s1 r1.fh (gy _),q p xs F' H' (g1.trans gg) hn (g1.hh.free hp) hl ry⟩
variable{N':List Str}{scope:Scope}{cap:List (Option Nat)}{tg iter elt:Expr}{ifs:List Expr}{it:FA}{b:FB}{c:FT}{f:FE}{pos:Pos}
theorem vh(hc:X.calm=true)(co:CapOk X N' scope cap)(fr:q86 b cap)(hi:PI X tg iter (tDI X.K it))
  (hg:∀cl C s₀ H₀ fp,PG (xp X N' scope cl C s₀ H₀ fp) tg (tDG X.K b)) (hcs:∀cl C s₀ H₀ fp,q1r (xp X N' scope cl C s₀ H₀ fp) ifs (tDT X.K c)) (he:∀cl C s₀ H₀ fp,PE (xp X N' scope cl C s₀ H₀ fp) elt (tD X.K f))
  (hs:∀x,foldedSetIterable iter X.env x=pure x:=by intro _;rfl):PE X (.ListComp elt [⟨tg,iter,ifs,0⟩] scope pos) (tL X.K (vz it cap b c f)):=
 zj (qh2 hc co hi hg hcs he hs) fun σ H Q h=>qj5 fr h
end
theorem q8t{cap:List (Option Nat)}{ρ : Rho}{i:Nat}(h:cap[i]? = some none): (ya cap ρ)[i]? = some none:=by
 unfold ya;rw [ma,h];rfl
theorem qax{ρ ρ':Rho}{i:Nat}{b:Option B}(s:Sub ρ ρ')(h : ρ[i]? = some none): Sub ρ (ρ'.set i b):=
 ⟨by rw [nc];exact s.len,fun j c e=>by
  by_cases q:j=i
  ·subst q;rw [h] at e;cases e
  ·rw [gf (m6 q)];exact s.sub j c e⟩
theorem q78{ρ : Rho}{i:Nat}{d:D}(h:q0m ρ): q0m (ρ.set i (some (.fz d))):=fun j ds e=>by
 by_cases q:j=i
 ·subst q
  obtain⟨z,_⟩:=qk e;cases z;exact⟨d,rfl⟩
 ·rw [gf (m6 q)] at e;exact h j ds e
theorem Sub.refl(ρ : Rho): Sub ρ ρ :=⟨rfl,fun _ _ h=>h⟩
theorem ku{cap:List (Option Nat)}{i:Nat}(h:cap[i]? = some none): q86 (bN i) cap:=fun ρ d ρ' e=>by
 cases e;exact⟨qax (.refl _) (q8t h),q78 (xx cap ρ)⟩
def q5n(bs:FBs)(cap:List (Option Nat)): Prop:=∀ ρ ds ρ1 ρ',Sub (ya cap ρ) ρ1->q0m ρ1->bs ds ρ1=some ρ'->Sub (ya cap ρ) ρ'/\q0m ρ'
theorem kv{cap:List (Option Nat)}: q5n j6 cap:=fun ρ ds ρ1 ρ' s n e=>by
 unfold j6 at e
 split at e
 ·cases e;exact⟨s,n⟩
 ·cases e
theorem j7{cap:List (Option Nat)}{i:Nat}{bs:FBs}(h:cap[i]? = some none)(t:q5n bs cap): q5n (qs (bN i) bs) cap:=fun ρ ds ρ1 ρ' s n e=>by
 cases ds with
 | nil=>cases e
 | cons d ds=>exact t ρ ds _ ρ' (qax s (q8t h)) (q78 n) e
theorem q0a{cap:List (Option Nat)}{n:Nat}{bs:FBs}(t:q5n bs cap): q86 (je n bs) cap:=fun ρ d ρ' e=>by
 cases d <;> simp only [je] at e <;> first|(cases e;done)|skip
 split at e
 ·exact t ρ _ _ ρ' (.refl _) (xx cap ρ) e
 ·cases e
def qj6 (outer:List (Str×NameKind)) (N N':List Str) (scope:Scope) (cap:List (Option Nat)):Bool:=
 scope.names.all (fun y=> !(y.2 == .cell))&&(scope.names.all (fun y=> !(y.2 == .local) || (scope.names.lookup y.1==some .local))&&(scope.names.all (fun y=> !(y.2 == .free) || (outer.lookup y.1==some .cell) || (outer.lookup y.1==some .free)) &&
  (cap.length==N'.length&&(List.range cap.length).all fun i=>match(cap[i]?).join with
   | none=>true
   | some j=>match N'[i]? with
    | none=>false
    | some x=>N[j]? == some x&&scope.names.lookup x==some .free)))
theorem xj{X:Cx}{N':List Str}{scope:Scope}{cap:List (Option Nat)}(hk:scope.kind=.function)(h:qj6 X.env.scope.names X.N N' scope cap=true): CapOk X N' scope cap:=by
 unfold qj6 at h;simp only [mi,g0r] at h;obtain⟨h1,h2,h3,h4,h5⟩:=h;refine⟨hk,fun y hy e=>?_,fun y hy e=>?_,fun y hy e=>?_,by simpa using h4,fun i j e=>?_⟩
 ·have:=h1 y hy;rw [e] at this;cases this
 ·have:=h2 y hy;rw [e] at this;simpa using this
 ·have:=h3 y hy
  rw [e] at this;simp only [beq_self_eq_true,Bool.not_true,Bool.false_or,uy,pk] at this;exact this
 ·have hi:i<cap.length:=(my.mp e).1
  have:=h5 i (g08.mpr hi);rw [e] at this;simp only [um] at this
  split at this
  ·cases this
  ·rename_i x hx
   simp only [mi,pk] at this;exact⟨x,hx,this.1,this.2⟩
section
variable{X:Cx}{e:Expr}{es:List Expr}{pos:Pos}{f g:FE}{fa:FA}
inductive Ty where
 | int|bool|tuple|list|str|dict
def Ty.name:Ty->String
 | .int=>"int" | .bool=>"bool" | .tuple=>"tuple" | .list=>"list" | .str=>"str" | .dict=>"dict"
def qy:Ty->D->Bool
 | .int,.int _=>true
 | .int,.bl _=>true
 | .bool,.bl _=>true
 | .tuple,.tup _=>true
 | .list,.lst _=>true
 | .str,.str _=>true
 | .dict,.dct _ _=>true
 | .dict,.dtt _ _=>true
 | _,_=>false
theorem qf3{prog:Program}{w:World}{A:Around}{E:Value->Shared->Prop}{s:Shared}{Q:Value->Shared->Prop}{K:Frag}{T:String}{b:Bool}(hk:K.In s.heap)(h:∀tk,Q (.bool b) {s with toks:=tk})(hT:PySem.W.kitOne K (.type "NoneType") (.type T)=some b):
  wpAny (model prog w) A (call (.builtin "isinstance") [.none,.type T]) Q E s:=g0y PySem.W.kitx_none hk True.intro hT (fun z=>nomatch z) h
theorem qf4(T:Ty): xf X (.builtin "isinstance") (fun xs H Q=>∃x F d,xs=[x,.ty T.name]/\Same F H/\Rep X.K F d x/\Q (.bl (qy T d)) H):=by
 intro pins s σ H xs us Q I r h;obtain⟨x,F,d,rfl,fh,rd,q⟩:=h;obtain⟨u,w',rfl,rx,rt⟩:=r.two;obtain rfl:w'=Value.type T.name:=rt;have fin:∀ {b:Bool},Q (.bl b) H->EP X pins σ Q (.bool b) s:=fun q=>⟨.bl _,H,I,rfl,q⟩
 have fin1:∀ {b:Bool},Q (.bl b) H->EP X pins σ Q (.bool b) {s with toks:=s.toks+1}:=fun q=>⟨.bl _,H,I.tok _,rfl,q⟩
 cases d with
 | non=>
  cases rep_non.mp rd;cases rx;cases T <;> exact qf3 I.kIn (fun tk=>⟨.bl _,H,I.tok _,rfl,q⟩) (by rfl)
 | bl b=>
  cases rep_bl.mp rd;cases rx;cases T
  ·exact IsiPair.bool_int (fin q)
  ·exact IsiPair.bool_bool (fin q)
  ·exact IsiPair.bool_tuple (fin1 q)
  ·exact IsiPair.bool_list (fin1 q)
  ·exact IsiPair.bool_str (fin1 q)
  ·exact IsiPair.bool_dict (fin1 q)
 | int i=>
  cases rep_int.mp rd;obtain⟨t,rfl⟩:=rx;cases T
  ·exact IsiPair.int_int (fin q)
  ·exact IsiPair.int_bool (fin1 q)
  ·exact IsiPair.int_tuple (fin1 q)
  ·exact IsiPair.int_list (fin1 q)
  ·exact IsiPair.int_str (fin1 q)
  ·exact IsiPair.int_dict (fin1 q)
 | str z=>
  cases rep_str.mp rd;obtain⟨t,rfl⟩:=rx;cases T
  ·exact IsiPair.str_int (fin1 q)
  ·exact IsiPair.str_bool (fin1 q)
  ·exact IsiPair.str_tuple (fin1 q)
  ·exact IsiPair.str_list (fin1 q)
  ·exact IsiPair.str_str (fin q)
  ·exact IsiPair.str_dict (fin1 q)
 | tup ds=>
  obtain⟨a,ys,rfl,h1,h2⟩:=rep_tup.mp rd;cases rx;obtain⟨its,_,⟨o,ho,hc,_⟩,_⟩:=I.tuple (qu fh h1);cases T
  ·exact IsiPair.tuple_int ho hc (fin1 q)
  ·exact IsiPair.tuple_bool ho hc (fin1 q)
  ·exact IsiPair.tuple_tuple ho hc (fin q)
  ·exact IsiPair.tuple_list ho hc (fin1 q)
  ·exact IsiPair.tuple_str ho hc (fin1 q)
  ·exact IsiPair.tuple_dict ho hc (fin1 q)
 | lst ds=>
  obtain⟨a,ys,rfl,h1,h2⟩:=rep_lst.mp rd;cases rx;obtain⟨its,_,⟨o,n,ho,hc,_⟩,_⟩:=I.list (fh.seq h1);cases T
  ·exact IsiPair.list_int ho hc (fin1 q)
  ·exact IsiPair.list_bool ho hc (fin1 q)
  ·exact IsiPair.list_tuple ho hc (fin1 q)
  ·exact IsiPair.list_list ho hc (fin q)
  ·exact IsiPair.list_str ho hc (fin1 q)
  ·exact IsiPair.list_dict ho hc (fin1 q)
 | dct ks vs=>
  obtain⟨a,ys,rfl,h1,h2,h3⟩:=rep_dct.mp rd;cases rx;obtain⟨_,_,vs',_,o,es',ep,ho,hc,_⟩:=(show ObjOk X.prog X.w H s.heap a _ from I.hok a _ (fh _ _ h1))
  cases T
  ·exact IsiPair.dict_int ho hc.1 (fin1 q)
  ·exact IsiPair.dict_bool ho hc.1 (fin1 q)
  ·exact IsiPair.dict_tuple ho hc.1 (fin1 q)
  ·exact IsiPair.dict_list ho hc.1 (fin1 q)
  ·exact IsiPair.dict_str ho hc.1 (fin1 q)
  ·exact IsiPair.dict_dict ho hc.1 (fin q)
 | dtt ks vs=>
  obtain⟨a,xs',ys,ep,rfl,h1,_⟩:=rep_dtt.mp rd;cases rx;obtain⟨⟨o,es',ho,hc,_⟩,_,_⟩:=(show ObjOk X.prog X.w H s.heap a _ from I.hok a _ (fh _ _ h1))
  cases T
  ·exact IsiPair.dict_int ho hc.1 (fin1 q)
  ·exact IsiPair.dict_bool ho hc.1 (fin1 q)
  ·exact IsiPair.dict_tuple ho hc.1 (fin1 q)
  ·exact IsiPair.dict_list ho hc.1 (fin1 q)
  ·exact IsiPair.dict_str ho hc.1 (fin1 q)
  ·exact IsiPair.dict_dict ho hc.1 (fin q)
 | obj x=>
  obtain⟨a,dx,C,rfl,h1,_,c1,c2,c3,c4,c5,c6,c7⟩:=rep_obj.mp rd;cases rx;obtain⟨mA,O,_⟩:=q3z I.hok (fh _ _ h1);obtain⟨od,J,_⟩:=O.look;cases T <;> exact g0y (PySem.W.kitx_own c1 c2 c3 c4 c5 c6) I.kIn J (c7 _ (by decide)) (fun z=>nomatch z) (fun tk=>⟨.bl _,H,I.tok _,rfl,q⟩)
 | exc x=>
  obtain⟨a,C,rfl,h1,_,c1,c2⟩:=rep_exc.mp rd;cases rx;obtain⟨J,_,_⟩:=(show ObjOk X.prog X.w H s.heap a _ from I.hok a _ (fh _ _ h1))
  cases T <;> exact g0y (qex c1) I.kIn J (c2 _ (by decide)) (fun z=>nomatch z) (fun tk=>⟨.bl _,H,I.tok _,rfl,q⟩)
def we(T:Ty)(f:FE): FE:=fun ρ =>(f ρ).map fun d=>.bl (qy T d)
theorem qf5:bootBuiltins "isinstance" = some (.builtin "isinstance"):=by decide +kernel
theorem q0b{x:Str}{p px:Pos}(T:Ty)(hg:Gl X "isinstance")(hm:X.mg "isinstance" = none)(hgT:Gl X x)(hmT:X.mg x=none)(hvT:bootBuiltins x=some (.type T.name))(ha:PE X e (tD X.K f))
  (hnT:x≠"__name__" :=by decide) (hdT:(x==("__debug__" : Str))=false:=by decide) (he2:starEach [e,.Name x px] X.env=(false,eval e X.env) :: starEach [.Name x px] X.env:=by rfl) :
  PE X (.Call (.Name "isinstance" p) [e,.Name x px] [] pos) (tD X.K (we T f)):=
 zj (q8l (qf4 T) hg hm qf5 (q22 ha (q22 (qgk (v:=.ty T.name) hgT hmT hvT rfl hnT hdT) q8i) he2) (by decide) (by decide) he2 rfl) fun σ H Q ⟨F0,H0,F, ρ,d,r,hf,q⟩=>by
  obtain⟨d',h1,h2⟩:=gj.mp hf;subst h2;exact⟨F0,H0,F, ρ,d',r,h1,fun v F' H' g' r'=>⟨v,F',d',rfl,g'.fh,r',q _ F' H' g' (rep_bl.mpr rfl)⟩⟩
def q42:List D->Option (List Int)
 | []=>some []
 | .int i :: r=>(q42 r).map fun is=>i :: is
 | _ :: _=>none
def q27:List D->Option (List Bool)
 | []=>some []
 | .bl i :: r=>(q27 r).map fun is=>i :: is
 | _ :: _=>none
theorem q5o:∀ {ds:List D} {ns:List Int},q42 ds=some ns->ds=ns.map D.int
 | [],ns,h=>by cases h;rfl
 | d :: r,ns,h=>by
  cases d <;> simp only [q42] at h <;> first|(cases h;done)|skip
  obtain⟨is,h1,h2⟩:=gj.mp h;subst h2;rw [q5o h1];rfl
omit [Lam] [Pin] in
theorem q79:∀(ns:List Int),q42 (ns.map D.int)=some ns
 | []=>rfl
 | n :: r=>by simp only [ml,q42,q79 r,gx]
theorem q4r:∀ {ds:List D} {bs:List Bool},q27 ds=some bs->ds=bs.map D.bl
 | [],ns,h=>by cases h;rfl
 | d :: r,ns,h=>by
  cases d <;> simp only [q27] at h <;> first|(cases h;done)|skip
  obtain⟨is,h1,h2⟩:=gj.mp h;subst h2;rw [q4r h1];rfl
omit [Lam] [Pin] in
theorem q5p:∀(ns:List Bool),q27 (ns.map D.bl)=some ns
 | []=>rfl
 | n :: r=>by simp only [ml,q27,q5p r,gx]
theorem RepL.bools{K:Frag}{H:Hp}: ∀ {bs:List Bool} {xs:List V},RepL K H (bs.map D.bl) xs->xs=bs.map V.bl
 | [],xs,h=>h.nil_inv
 | b :: bs,xs,h=>by
  obtain⟨x,r,rfl,h1,h2⟩:=h.cons_inv;rw [rep_bl.mp h1,RepL.bools h2];rfl
def o1L(z:List D->Option D): List D->Option D
 | [.lst ds]=>z ds
 | _=>none
theorem q8u{z:List D->Option D}{es:List D}{d:D}(h:o1L z es=some d): ∃ds,es=[.lst ds]/\z ds=some d:=by
 unfold o1L at h
 split at h
 ·exact⟨_,rfl,h⟩
 ·cases h
theorem rep1{K:Frag}{F:Hp}{d:D}{xs:List V}(h:RepL K F [d] xs): ∃x,xs=[x]/\Rep K F d x:=by
 obtain⟨x,r,rfl,h1,h2⟩:=h.cons_inv;cases h2.nil_inv;exact⟨x,rfl,h1⟩
abbrev q3f:List D->Option D:=o1L fun ds=>(q42 ds).map fun ns=>.int ns.sum
abbrev q51:List D->Option D:=o1L fun ds=>(q27 ds).map fun bs=>.bl (bs.all id)
theorem q3g(hc:X.calm=true): xf X (.builtin "sum") (rC X.K q3f):=by
 intro pins s σ H xs us Q I r h;obtain⟨F,ds,d,fh,rl,ho,q⟩:=h;obtain⟨es,rfl,h1⟩:=q8u ho;obtain⟨ns,h2,h3⟩:=gj.mp h1;subst h3;cases q5o h2;obtain⟨x,rfl,rx⟩:=rep1 rl;obtain⟨u,rfl,ru⟩:=r.one;obtain⟨a,ys,rfl,k1,k2⟩:=rep_lst.mp rx;cases ru;cases RepL.ints.mp k2;obtain⟨its,rv,pl,_⟩:=I.list (fh.seq k1);have hi:=intsAre_of rv;obtain⟨zs,hz⟩:=hi.allInts.items;have hl:s.heap.IsList a (intItems zs):=hz ▸ pl.isList;refine sum_intListG (I.ok.hd hc) hl fun h' tk t' hk=>?_;have e1:ns=zs.toList.map (·.1):=by
  rw [<- nums_intItems, <- hz];exact(show numsOf its.toArray.toList=ns from hi.numsOf).symm
 have e2:preSum (numAt zs) zs.size=ns.sum:=by
  rw [preSum_eq,ui (by simp),e1]
 rw [e2];exact⟨.int ns.sum,H,I.kept hk,⟨_,rfl⟩,q _ F H (.refl fh) (rep_int.mpr rfl)⟩
theorem q5q:∀ {bs:List Bool} {us:List Value},Vals (bs.map V.bl) us->us=bs.map Value.bool
 | [],us,h=>by cases h;rfl
 | b :: bs,us,h=>by
  rw [ml] at h;cases h with
  | cons r t=>
   cases(show _=Value.bool b from r);rw [q5q t];rfl
theorem q8v(hc:X.calm=true): xf X (.builtin "all") (rC X.K q51):=by
 intro pins s σ H xs us Q I r h;obtain⟨F,ds,d,fh,rl,ho,q⟩:=h;obtain⟨es,rfl,h1⟩:=q8u ho;obtain⟨bs,h2,h3⟩:=gj.mp h1;subst h3;cases q4r h2;obtain⟨x,rfl,rx⟩:=rep1 rl;obtain⟨u,rfl,ru⟩:=r.one;obtain⟨a,ys,rfl,k1,k2⟩:=rep_lst.mp rx;cases ru;cases k2.bools;obtain⟨its,rv,pl,_⟩:=I.list (fh.seq k1);cases q5q rv;have hlt:a<s.heap.objs.size:=by obtain⟨_,e,_⟩:=pl.isList;exact gs e
 refine call_all_walk (ug pl.isList ?_);refine⟨s.heap.objs.size,[s.heap.objs.size,a],[s.heap.objs.size],(bs.map Value.bool).toArray.size,_,_,fun i=>(bs[i]?).getD true,rfl,Walks.list (A:=X.A.in1) (I.ok.hd hc) _ a (mh hlt) (bs.map Value.bool).toArray,
  ⟨⟨_,m5 _ rfl,rfl,rfl⟩,pl.isList.push _⟩,fun i v s' Q' E' hP hQ=>?_,fun h' tk hk=>?_⟩
 ·have hP':(bs.map Value.bool)[i]? = some v:=by simpa using hP
  rw [ma] at hP';cases z:bs[i]? with
  | none=>rw [z] at hP';cases hP'
  | some b=>
   rw [z] at hP';cases hP';simp only [z,Option.getD_some] at hQ;exact p9 hQ
 ·have e:((List.range (bs.map Value.bool).toArray.size).all fun i=>(bs[i]?).getD true)=bs.all id:=by
   rw [gp,gv];exact LSm.range_all bs
  rw [e];exact⟨.bl _,H,I.kept (LSm.kept_iter hk),rfl,q _ F H (.refl fh) (rep_bl.mpr rfl)⟩
theorem boot_sum:bootBuiltins "sum" = some (.builtin "sum"):=by decide +kernel
theorem boot_all:bootBuiltins "all" = some (.builtin "all"):=by decide +kernel
theorem boot_min:bootBuiltins "min" = some (.builtin "min"):=by decide +kernel
theorem boot_max:bootBuiltins "max" = some (.builtin "max"):=by decide +kernel
theorem jm:bootBuiltins "len" = some (.builtin "len"):=by decide +kernel
theorem boot_tuple:bootBuiltins "tuple" = some (.type "tuple"):=by decide +kernel
theorem boot_int:bootBuiltins "int" = some (.type "int"):=by decide +kernel
theorem boot_bool:bootBuiltins "bool" = some (.type "bool"):=by decide +kernel
def o2I(z:Int->Int->Int): List D->Option D
 | [.int i,.int j]=>some (.int (z i j))
 | _=>none
theorem q8w{z:Int->Int->Int}{es:List D}{d:D}(h:o2I z es=some d): ∃i j,es=[.int i,.int j]/\d=.int (z i j):=by
 unfold o2I at h
 split at h
 ·cases h;exact⟨_,_,rfl,rfl⟩
 ·cases h
theorem qga{K:Frag}{F:Hp}{i j:Int}{xs:List V}(h:RepL K F [.int i,.int j] xs): xs=[.int i,.int j]:=RepL.ints (ns:=[i,j]).mp h
abbrev oMin:=o2I fun i j=>if j<i then j else i
abbrev oMax:=o2I fun i j=>if j>i then j else i
theorem q28(hc:X.calm=true): xf X (.builtin "min") (rC X.K oMin):=q1k (qcm hc) fun xs H Q ⟨F,ds,d,fh,rl,ho,q⟩=>by
 obtain⟨i,j,rfl,rfl⟩:=q8w ho;exact⟨i,j,qga rl,q _ F H (.refl fh) (rep_int.mpr rfl)⟩
theorem q5r(hc:X.calm=true): xf X (.builtin "max") (rC X.K oMax):=q1k (qcl hc) fun xs H Q ⟨F,ds,d,fh,rl,ho,q⟩=>by
 obtain⟨i,j,rfl,rfl⟩:=q8w ho;exact⟨i,j,qga rl,q _ F H (.refl fh) (rep_int.mpr rfl)⟩
def jt:List D->Option D
 | [.tup ds]=>some (.int ds.length)
 | [.lst ds]=>some (.int ds.length)
 | [.str x]=>if x.length<=lim then some (.int x.length) else none
 | _=>none
theorem yb:xf X (.builtin "len") (rC X.K jt):=q1k qej fun xs H Q ⟨F,ds,d,fh,rl,ho,q⟩=>by
 unfold jt at ho
 split at ho
 ·cases ho
  obtain⟨x,rfl,rx⟩:=rep1 rl;obtain⟨a,ys,rfl,k1,k2⟩:=rep_tup.mp rx;exact⟨_,ys.length,rfl,.inr ⟨ys,qu fh k1,rfl⟩,by rw [<- k2.length];exact q _ F H (.refl fh) (rep_int.mpr rfl)⟩
 ·cases ho
  obtain⟨x,rfl,rx⟩:=rep1 rl;obtain⟨a,ys,rfl,k1,k2⟩:=rep_lst.mp rx;exact⟨_,ys.length,rfl,.inl ⟨ys,fh.seq k1,rfl⟩,by rw [<- k2.length];exact q _ F H (.refl fh) (rep_int.mpr rfl)⟩
 ·split at ho
  ·rename_i z
   cases ho;obtain⟨x,rfl,rx⟩:=rep1 rl;cases rep_str.mp rx;exact⟨_,_,rfl,⟨y4 z,rfl⟩,q _ F H (.refl fh) (rep_int.mpr rfl)⟩
  ·cases ho
 ·cases ho
def kx:List D->Option D
 | [.tup ds]=>some (.tup ds)
 | [.lst ds]=>some (.tup ds)
 | _=>none
theorem q10:xf X (.type "tuple") (rC X.K kx):=q1k q7m fun xs H Q ⟨F,ds,d,fh,rl,ho,q⟩=>by
 unfold kx at ho
 split at ho
 ·cases ho
  obtain⟨x,rfl,rx⟩:=rep1 rl;obtain⟨a,ys,rfl,k1,k2⟩:=rep_tup.mp rx;exact⟨a,ys,rfl,.inr ⟨qu fh k1,q _ F H (.refl fh) rx⟩⟩
 ·cases ho
  obtain⟨x,rfl,rx⟩:=rep1 rl;obtain⟨a,ys,rfl,k1,k2⟩:=rep_lst.mp rx;refine⟨a,ys,rfl,.inl ⟨fh.seq k1,fun l hl=>?_⟩⟩;have gn:Grow F H (upd F l (.tup ys)) (upd H l (.tup ys)):=Grow.new fh hl;exact q _ _ _ gn (rep_tup.mpr ⟨l,ys,rfl,SqT.of qz,k2.mono gn.ff⟩)
 ·cases ho
def qbv(op:List D->Option (List D))(fa:FA): FA:=fun ρ =>(fa ρ).bind op
def qgb:List D->Option (List D)
 | [.tup ds]=>some ds
 | [.lst ds]=>some ds
 | _=>none
theorem qay{K:Frag}{H:Hp}{ds:List D}{xs:List V}{i:Int}{d:D}(h:RepL K H ds xs)(e:atI ds i=some d): ∃x,atI xs i=some x/\Rep K H d x:=by
 unfold atI at e ⊢;rw [<- h.length];cases q:ixN ds.length i with
 | none=>rw [q] at e;cases e
 | some j=>
  rw [q] at e;exact h.get e
def oIx:D->D->Option D
 | .tup ds,.int i=>atI ds i
 | .lst ds,.int i=>atI ds i
 | _,_=>none
theorem y0{a b:Expr}(ha:PE X a (tD X.K f))(hb:PE X b (tD X.K g))(hs:qaq b:=by intro _ _;rfl): PE X (.Subscript a b pos) (tD X.K (eOp oIx f g)):=zj (qke qis ha hb hs) fun σ H Q h=>by
 have h':=two h;obtain⟨F0,H0,F, ρ,d,r,hf,q⟩:=h';refine⟨F0,H0,F, ρ,d,r,hf,fun v F1 H1 g1 r1=>?_⟩;obtain⟨F0',H0',F', ρ',d',r',hf',q'⟩:=q v F1 H1 g1 r1;refine⟨F0',H0',F', ρ',d',r',hf',fun v2 F2 H2 g2 r2=>?_⟩;obtain⟨F3,d1,d2,d3,fh,k1,k2,k3,k4⟩:=q' v2 F2 H2 g2 r2;unfold oIx at k3
 split at k3
 ·obtain⟨p,ys,rfl,z1,z2⟩:=rep_tup.mp k1
  obtain⟨y,z3,z4⟩:=qay z2 k3;exact .inr (.inl ⟨p,ys,_,y,rfl,rep_int.mp k2,qu fh z1,z3,k4 y F3 H2 (.refl fh) z4⟩)
 ·obtain⟨p,ys,rfl,z1,z2⟩:=rep_lst.mp k1
  obtain⟨y,z3,z4⟩:=qay z2 k3;exact .inl ⟨p,ys,_,y,rfl,rep_int.mp k2,fh.seq z1,z3,k4 y F3 H2 (.refl fh) z4⟩
 ·cases k3
def eUn(o:D->Option D)(f:FE): FE:=fun ρ =>(f ρ).bind o
end
section
variable{prog:Program}{w:World}{A:Around}{E:Value->Shared->Prop}{s:Shared}
theorem q7n{t sl:Addr}{items:Array Value}{vl vu:Value}{lo hi:Option Int}{Q:Value->Shared->Prop}(ht:IsTup s.heap t items)(hs:s.heap.IsSliceOf sl vl vu .none)
  (pl:IsPart vl lo) (pu:IsPart vu hi) (w1:HT.sIx items.size 0 lo=0) (w2:HT.sIx items.size items.size hi=items.size) (h:Q (.ref t) s) :
  wpAny (model prog w) A (getItem (.ref t) (.ref sl)) Q E s:=by
 obtain⟨os,hos,hcs,hds⟩:=id hs;have hTs:s.TypeIs (.ref sl) "slice" :=⟨os,hos,hcs⟩
 unfold getItem
 try with_reducible refine ni ?_
 first|refine g9 (gi ?_)|skip
 refine g9 (wpAny_sequenceKey ht.typeIs (by decide) (g9 (ng (name:=Str.ofString "__getitem__") ht.typeIs mw
  (pd mw ht.typeIs entry_tuple_getitem ?_ (args_tuple_getitem _ _)))))
 show wpAny _ _ (Builtin.Tuple.tupleItemsOf (.ref t) >>= _) _ _ s;refine g9 (tupleItemsOf_ ht (g9 (wpAny_typeOf hTs ?_)));rw [gw (by decide)];refine g9 (HT.sliceApplied_gen hs pl pu ?_);rw [w1,w2];show wpAny _ _ (if(((0:Nat):Int)==0&&(1:Int)==1&&(items.size-0)==items.size)=true then _ else _) _ _ s;rw [gw (by simp)];refine g9 ?_;unfold Builtin.Tuple.tupleIsExact;refine g9 (wpAny_typeOf ht.typeIs (gi ?_))
 first
  | rw [gw (by decide)]
  | skip
 first
  | exact g9 (uz (g9 (gi (gi ⟨_,rfl,gi h⟩))))
  | exact g9 (uz (gi ⟨_,rfl,gi h⟩))
  | exact g9 (g9 (uz (gi (gi ⟨_,rfl,gi h⟩))))
end
section
variable{X:Cx}{e:Expr}{es:List Expr}{pos:Pos}{f g:FE}{fa:FA}
def qlk(K:Frag): V->Option Int->Option Int->Hp->VK->Prop:=fun x lo hi H Q=>∃a xs,x=.ref a/\SqT K H a xs/\HT.sIx xs.length 0 lo=0/\HT.sIx xs.length xs.length hi=xs.length/\Q (.ref a) H
theorem qf6:SlR X (qlk X.K):=by
 intro pins s σ H x v vl vu lo hi sl Q I rx hs pl pu h;obtain⟨a,xs,rfl,hx,w1,w2,q⟩:=h;cases rx;obtain⟨its,r,ht,hz⟩:=I.tuple hx;have hlen:its.toArray.size=xs.length:=by rw [gp];exact r.length.symm
 exact⟨"tuple",_,mw.lookup,ht.typeIs,q7n ht hs pl pu (by rw [hlen];exact w1) (by rw [hlen];exact w2) ⟨.ref a,H,I,rfl,q⟩⟩
def cutD(ds:List D)(lo hi:Option Int): List D:=(ds.drop (HT.sIx ds.length 0 lo)).take (HT.sIx ds.length ds.length hi-HT.sIx ds.length 0 lo)
def oSl:D->Option Int->Option Int->Option D
 | .tup ds,lo,hi=>some (.tup (cutD ds lo hi))
 | .lst ds,lo,hi=>some (.lst (cutD ds lo hi))
 | _,_,_=>none
abbrev FO:=Rho->Option (Option Int)
def oNo:FO:=fun _=>some none
def oAt(f:FE): FO:=fun ρ =>(f ρ).bind fun d=>match d with
 | .int i=>some (some i)
 | _=>none
def tDO(K:Frag)(f:FO): TO:=fun σ H Q=>∃F0 H0 F ρ i,RS K F0 H0 F H σ ρ /\ f ρ = some i/\∀F' H',Grow F H F' H'->Q i H'
theorem qd9{o:Option Expr}{t t':TO}(h:PO X o t)(i:∀ σ H Q,t' σ H Q->t σ H Q): PO X o t':=fun pins s σ H Q I q=>h pins s σ H Q I (i σ H Q q)
theorem qf7:PO X none (tDO X.K oNo):=qd9 qgx fun σ H Q ⟨F0,H0,F, ρ,i,r,hf,q⟩=>by cases hf;exact q F H (.refl r.fh)
theorem qf8(h:PE X e (tD X.K f)): PO X (some e) (tDO X.K (oAt f)):=qd9 (qgy h) fun σ H Q ⟨F0,H0,F, ρ,i,r,hf,q⟩=>by
 obtain⟨d,h1,h2⟩:=g6.mp hf;cases d <;> simp only at h2 <;> first|(cases h2;done)|skip
 cases h2;exact⟨F0,H0,F, ρ,_,r,h1,fun v F' H' g' r'=>⟨_,rep_int.mp r',q F' H' g'⟩⟩
def eSl(f:FE)(lo hi:FO): FE:=fun ρ =>(f ρ).bind fun d=>(lo ρ).bind fun l=>(hi ρ).bind fun h=>oSl d l h
theorem qf9{a:Expr}{lo hi:Option Expr}{fl fh:FO}{p2:Pos}(ha:PE X a (tD X.K f))(hl:PO X lo (tDO X.K fl))(hh:PO X hi (tDO X.K fh)): PE X (.Subscript a (.Slice lo hi none p2) pos) (tD X.K (eSl f fl fh)):=
 zj (qeo (sl_list.or (sl_tup.or qf6)) ha hl hh) fun σ H Q ⟨F0,H0,F, ρ,d,r,hf,q⟩=>by
  obtain⟨x,h1,hf⟩:=g6.mp hf;obtain⟨l,h2,hf⟩:=g6.mp hf;obtain⟨u,h3,h4⟩:=g6.mp hf;refine⟨F0,H0,F, ρ,x,r,h1,fun v F1 H1 g1 r1=>⟨F0,H0,F1, ρ,l,r.grow g1,h2,fun F2 H2 g2=>⟨F0,H0,F2, ρ,u,(r.grow g1).grow g2,h3,fun F3 H3 g3=>?_⟩⟩⟩;have gg:=g1.trans (g2.trans g3);have r3:Rep X.K F3 x v:=r1.mono (g2.ff.trans g3.ff);cases x with
  | tup ds=>
   cases h4;obtain⟨p,xs,rfl,k1,k2⟩:=rep_tup.mp r3;have hlen:=k2.length
   by_cases wh:HT.sIx xs.length 0 l=0/\HT.sIx xs.length xs.length u=xs.length
   ·refine .inr (.inr ⟨p,xs,rfl,qu g3.fh k1,wh.1,wh.2,q _ F3 H3 gg ?_⟩)
    have e:cutD ds l u=ds:=by
     unfold cutD;rw [hlen,wh.1,wh.2,g17,Nat.sub_zero, <- hlen,List.take_length]
    rw [e];exact r3
   ·refine .inr (.inl ⟨p,xs,rfl,qu g3.fh k1,wh,fun p' hp=>?_⟩)
    have gn:Grow F3 H3 (upd F3 p' (.tup (q0g xs l u))) (upd H3 p' (.tup (q0g xs l u))):=Grow.new g3.fh hp;refine q _ _ _ (gg.trans gn) (rep_tup.mpr ⟨p',_,rfl,SqT.of qz,?_⟩);unfold cutD q0g;rw [hlen];exact((k2.mono gn.ff).drop _).take _
  | lst ds=>
   cases h4;obtain⟨p,xs,rfl,k1,k2⟩:=rep_lst.mp r3;have hlen:=k2.length;refine .inl ⟨p,xs,rfl,g3.fh.seq k1,fun p' hp=>?_⟩;have gn:Grow F3 H3 (upd F3 p' (.lst (q0g xs l u))) (upd H3 p' (.lst (q0g xs l u))):=Grow.new g3.fh hp;refine q _ _ _ (gg.trans gn) (rep_lst.mpr ⟨p',_,rfl,SqL.of qz,?_⟩);unfold cutD q0g;rw [hlen];exact((k2.mono gn.ff).drop _).take _
  | _=>cases h4
def q52:D->D->Option D
 | .tup xs,.tup ys=>if xs.length+ys.length<=lim then some (.tup (xs++ys)) else none
 | .lst xs,.lst ys=>if xs.length+ys.length<=lim then some (.lst (xs++ys)) else none
 | _,_=>none
theorem qj7:OpR X (binaryOp .Add) (rD X.K q52):=by
 intro pins s σ H x y v u Q I rx ry h;obtain⟨F,d1,d2,d,fh,r1,r2,ho,q⟩:=h;unfold q52 at ho
 split at ho
 ·rename_i ds es
  split at ho
  ·rename_i hl
   cases ho;obtain⟨a,xs,rfl,k1,k2⟩:=rep_tup.mp r1;obtain⟨b,ys,rfl,k3,k4⟩:=rep_tup.mp r2
   by_cases hd:ds=[]
   ·subst hd
    cases k2.nil_inv;cases rx;cases ry;obtain⟨i1,v1,⟨⟨c1,dd1,dt1,sl1⟩,o1,e1,n1,t1⟩,_⟩:=I.tuple (qu fh k1);obtain⟨i2,v2,⟨⟨c2,dd2,dt2,sl2⟩,o2,e2,n2,t2⟩,_⟩:=I.tuple (qu fh k3);simp only at e1 t1 e2 t2;subst e1 t1 e2 t2;cases v1;exact g0m ⟨_,o1,rfl⟩ ⟨_,o2,rfl⟩ g0n seq_tuple_add uh ud (ua _ _)
     (tuple_addW0 a b #[] i2.toArray n1 n2 dd1 dd2 sl1 sl2 rfl) ⟨o1,o2,⟨.ref b,H,I,rfl,q _ F H (.refl fh) (by simpa using r2)⟩⟩
   ·refine qgz pins s σ H _ _ v u Q I rx ry ⟨a,b,xs,ys,rfl,rfl,qu fh k1,qu fh k3,fun z=>hd ?_,y4 (by rw [<- k2.length, <- k4.length];exact hl),fun z=>?_,fun z p hp=>?_⟩
    ·have:=k2.length;rw [z] at this;exact pz this
    ·have e:es=[]:=by have:=k4.length;rw [z] at this;exact pz this
     subst e;rw [nh] at q;exact q _ F H (.refl fh) r1
    ·have gn:Grow F H (upd F p (.tup (xs++ys))) (upd H p (.tup (xs++ys))):=Grow.new fh hp
     exact q _ _ _ gn (rep_tup.mpr ⟨p,_,rfl,SqT.of qz,(k2.mono gn.ff).append (k4.mono gn.ff)⟩)
  ·cases ho
 ·rename_i ds es
  split at ho
  ·rename_i hl
   cases ho;obtain⟨a,xs,rfl,k1,k2⟩:=rep_lst.mp r1;obtain⟨b,ys,rfl,k3,k4⟩:=rep_lst.mp r2;cases rx;cases ry;obtain⟨i1,v1,⟨⟨c1,dd1,dt1,sl1⟩,n1,o1,e1,g1,t1⟩,_⟩:=I.list (fh.seq k1);obtain⟨i2,v2,⟨⟨c2,dd2,dt2,sl2⟩,n2,o2,e2,g2,t2⟩,_⟩:=I.list (fh.seq k3);simp only at e1 t1 e2 t2;subst e1 t1 e2 t2;have hz:xs.length+ys.length<=sizeLine:=y4 (by rw [<- k2.length, <- k4.length];exact hl);refine g0m ⟨_,o1,rfl⟩ ⟨_,o2,rfl⟩ noFill_list_add seq_list_add PySem.F.slot_list_add PySem.F.entry_list_add (PySem.F.args_list_add_2 _ _)
    (list_addW a b i1.toArray i2.toArray n1 n2 dd1 dd2 sl1 sl2 (by rw [gp,gp, <- v1.length, <- v2.length];exact hz)) ⟨o1,o2,?_⟩
   have ea:i1.toArray++i2.toArray=(i1++i2).toArray:=by simp
   rw [ea];have gn:Grow F H (upd F s.heap.objs.size (.lst (xs++ys))) (upd H s.heap.objs.size (.lst (xs++ys))):=Grow.new fh I.fresh;exact⟨.ref _,_,I.lnew (t':=s.toks) (v1.append v2) (by rw [m9];exact hz),rfl,q _ _ _ gn (rep_lst.mpr ⟨_,_,rfl,SqL.of qz,(k2.mono gn.ff).append (k4.mono gn.ff)⟩)⟩
  ·cases ho
 ·cases ho
abbrev jc:D->D->Option D:=fun x y=>(oAdd x y).or (q52 x y)
theorem js:OpR X (binaryOp .Add) (rD X.K jc):=q8o qiy qj7
def flat(d:D): Bool:=(flD d).isSome
def eqF:D->D->Bool
 | .non,.non=>true
 | .bl a,.bl b=>a==b
 | .bl a,.int b=>(if a then 1 else 0)==b
 | .int a,.bl b=>a==(if b then 1 else 0)
 | .int a,.int b=>a==b
 | .str a,.str b=>a==b
 | _,_=>false
def inF(d:D)(ds:List D): Bool:=ds.any fun e=>eqF e d
theorem q87{K:Frag}{H:Hp}{d e:D}{x y:V}(h1:flat d=true)(h2:flat e=true)(r1:Rep K H d x)(r2:Rep K H e y): eqV x y=eqF d e/\yz x=true/\yz y=true:=by
 cases d <;> first|(cases h1;done)|skip
 all_goals (cases e <;> first|(cases h2;done)|skip)
 all_goals (first|(cases rep_non.mp r1)|(cases rep_bl.mp r1)|(cases rep_int.mp r1)|(cases rep_str.mp r1))
 all_goals (first|(cases rep_non.mp r2)|(cases rep_bl.mp r2)|(cases rep_int.mp r2)|(cases rep_str.mp r2))
 all_goals exact⟨rfl,rfl,rfl⟩
theorem qbw{K:Frag}{H:Hp}{d:D}{x:V}(h1:flat d=true)(r1:Rep K H d x): ∀ {ds:List D} {xs:List V},ds.all flat=true->RepL K H ds xs->inV x xs=inF d ds/\yz x=true/\xs.all yz=true
 | [],xs,_,r=>by cases r.nil_inv;exact⟨rfl,(q87 h1 h1 r1 r1).2.1,rfl⟩
 | e :: ds,xs,h2,r=>by
  obtain⟨y,ys,rfl,k1,k2⟩:=r.cons_inv;rw [uj,mi] at h2;obtain⟨z1,z2,z3⟩:=qbw h1 r1 h2.2 k2;obtain⟨w1,w2,w3⟩:=q87 h2.1 h1 k1 r1;refine⟨?_,z2,?_⟩
  ·show(eqV y x || inV x ys)=(eqF e d || inF d ds)
   rw [w1,z1]
  ·rw [uj,w2,z3];rfl
def oIn(neg:Bool): D->D->Option D
 | d,.tup ds=>if flat d&&ds.all flat then some (.bl (if neg then !inF d ds else inF d ds)) else none
 | d,.lst ds=>if flat d&&ds.all flat then some (.bl (if neg then !inF d ds else inF d ds)) else none
 | _,_=>none
theorem qkn{K:Frag}{neg:Bool}{x y:V}{H:Hp}{Q:VK}(h:rD K (oIn neg) x y H Q): rIn K neg x y H Q:=by
 obtain⟨F,d1,d2,d,fh,r1,r2,ho,q⟩:=h;cases d2 <;> simp only [oIn] at ho <;> first|(cases ho;done)|skip
 ·split at ho
  ·rename_i hc
   cases ho;rw [mi] at hc;obtain⟨p,xs,rfl,k1,k2⟩:=rep_tup.mp r2;obtain⟨z1,z2,z3⟩:=qbw hc.1 r1 hc.2 k2;exact⟨p,xs,rfl,.inr (qu fh k1),z2,z3,by rw [z1];exact q _ F H (.refl fh) (rep_bl.mpr rfl)⟩
  ·cases ho
 ·split at ho
  ·rename_i hc
   cases ho;rw [mi] at hc;obtain⟨p,xs,rfl,k1,k2⟩:=rep_lst.mp r2;obtain⟨z1,z2,z3⟩:=qbw hc.1 r1 hc.2 k2;exact⟨p,xs,rfl,.inl (fh.seq k1),z2,z3,by rw [z1];exact q _ F H (.refl fh) (rep_bl.mpr rfl)⟩
  ·cases ho
theorem qko:OpR X (compareOp .In) (rD X.K (oIn false)):=q0r qct fun x y H Q h=>qkn h
end
mutual
def eqD:D->D->Bool
 | .tup ds,.tup es=>eqL ds es
 | .lst ds,.lst es=>eqL ds es
 | d,e=>eqF d e
def eqL:List D->List D->Bool
 | [],[]=>true
 | d :: ds,e :: es=>eqD d e&&eqL ds es
 | _,_=>false
end
mutual
def okE:D->D->Bool
 | .tup ds,.tup es=>yr ds es
 | .lst ds,.lst es=>yr ds es
 | d,e=>flat d&&flat e
def yr:List D->List D->Bool
 | d :: ds,e :: es=>okE d e&&yr ds es
 | _,_=>true
end
mutual
def q53:D->Nat
 | .tup ds=>k9 ds+1
 | .lst ds=>k9 ds+1
 | _=>0
def k9:List D->Nat
 | []=>0
 | d :: ds=>max (q53 d) (k9 ds)
end
def eqJ(ds es:List D)(j:Nat): Bool:=match ds[j]?,es[j]? with
 | some d,some e=>eqD d e
 | _,_=>true
theorem yc:∀(ds es:List D),((List.range (min ds.length es.length)).all (eqJ ds es)&&ds.length==es.length)=eqL ds es
 | [],[]=>by simp [eqL]
 | [],e :: es=>by simp [eqL]
 | d :: ds,[]=>by simp [eqL]
 | d :: ds,e :: es=>by
  have ih:=yc ds es;have e1:min (d :: ds).length (e :: es).length=min ds.length es.length+1:=by simp only [mf];lia
  rw [e1,g13,uj,g1b];have e2:(eqJ (d :: ds) (e :: es) ∘ Nat.succ)=eqJ ds es:=by funext j;simp [eqJ]
  have e3:eqJ (d :: ds) (e :: es) 0=eqD d e:=by simp [eqJ]
  have e4:((d :: ds).length==(e :: es).length)=(ds.length==es.length):=by simp
  rw [e2,e3,e4,Bool.and_assoc,ih];simp only [eqL]
theorem q8x{d e:D}(h1:flat d=true)(h2:flat e=true): eqD d e=eqF d e:=by
 cases d <;> first|(cases h1;done)|skip
 all_goals (cases e <;> first|(cases h2;done)|skip)
 all_goals simp only [eqD]
section
variable{X:Cx}{pins:List (Addr×Obj)}{σ : St}{F H:Hp}{s:Shared}
theorem qda{A:Around}{d e:D}{x y:V}{u v:Value}(h1:flat d=true)(h2:flat e=true)(r1:Rep X.K F d x)(r2:Rep X.K F e y)(q1:RelV x u)(q2:RelV y v): SeqAt.EqAt A s u v (eqD d e):=by
 obtain⟨z1,z2,z3⟩:=q87 h1 h2 r1 r2;rw [q8x h1 h2, <- z1];exact qcr q1 q2 z2 z3
theorem q8y{d e:D}(h:okE d e=true): (∃ds es,d=.tup ds/\e=.tup es/\yr ds es=true)\/(∃ds es,d=.lst ds/\e=.lst es/\yr ds es=true)\/(flat d=true/\flat e=true):=by
 cases d <;> cases e <;> simp only [okE,mi] at h <;> first
  | exact .inl ⟨_,_,rfl,rfl,h⟩
  | exact .inr (.inl ⟨_,_,rfl,rfl,h⟩)
  | exact .inr (.inr h)
theorem qaz(I:Inv X pins σ H s)(fh:Same F H): ∀ {d e:D} {x:V},okE d e=true->Rep X.K F d x->Rep X.K F e x->eqD d e=true:=by
 suffices hh:∀n,(∀d e x,sizeOf d<n->okE d e=true->Rep X.K F d x->Rep X.K F e x->eqD d e=true) from fun {d e x}=>hh (sizeOf d+1) d e x (uk _)
 intro n
 induction n with
 | zero=>intro d e x h;exact absurd h (pq _)
 | succ n ih=>
  intro d e x hn ok r1 r2;have seq:∀(ds es:List D) (xs:List V),sizeOf ds<n->yr ds es=true->RepL X.K F ds xs->RepL X.K F es xs->eqL ds es=true:=by
   intro ds
   induction ds with
   | nil=>
    intro es xs _ _ k1 k2;cases k1.nil_inv;cases es with
    | nil=>simp only [eqL]
    | cons e es=>obtain⟨_,_,z,_⟩:=k2.cons_inv;cases z
   | cons d ds ihd=>
    intro es xs hs ho k1 k2;obtain⟨x,r,rfl,a1,a2⟩:=k1.cons_inv;cases es with
    | nil=>cases k2.nil_inv
    | cons e es=>
     obtain⟨x',r',z,b1,b2⟩:=k2.cons_inv;cases z;simp only [yr,mi] at ho;have hs1:sizeOf d<n:=by simp only [t6] at hs;lia
     have hs2:sizeOf ds<n:=by simp only [t6] at hs;lia
     simp only [eqL,mi];exact⟨ih d e x hs1 ho.1 a1 b1,ihd es r hs2 ho.2 a2 b2⟩
  rcases q8y ok with⟨ds,es,rfl,rfl,ho⟩|⟨ds,es,rfl,rfl,ho⟩|⟨h1,h2⟩
  ·obtain⟨a,xs,rfl,k1,k2⟩:=rep_tup.mp r1
   obtain⟨b,ys,z,k3,k4⟩:=rep_tup.mp r2;cases z;cases I.tuple_inj (qu fh k1) (qu fh k3);simp only [eqD];exact seq ds es xs (by simp only [D.tup.sizeOf_spec] at hn;lia) ho k2 k4
  ·obtain⟨a,xs,rfl,k1,k2⟩:=rep_lst.mp r1
   obtain⟨b,ys,z,k3,k4⟩:=rep_lst.mp r2;cases z;cases I.list_inj (fh.seq k1) (fh.seq k3);simp only [eqD];exact seq ds es xs (by simp only [D.lst.sizeOf_spec] at hn;lia) ho k2 k4
  ·obtain⟨z1,_⟩:=q87 h1 h2 r1 r2
   rw [q8x h1 h2, <- z1];cases d <;> first|(cases h1;done)|skip
   ·cases rep_non.mp r1;rfl
   ·cases rep_bl.mp r1;simp [eqV]
   ·cases rep_int.mp r1;simp [eqV]
   ·cases rep_str.mp r1;simp [eqV]
theorem qj8 (I:Inv X pins σ H s) (fh:Same F H):∀ {d e:D} {x y:V} {u v:Value} (A:Around),okE d e=true->A.units+q53 d<cLine->Rep X.K F d x->Rep X.K F e y->RelV x u->RelV y v->SeqAt.EqAt A s u v (eqD d e):=by
 suffices hh:∀n,(∀d e x y u v (A:Around),sizeOf d<n->okE d e=true->A.units+q53 d<cLine->Rep X.K F d x->Rep X.K F e y->RelV x u->RelV y v->SeqAt.EqAt A s u v (eqD d e)) from
  fun {d e x y u v} A=>hh (sizeOf d+1) d e x y u v A (uk _)
 intro n
 induction n with
 | zero=>intro d e x y u v A h;exact absurd h (pq _)
 | succ n ih=>
  intro d e x y u v A hn ok hu r1 r2 q1 q2;have seq:∀(ds es:List D) (xs ys:List V) (us vs:List Value) (A:Around),sizeOf ds<n->yr ds es=true->A.units+k9 ds<cLine->RepL X.K F ds xs->RepL X.K F es ys->Vals xs us->Vals ys vs ->
    ∀j (h1:j<us.length) (h2:j<vs.length),SeqAt.EqAt A s us[j] vs[j] (eqJ ds es j):=by
   intro ds
   induction ds with
   | nil=>
    intro es xs ys us vs A _ _ _ k1 _ w1 _ j h1;cases k1.nil_inv;cases w1;exact absurd h1 (pq _)
   | cons d ds ihd=>
    intro es xs ys us vs A hs ho hu k1 k2 w1 w2 j h1 h2;obtain⟨x,r,rfl,a1,a2⟩:=k1.cons_inv;cases w1 with
    | cons p1 p2=>
     cases es with
     | nil=>cases k2.nil_inv;cases w2;exact absurd h2 (pq _)
     | cons e es=>
      obtain⟨y,r',rfl,b1,b2⟩:=k2.cons_inv;cases w2 with
      | cons p3 p4=>
       simp only [yr,mi] at ho;have hs1:sizeOf d<n:=by simp only [t6] at hs;lia
       have hs2:sizeOf ds<n:=by simp only [t6] at hs;lia
       simp only [k9] at hu;cases j with
       | zero=>
        have e0:eqJ (d :: ds) (e :: es) 0=eqD d e:=by simp [eqJ]
        rw [e0];exact ih d e x y _ _ A hs1 ho.1 (by lia) a1 b1 p1 p3
       | succ j=>
        have e0:eqJ (d :: ds) (e :: es) (j+1)=eqJ ds es j:=by simp [eqJ]
        rw [e0];exact ihd es r r' _ _ A hs2 ho.2 (by lia) a2 b2 p2 p4 j (by simpa using h1) (by simpa using h2)
  rcases q8y ok with⟨ds,es,rfl,rfl,ho⟩|⟨ds,es,rfl,rfl,ho⟩|⟨h1,h2⟩
  ·have rr:=qaz I fh ok r1
   obtain⟨a,xs,rfl,k1,k2⟩:=rep_tup.mp r1;obtain⟨b,ys,rfl,k3,k4⟩:=rep_tup.mp r2;cases q1;cases q2
   by_cases hab:a=b
   ·subst hab
    rw [rr r2];exact g0x _
   ·obtain⟨i1,v1,t1,_⟩:=I.tuple (qu fh k1)
    obtain⟨i2,v2,t2,_⟩:=I.tuple (qu fh k3);simp only [q53] at hu;refine SeqAt.EqAt.of_refs hab ?_;have hq:=seq ds es xs ys i1 i2 A.in1 (by simp only [D.tup.sizeOf_spec] at hn;lia) ho (by show A.units+1+k9 ds<cLine;lia) k2 k4 v1 v2;have:=SeqAt.RcAt.tuples (A:=A) (e:=eqJ ds es) (show s.heap.IsTuple a i1.toArray from t1) (show s.heap.IsTuple b i2.toArray from t2) (by lia) (fun j h1 h2=>by simpa using hq j (by simpa using h1) (by simpa using h2));simp only [gp, <- v1.length, <- v2.length, <- k2.length, <- k4.length,yc] at this
    simpa only [eqD] using this
  ·have rr:=qaz I fh ok r1
   obtain⟨a,xs,rfl,k1,k2⟩:=rep_lst.mp r1;obtain⟨b,ys,rfl,k3,k4⟩:=rep_lst.mp r2;cases q1;cases q2
   by_cases hab:a=b
   ·subst hab
    rw [rr r2];exact g0x _
   ·obtain⟨i1,v1,t1,_⟩:=I.list (fh.seq k1)
    obtain⟨i2,v2,t2,_⟩:=I.list (fh.seq k3);simp only [q53] at hu;refine SeqAt.EqAt.of_refs hab ?_;have hq:=seq ds es xs ys i1 i2 A.in1 (by simp only [D.lst.sizeOf_spec] at hn;lia) ho (by show A.units+1+k9 ds<cLine;lia) k2 k4 v1 v2;have hl1:i1.length=ds.length:=by rw [<- v1.length, <- k2.length]
    have hl2:i2.length=es.length:=by rw [<- v2.length, <- k4.length]
    simp only [eqD]
    by_cases hl:ds.length=es.length
    ·have:=SeqAt.RcAt.lists (A:=A) (e:=eqJ ds es) t1.isList t2.isList (by rw [gp,gp,hl1,hl2];exact hl) (by lia) (fun j h1 h2=>by simpa using hq j (by simpa using h1) (by simpa using h2))
     have e1:(List.range i1.toArray.size).all (eqJ ds es)=eqL ds es:=by
      rw [<- yc,gp,hl1, <- hl,Nat.min_self];simp
     rw [e1] at this;exact this
    ·have e1:eqL ds es=false:=by rw [<- yc];simp [hl]
     rw [e1];exact SeqAt.RcAt.lists_lengths t1.isList t2.isList (by rw [gp,gp,hl1,hl2];simpa using hl) (by lia)
  ·exact qda h1 h2 r1 r2 q1 q2
def qfa:D->D->Option D
 | .tup ds,.tup es=>if yr ds es&&decide (k9 ds<=60) then some (.bl (eqL ds es)) else none
 | .lst ds,.lst es=>if yr ds es&&decide (k9 ds<=60) then some (.bl (eqL ds es)) else none
 | _,_=>none
theorem qj9(hu:X.A.units+64<cLine): OpR X (compareOp .Eq) (rD X.K qfa):=by
 intro pins s σ H x y v u Q I rx ry h;obtain⟨F,d1,d2,d,fh,r1,r2,ho,q⟩:=h;have part:∀ {ds es:List D} {xs ys:List V} {us vs:List Value},yr ds es=true->k9 ds<=60->RepL X.K F ds xs->RepL X.K F es ys->Vals xs us->Vals ys vs ->
   ∀j (h1:j<us.length) (h2:j<vs.length),SeqAt.EqAt X.A.in1 s us[j] vs[j] (eqJ ds es j):=by
  intro ds
  induction ds with
  | nil=>
   intro es xs ys us vs _ _ k1 _ w1 _ j h1;cases k1.nil_inv;cases w1;exact absurd h1 (pq _)
  | cons d ds ihd=>
   intro es xs ys us vs ho hd k1 k2 w1 w2 j h1 h2;obtain⟨x,r,rfl,a1,a2⟩:=k1.cons_inv;cases w1 with
   | cons p1 p2=>
    cases es with
    | nil=>cases k2.nil_inv;cases w2;exact absurd h2 (pq _)
    | cons e es=>
     obtain⟨y,r',rfl,b1,b2⟩:=k2.cons_inv;cases w2 with
     | cons p3 p4=>
      simp only [yr,mi] at ho;simp only [k9] at hd;cases j with
      | zero=>
       have e0:eqJ (d :: ds) (e :: es) 0=eqD d e:=by simp [eqJ]
       rw [e0];exact qj8 I fh _ ho.1 (by show X.A.units+1+q53 d<cLine;lia) a1 b1 p1 p3
      | succ j=>
       have e0:eqJ (d :: ds) (e :: es) (j+1)=eqJ ds es j:=by simp [eqJ]
       rw [e0];exact ihd ho.2 (by lia) a2 b2 p2 p4 j (by simpa using h1) (by simpa using h2)
 unfold qfa at ho
 split at ho
 ·rename_i ds es
  split at ho
  ·rename_i hc
   cases ho;rw [mi] at hc;obtain⟨a,xs,rfl,k1,k2⟩:=rep_tup.mp r1;obtain⟨b,ys,rfl,k3,k4⟩:=rep_tup.mp r2;cases rx;cases ry;obtain⟨i1,v1,t1,_⟩:=I.tuple (qu fh k1);obtain⟨i2,v2,t2,_⟩:=I.tuple (qu fh k3);have hq:=part hc.1 (uf hc.2) k2 k4 v1 v2;refine SeqAt.eq_tupleAt (e:=eqJ ds es) (show s.heap.IsTuple a i1.toArray from t1) (show s.heap.IsTuple b i2.toArray from t2) (by lia) (fun j h1 h2=>by simpa using hq j (by simpa using h1) (by simpa using h2)) ?_;simp only [gp, <- v1.length, <- v2.length, <- k2.length, <- k4.length,yc];exact⟨.bl _,H,I,rfl,q _ F H (.refl fh) (rep_bl.mpr rfl)⟩
  ·cases ho
 ·rename_i ds es
  split at ho
  ·rename_i hc
   cases ho;rw [mi] at hc;obtain⟨a,xs,rfl,k1,k2⟩:=rep_lst.mp r1;obtain⟨b,ys,rfl,k3,k4⟩:=rep_lst.mp r2;cases rx;cases ry;obtain⟨i1,v1,t1,_⟩:=I.list (fh.seq k1);obtain⟨i2,v2,t2,_⟩:=I.list (fh.seq k3);have hq:=part hc.1 (uf hc.2) k2 k4 v1 v2;have hl1:i1.length=ds.length:=by rw [<- v1.length, <- k2.length]
   have hl2:i2.length=es.length:=by rw [<- v2.length, <- k4.length]
   by_cases hl:ds.length=es.length
   ·refine SeqAt.eq_listAt (e:=eqJ ds es) t1.isList t2.isList (by rw [gp,gp,hl1,hl2];exact hl) (by lia) (fun j h1 h2=>by simpa using hq j (by simpa using h1) (by simpa using h2)) ?_
    have e1:(List.range i1.toArray.size).all (eqJ ds es)=eqL ds es:=by
     rw [<- yc,gp,hl1, <- hl,Nat.min_self];simp
    rw [e1];exact⟨.bl _,H,I,rfl,q _ F H (.refl fh) (rep_bl.mpr rfl)⟩
   ·have e1:eqL ds es=false:=by rw [<- yc];simp [hl]
    rw [e1] at q;exact SeqAt.eq_list_lengthsAt t1.isList t2.isList (by rw [gp,gp,hl1,hl2];simpa using hl) (by lia) ⟨.bl _,H,I,rfl,q _ F H (.refl fh) (rep_bl.mpr rfl)⟩
  ·cases ho
 ·cases ho
abbrev oEq:D->D->Option D:=fun x y=>(qf0 x y).or (qfa x y)
theorem q0n(hu:X.A.units+64<cLine): OpR X (compareOp .Eq) (rD X.K oEq):=q8o qj0 (qj9 hu)
end
def itN:Bool->String
 | true=>"list_iterator"
 | false=>"tuple_iterator"
def sqN:Bool->String
 | true=>"list"
 | false=>"tuple"
def SI(b:Bool)(h:Heap)(it l:Addr)(k:Nat): Prop:=∃o,h.get? it=some o/\o.cls=.type (itN b)/\o.data=.fields #[.ref l,.int k 0]
def SO(b:Bool)(h:Heap)(l:Addr)(xs:Array Value): Prop:=∃o,h.get? l=some o/\o.cls=.type (sqN b)/\∃n,o.data=.seq xs n
theorem SI.ext{b:Bool}{h h':Heap}{it l c:Addr}{k:Nat}(x:SI b h it l k)(e:Heap.ExtBut c h h')(n:it≠c): SI b h' it l k:=let⟨o,ho,r⟩:=x; ⟨o,e it o n ho,r⟩
theorem SO.ext{b:Bool}{h h':Heap}{l c:Addr}{xs:Array Value}(x:SO b h l xs)(e:Heap.ExtBut c h h')(n:l≠c): SO b h' l xs:=let⟨o,ho,r⟩:=x; ⟨o,e l o n ho,r⟩
theorem SI.keep{b:Bool}{h h':Heap}{it l:Addr}{k:Nat}(x:SI b h it l k)(e:∀o,h.get? it=some o->h'.get? it=some o): SI b h' it l k:=let⟨o,ho,r⟩:=x; ⟨o,e o ho,r⟩
section
variable{prog:Program}{w:World}{A:Around}{E:Value->Shared->Prop}{s:Shared}
theorem q6i{b:Bool}{it l:Addr}{k:Nat}{xs:Array Value}{x:Value}{Q:Value->Shared->Prop}(hi:SI b s.heap it l k)(ho:SO b s.heap l xs)(hx:xs[k]? = some x)
  (h:∀h',SI b h' it l (k+1)->Heap.SameBut it s.heap h'->Q x {s with heap:=h'}):wpAny (model prog w) A (Builtin.SmallTypes.nextOf (.ref it)) Q E s:=by
 cases b with
 | true=>exact wpAny_nextOf_list_item hi ho hx h
 | false=>
  obtain⟨o,e1,e2,e3⟩:=id hi;obtain⟨o2,f1,f2,n,f3⟩:=id ho;have ty:s.TypeIs (.ref it) "tuple_iterator" :=⟨o,e1,e2⟩
  unfold Builtin.SmallTypes.nextOf;refine g9 (ng (name:=Str.ofString "__next__") ty p8 (pd p8 ty g0c ?_ (g09 _)));show wpAny _ _ (field (.ref it) 0 >>= _) _ _ s;refine g9 (n8 e1 e3 (x:=.ref l) rfl ?_);show wpAny _ _ (if(Value.ref l==Value.none)=true then _ else _) _ _ s;rw [m7 (fun z:(Value.ref l==Value.none)=true=>gq z)];show wpAny _ _ (field (.ref it) 1 >>= _) _ _ s;refine g9 (n8 e1 e3 (x:=.int k 0) rfl ?_);show wpAny _ _ (seqItems? (.ref l) >>= _) _ _ s;refine g9 (nz f1 f3 ?_);simp only [t4,hx];refine g9 (wpAny_setField e1 e3 (by simp) (gi ⟨x,rfl,gi (h _ ⟨_,Heap.get?_update_self _ e1 (Obj.isFreed_of_fields (Obj.data_mapFields e3 _)),(Obj.cls_mapFields ..).trans e2,?_⟩ (Heap.SameBut.update ..))⟩));rw [Obj.data_mapFields e3];simp [rawInt]
theorem qb0{b:Bool}{it l:Addr}{k:Nat}{xs:Array Value}{Q:Value->Shared->Prop}(hh:A.handled=none)(hi:SI b s.heap it l k)(ho:SO b s.heap l xs)(hx:xs[k]? = none)
  (h:∀h' e,Heap.ExtBut it s.heap h'->(∃o,h'.get? e=some o/\o.cls=.type "StopIteration")->E (.ref e) {s with heap:=h'}):wpAny (model prog w) A (Builtin.SmallTypes.nextOf (.ref it)) Q E s:=by
 cases b with
 | true=>exact wpAny_nextOf_list_end hh hi ho hx h
 | false=>
  obtain⟨o,e1,e2,e3⟩:=id hi;obtain⟨o2,f1,f2,n,f3⟩:=id ho;have ty:s.TypeIs (.ref it) "tuple_iterator" :=⟨o,e1,e2⟩
  unfold Builtin.SmallTypes.nextOf;refine g9 (ng (name:=Str.ofString "__next__") ty p8 (pd p8 ty g0c ?_ (g09 _)));show wpAny _ _ (field (.ref it) 0 >>= _) _ _ s;refine g9 (n8 e1 e3 (x:=.ref l) rfl ?_);show wpAny _ _ (if(Value.ref l==Value.none)=true then _ else _) _ _ s;rw [m7 (fun z:(Value.ref l==Value.none)=true=>gq z)];show wpAny _ _ (field (.ref it) 1 >>= _) _ _ s;refine g9 (n8 e1 e3 (x:=.int k 0) rfl ?_);show wpAny _ _ (seqItems? (.ref l) >>= _) _ _ s;refine g9 (nz f1 f3 ?_);simp only [t4,hx];refine g9 (uz (g9 (wpAny_setField e1 e3 (by simp) ?_)));show wpAny _ _ (newExc (.type "StopIteration") [] >>= _) _ _ _;refine g9 ?_;simp only [newExc,newTuple];refine g9 (nt (g9 (m:=firstArgMember _ _) (wpAny_of_eq (a:=Value.none) (by first|rfl|(simp only [firstArgMember];rfl)) (nt ?_ (by size_fits)))) (by size_fits));simp only [raiseNew];refine g9 (wpAny_handled ?_)
  first|rw [show A.in1.handled=none from hh]|rw [hh]
  exact g9 (gi (wpAny_throw (h _ _ (((Heap.SameBut.update ..).extBut.push _).push _) ⟨_,m5 _ rfl,rfl⟩)))
structure Z5(z ti to i1 i2:Addr): Prop where
 a1:ti≠z
 a2:to≠z
 a3:i1≠z
 a4:i2≠z
 a5:ti≠to
 a6:ti≠i1
 a7:ti≠i2
 a8:to≠i1
 a9:to≠i2
 a10:i1≠i2
structure Off(l z to i1 i2:Addr): Prop where
 z:l≠z
 o:l≠to
 i:l≠i1
 j:l≠i2
theorem qdb{b1 b2:Bool}{z ti to i1 i2 l1 l2:Addr}{k1 k2:Nat}{xs ys:Array Value}{x y p q:Value}{Q:Value->Shared->Prop}(D:Z5 z ti to i1 i2)(m1:Off l1 z to i1 i2)(m2:Off l2 z to i1 i2)
  (hz:IsZip s.heap z ti to .none) (ht:IsPair s.heap ti (.ref i1) (.ref i2)) (hp:IsPair s.heap to p q)
  (h1:SI b1 s.heap i1 l1 k1) (h2:SI b2 s.heap i2 l2 k2) (o1:SO b1 s.heap l1 xs) (o2:SO b2 s.heap l2 ys) (hx:xs[k1]? = some x) (hy:ys[k2]? = some y)
  (hQ:∀h',IsZip h' z ti to (rawInt s.heap.objs.size)->IsPair h' to x y->SI b1 h' i1 l1 (k1+1)->SI b2 h' i2 l2 (k2+1)->IsPair h' s.heap.objs.size x y->h'.objs.size=s.heap.objs.size+1 ->
   (∀c o,c≠z->c≠to->c≠i1->c≠i2->s.heap.get? c=some o->h'.get? c=some o)->Q (.ref s.heap.objs.size) {s with heap:=h'}) :
  wpAny (model prog w) A (Builtin.«zip.__next__» ⟨[.ref z],[]⟩) (fun fin s'=>∃v,fin=.done (.ret v)/\Q v s') E s:=by
 show wpAny _ _ (field (.ref z) 2 >>= _) _ _ _;refine g9 (n8 hz rfl (x:=.bool false) rfl ?_);show wpAny _ _ (field (.ref z) 3 >>= _) _ _ _;refine g9 (n8 hz rfl (x:=.ref ti) rfl (g9 (nz ht rfl ?_)));show wpAny _ _ (Builtin.SmallTypes.ownedTupleIsFree (.ref z) >>= _) _ _ _;refine g9 ?_;unfold Builtin.SmallTypes.ownedTupleIsFree;refine g9 (n8 hz rfl (x:=.none) rfl (gi ?_));simp only [nj];refine g9 (uz (g9 (n8 hz rfl (x:=.ref to) rfl (g9 (p7 hz (by simp) fun g1 hz1 u1=>?_)))));have hz1':IsZip g1 z ti to .ellipsis:=hz1;refine g9 ?_;simp only [List.zipIdx_cons,List.zipIdx_nil,ux,List.forIn_nil];refine g9 (g9 (g0g ?_));show wpAny _ _ (Builtin.SmallTypes.nextOf (.ref i1) >>= _) _ _ _;refine g9 (q6i (h1.ext u1.extBut D.a3) (o1.ext u1.extBut m1.z) hx fun g2 n1 u2=>gi ?_);have hp2:IsPair g2 to p q:=u2.extBut _ _ D.a8 (u1.extBut _ _ D.a2 hp);refine g9 (nz hp2 rfl (g9 (g00 hp2 fun g3 hp3 u3=>?_)));have hp3':IsPair g3 to x q:=hp3;refine g9 (wpAny_letGo (gi (g9 (g9 (g0g ?_)))));show wpAny _ _ (Builtin.SmallTypes.nextOf (.ref i2) >>= _) _ _ _;refine g9 (q6i (((h2.ext u1.extBut D.a4).ext u2.extBut D.a10.symm).ext u3.extBut D.a9.symm) (((o2.ext u1.extBut m2.z).ext u2.extBut m2.i).ext u3.extBut m2.o) hy fun g4 n2 u4=>gi ?_);have hp4:IsPair g4 to x q:=u4.extBut _ _ D.a9 hp3';refine g9 (nz hp4 rfl (g9 (g00 hp4 fun g5 hp5 u5=>?_)));have hp5':IsPair g5 to x y:=hp5;refine g9 (wpAny_letGo (gi (gi (g9 (nz hp5' rfl (g9 (wpAny_newTuple ?_)))))));have hsz:g5.objs.size=s.heap.objs.size:=by rw [u5.1,u4.1,u3.1,u2.1,u1.1]
 have hz5:IsZip g5 z ti to .ellipsis:=u5.extBut _ _ D.a2.symm (u4.extBut _ _ D.a4.symm (u3.extBut _ _ D.a2.symm (u2.extBut _ _ D.a3.symm hz1')));have kp:∀c o,c≠z->c≠to->c≠i1->c≠i2->s.heap.get? c=some o->g5.get? c=some o:=fun c o c1 c2 c3 c4 e=>u5.extBut _ _ c2 (u4.extBut _ _ c4 (u3.extBut _ _ c2 (u2.extBut _ _ c3 (u1.extBut _ _ c1 e))));have j1:SI b1 g5 i1 l1 (k1+1):=((n1.ext u3.extBut D.a8.symm).ext u4.extBut D.a10).ext u5.extBut D.a8.symm;have j2:SI b2 g5 i2 l2 (k2+1):=n2.ext u5.extBut D.a9.symm;have hzl:z<g5.objs.size:=gs hz5;show wpAny _ _ (Builtin.SmallTypes.ownedTupleHandOut (.ref z) (.ref g5.objs.size) >>= _) _ _ _;refine g9 ?_;unfold Builtin.SmallTypes.ownedTupleHandOut;have hz6:IsZip (g5.push {cls:=.type "tuple",data:=.seq #[x,y]}) z ti to .ellipsis:=gh _ hz5;refine g9 (p7 hz6 (by simp) fun g7 hz7 u7=>?_);have hz7':IsZip g7 z ti to (rawInt g5.objs.size):=hz7;refine p7 hz7' (by simp) fun g8 hz8 u8=>?_;have hz8':IsZip g8 z ti to (rawInt g5.objs.size):=hz8;have up:∀c o,c≠z->g5.get? c=some o->g8.get? c=some o:=fun c o c1 e=>u8.extBut _ _ c1 (u7.extBut _ _ c1 (gh _ e));have hT:IsPair g8 g5.objs.size x y:=u8.extBut _ _ (uv hzl) (u7.extBut _ _ (uv hzl) (m5 _ rfl));have hl8:g8.objs.size=g5.objs.size+1:=by rw [u8.1,u7.1,ny]
 rw [hsz] at hz8' hT hl8;refine gi ⟨_,rfl,?_⟩;show Q (.ref g5.objs.size) _;rw [hsz];exact hQ g8 hz8' (up _ _ D.a2 hp5') (j1.keep fun o e=>up _ o D.a3 e) (j2.keep fun o e=>up _ o D.a4 e) hT hl8 fun c o c1 c2 c3 c4 e=>up c o c1 (kp c o c1 c2 c3 c4 e)
theorem qfb{b1 b2:Bool}{z ti to i1 i2 l1 l2:Addr}{k1 k2:Nat}{xs ys:Array Value}{p q:Value}{Q:Fin->Shared->Prop}(hh:A.handled=none)(D:Z5 z ti to i1 i2)(m1:Off l1 z to i1 i2)(m2:Off l2 z to i1 i2)
  (hz:IsZip s.heap z ti to .none) (ht:IsPair s.heap ti (.ref i1) (.ref i2)) (hp:IsPair s.heap to p q)
  (h1:SI b1 s.heap i1 l1 k1) (h2:SI b2 s.heap i2 l2 k2) (o1:SO b1 s.heap l1 xs) (o2:SO b2 s.heap l2 ys) (hend:xs[k1]? = none\/ys[k2]? = none)
  (hE:∀h' e,(∀c o,c≠z->c≠to->c≠i1->c≠i2->s.heap.get? c=some o->h'.get? c=some o)->(∃o,h'.get? e=some o/\o.cls=.type "StopIteration")->E (.ref e) {s with heap:=h'}) :
  wpAny (model prog w) A (Builtin.«zip.__next__» ⟨[.ref z],[]⟩) Q E s:=by
 show wpAny _ _ (field (.ref z) 2 >>= _) _ _ _;refine g9 (n8 hz rfl (x:=.bool false) rfl ?_);show wpAny _ _ (field (.ref z) 3 >>= _) _ _ _;refine g9 (n8 hz rfl (x:=.ref ti) rfl (g9 (nz ht rfl ?_)));show wpAny _ _ (Builtin.SmallTypes.ownedTupleIsFree (.ref z) >>= _) _ _ _;refine g9 ?_;unfold Builtin.SmallTypes.ownedTupleIsFree;refine g9 (n8 hz rfl (x:=.none) rfl (gi ?_));simp only [nj];refine g9 (uz (g9 (n8 hz rfl (x:=.ref to) rfl (g9 (p7 hz (by simp) fun g1 hz1 u1=>?_)))));have hz1':IsZip g1 z ti to .ellipsis:=hz1;refine g9 ?_;simp only [List.zipIdx_cons,List.zipIdx_nil,ux,List.forIn_nil];refine g9 (g9 (g0g ?_));show wpAny _ _ (Builtin.SmallTypes.nextOf (.ref i1) >>= _) _ _ _;cases hx:xs[k1]? with
 | none=>
  refine g9 (qb0 hh (h1.ext u1.extBut D.a3) (o1.ext u1.extBut m1.z) hx fun g2 e u2 he=>?_);obtain⟨oe,y1,y2⟩:=he;have hz2:IsZip g2 z ti to .ellipsis:=u2 _ _ D.a3.symm hz1';have ne:e≠z:=fun x=>by subst x;rw [hz2] at y1;cases y1;simp at y2
  exact p7 hz2 (by simp) fun g3 _ u3=>hE g3 e (fun c o c1 _ c3 _ x=>u3.extBut _ _ c1 (u2 _ _ c3 (u1.extBut _ _ c1 x))) ⟨oe,u3.extBut _ _ ne y1,y2⟩
 | some x=>
  have hy:ys[k2]? = none:=by rcases hend with h|h;rw [hx] at h;cases h;exact h
  refine g9 (q6i (h1.ext u1.extBut D.a3) (o1.ext u1.extBut m1.z) hx fun g2 n1 u2=>gi ?_);have hp2:IsPair g2 to p q:=u2.extBut _ _ D.a8 (u1.extBut _ _ D.a2 hp);refine g9 (nz hp2 rfl (g9 (g00 hp2 fun g3 hp3 u3=>?_)));refine g9 (wpAny_letGo (gi (g9 (g9 (g0g ?_)))));show wpAny _ _ (Builtin.SmallTypes.nextOf (.ref i2) >>= _) _ _ _;refine g9 (qb0 hh (((h2.ext u1.extBut D.a4).ext u2.extBut D.a10.symm).ext u3.extBut D.a9.symm) (((o2.ext u1.extBut m2.z).ext u2.extBut m2.i).ext u3.extBut m2.o) hy fun g4 e u4 he=>?_);obtain⟨oe,y1,y2⟩:=he;have hz4:IsZip g4 z ti to .ellipsis:=u4 _ _ D.a4.symm (u3.extBut _ _ D.a2.symm (u2.extBut _ _ D.a3.symm hz1'));have ne:e≠z:=fun x=>by subst x;rw [hz4] at y1;cases y1;simp at y2
  exact p7 hz4 (by simp) fun g5 _ u5=>hE g5 e (fun c o c1 c2 c3 c4 x=>u5.extBut _ _ c1 (u4 _ _ c4 (u3.extBut _ _ c2 (u2.extBut _ _ c3 (u1.extBut _ _ c1 x))))) ⟨oe,u5.extBut _ _ ne y1,y2⟩
theorem qbx{b1 b2:Bool}{z ti to i1 i2 l1 l2:Addr}{k1 k2:Nat}{xs ys:Array Value}{x y p q:Value}{Q:Option Value->Shared->Prop}(D:Z5 z ti to i1 i2)(m1:Off l1 z to i1 i2)(m2:Off l2 z to i1 i2)
  (hz:IsZip s.heap z ti to .none) (ht:IsPair s.heap ti (.ref i1) (.ref i2)) (hp:IsPair s.heap to p q)
  (h1:SI b1 s.heap i1 l1 k1) (h2:SI b2 s.heap i2 l2 k2) (o1:SO b1 s.heap l1 xs) (o2:SO b2 s.heap l2 ys) (hx:xs[k1]? = some x) (hy:ys[k2]? = some y)
  (hQ:∀h',IsZip h' z ti to (rawInt s.heap.objs.size)->IsPair h' to x y->SI b1 h' i1 l1 (k1+1)->SI b2 h' i2 l2 (k2+1)->IsPair h' s.heap.objs.size x y->h'.objs.size=s.heap.objs.size+1 ->
   (∀c o,c≠z->c≠to->c≠i1->c≠i2->s.heap.get? c=some o->h'.get? c=some o)->Q (some (.ref s.heap.objs.size)) {s with heap:=h'}) :
  wpAny (model prog w) A (pyNext (.ref z)) Q E s:=by
 have ty:s.TypeIs (.ref z) "zip" :=⟨_,hz,rfl⟩
 unfold pyNext;exact g9 (g0f (ng (name:=Str.ofString "__next__") ty g01 (pd g01 ty F.entry_zip_next
  (qdb D m1 m2 hz ht hp h1 h2 o1 o2 hx hy fun h' c1 c2 c3 c4 c5 c6 c7=>gi (hQ h' c1 c2 c3 c4 c5 c6 c7)) (F.args_zip_next_1 _))))
theorem q7o{b1 b2:Bool}{z ti to i1 i2 l1 l2:Addr}{k1 k2:Nat}{xs ys:Array Value}{p q:Value}{Q:Option Value->Shared->Prop}(hh:A.handled=none)(D:Z5 z ti to i1 i2)(m1:Off l1 z to i1 i2)(m2:Off l2 z to i1 i2)
  (hz:IsZip s.heap z ti to .none) (ht:IsPair s.heap ti (.ref i1) (.ref i2)) (hp:IsPair s.heap to p q)
  (h1:SI b1 s.heap i1 l1 k1) (h2:SI b2 s.heap i2 l2 k2) (o1:SO b1 s.heap l1 xs) (o2:SO b2 s.heap l2 ys) (hend:xs[k1]? = none\/ys[k2]? = none)
  (hQ:∀h',(∀c o,c≠z->c≠to->c≠i1->c≠i2->s.heap.get? c=some o->h'.get? c=some o)->Q none {s with heap:=h'}):wpAny (model prog w) A (pyNext (.ref z)) Q E s:=by
 have ty:s.TypeIs (.ref z) "zip" :=⟨_,hz,rfl⟩
 unfold pyNext;refine g9 (g0f (ng (name:=Str.ofString "__next__") ty g01 (pd g01 ty F.entry_zip_next
  (qfb hh D m1 m2 hz ht hp h1 h2 o1 o2 hend fun h' e hk he=>?_) (F.args_zip_next_1 _))))
 obtain⟨o,y1,y2⟩:=he;exact g9 (wpAny_isInstance (T:="StopIteration") (b:=true) ⟨o,y1,y2⟩ isSubtype_stop (gi (hQ _ hk)))
theorem q7a{b:Bool}{l:Addr}{xs:Array Value}{Q:Value->Shared->Prop}(h:SO b s.heap l xs)(q:Q (.ref s.heap.objs.size) {s with heap:=s.heap.push {cls:=.type (itN b),data:=.fields #[.ref l,.int 0 0]} }):
  wpAny (model prog w) A (pyIter (.ref l)) Q E s:=by
 cases b with
 | true=>exact ug h q
 | false=>exact wpAny_pyIter_tuple h q
end
def zh1(b1:Bool)(h:Heap)(l1:Addr): Heap:=h.push {cls:=.type (itN b1),data:=.fields #[.ref l1,.int 0 0]}
def zh2(b1 b2:Bool)(h:Heap)(l1 l2:Addr): Heap:=(zh1 b1 h l1).push {cls:=.type (itN b2),data:=.fields #[.ref l2,.int 0 0]}
def zh3(b1 b2:Bool)(h:Heap)(l1 l2:Addr): Heap:=(zh2 b1 b2 h l1 l2).push {cls:=.type "tuple",data:=.seq #[.ref h.objs.size,.ref (zh1 b1 h l1).objs.size]}
def zh4(b1 b2:Bool)(h:Heap)(l1 l2:Addr): Heap:=(zh3 b1 b2 h l1 l2).push {cls:=.type "tuple",data:=.seq #[.none,.none]}
def zh5(b1 b2:Bool)(h:Heap)(l1 l2:Addr): Heap:=(zh4 b1 b2 h l1 l2).push {cls:=.type "zip",data:=.fields #[.none,.bool false,.bool false,.ref (zh2 b1 b2 h l1 l2).objs.size,.ref (zh3 b1 b2 h l1 l2).objs.size]}
theorem SO.push{b:Bool}{h:Heap}{l:Addr}{xs:Array Value}(x:SO b h l xs)(o:Obj): SO b (h.push o) l xs:=let⟨u,e,r⟩:=x; ⟨u,gh _ e,r⟩
theorem qby(b1 b2:Bool)(l1 l2:Addr)(xs ys:Array Value):
  Meets (Builtin.«zip.__new__» ⟨[.type "zip",.ref l1,.ref l2],[]⟩) (fun _ R s=>SO b1 s.heap l1 xs/\SO b2 s.heap l2 ys/\R (.ok (.ret (.ref (zh4 b1 b2 s.heap l1 l2).objs.size))) {s with heap:=zh5 b1 b2 s.heap l1 l2}):=
 .of_wp fun prog w A R s h=>by
  obtain⟨hp,gg,dd,tk,os⟩:=s;obtain⟨ha,hb,h⟩:=h;have hsub:=sub_zip;have f1:SO b1 (Shared.heap ⟨hp,gg,dd,tk,os⟩) l1 xs:=ha;have f2:SO b2 (Shared.heap ⟨hp.push {cls:=.type (itN b1),data:=.fields #[.ref l1,.int 0 0]},gg,dd,tk,os⟩) l2 ys:=SO.push hb _
  wp_walk using q7a f1,q7a f2
  exact⟨_,rfl,h⟩
section
variable{X:Cx}{pins:List (Addr×Obj)}{σ : St}{H:Hp}{s:Shared}{h':Heap}
theorem qb1{fp:List Addr}{t':Nat}(I:Inv X pins σ H s)(hf:∀b∈fp,k7 X pins H b)(k:∀b o,b∉fp->s.heap.get? b=some o->h'.get? b=some o): Inv X pins σ H {s with heap:=h',toks:=t'}:=by
 have nin:∀b u,H b=some u->b∉fp:=fun b u e hb=>by rw [(hf b hb).1] at e;cases e
 refine I.step (g':=s.gens) (d':=s.drawn) (ch:=fp) (fun b hb=>?_) (fun b o _ _ hc e _=>k b o hc e) (fun b o _ _ hc e _=>⟨o.slots,k b o hc e⟩) (fun _ _ _ _ n=>n)
  (fun b o hc e=>⟨o,k b o hc e⟩) (fun _ _ e=>e) (fun _ _ _ e=>e) (fun b ps e=>⟨#[],by rw [e];simp⟩) (fun m hm=>?_) (fun b u e=>?_) I.bare
 ·obtain⟨_,f1,_,f3,f4,f5⟩:=hf b hb
  exact⟨f3,f1,f4,f5⟩
 ·obtain⟨o,es,ep,ho,r⟩:=hm
  exact⟨o,es,ep,k _ o (fun z=>(hf _ z).2.1 rfl) ho,r⟩
 ·refine(I.hok b u e).stay (fun c v hc q=>k c v ?_ q) (fun _ q=>q) fun _ _ q=>q
  rcases hc with z|z
  ·rw [z];exact nin b u e
  ·exact nin c _ z
theorem adopt{p:Addr}{o:HO}(I:Inv X pins σ H s)(f:k7 X pins H p)(new:ObjOk X.prog X.w (upd H p o) s.heap p o): Inv X pins σ (upd H p o) s:=by
 have hp:=f.1;obtain⟨_,f1,_,f3,f4,f5⟩:=f;have ne:∀ {b:Addr} {u:HO},H b=some u->upd H p o b=some u:=fun {b u} e=>by rw [ql (ji e hp)];exact e
 refine I.step (h':=s.heap) (g':=s.gens) (t':=s.toks) (d':=s.drawn) (ch:=[p]) (fun b hb=>?_) (fun b o _ _ hc e _=>e) (fun b o _ _ hc e _=>⟨o.slots,e⟩) (fun b o hc e n=>?_)
  (fun b o hc e=>⟨o,e⟩) (fun _ _ e=>ne e) (fun _ _ _ e=>ne e) (fun b ps e=>⟨#[],by rw [ne e];simp⟩) (fun m hm=>hm) (fun b u e=>?_) I.bare
 ·obtain rfl:b=p:=by simpa using hb
  exact⟨f3,f1,f4,f5⟩
 ·rw [ql (fun z=>hc (by simp [z]))];exact n
 ·by_cases hb:b=p
  ·subst hb;rw [qz] at e;cases e;exact new
  ·rw [ql hb] at e
   exact(I.hok b u e).stay (fun c v _ q=>q) (fun c q=>ne q) fun c xs q=>ne q
def Sq:Bool->Frag->Hp->Addr->List V->Prop
 | true=>SqL
 | false=>SqT
theorem q43{b:Bool}{a:Addr}{xs:List V}(I:Inv X pins σ H s)(h:Sq b X.K H a xs): ∃its:List Value,Vals xs its/\SO b s.heap a its.toArray:=by
 cases b with
 | true=>obtain⟨its,r,⟨o,n,e,c,_,d⟩,_⟩:=I.list h;exact⟨its,r,o,e,c,n,d⟩
 | false=>obtain⟨its,r,⟨o,e,c,n,d⟩,_⟩:=I.tuple h;exact⟨its,r,o,e,c,n,d⟩
theorem qdc{b:Bool}{a:Addr}{xs ys:List V}(I:Inv X pins σ H s)(h:Sq b X.K H a xs)(h':Sq b X.K H a ys): xs=ys:=by
 cases b with
 | true=>exact I.list_inj h h'
 | false=>exact I.tuple_inj h h'
theorem kh{b:Bool}{K:Frag}{F H:Hp}{a:Addr}{xs:List V}(e:Same F H)(h:Sq b K F a xs): Sq b K H a xs:=by
 cases b with
 | true=>exact e.seq h
 | false=>exact qu e h
theorem q0c{b:Bool}{a c:Addr}{xs:List V}(I:Inv X pins σ H s)(h:Sq b X.K H a xs)(f:k7 X pins H c): a≠c:=by
 obtain⟨f0,f1,f2,f3,_⟩:=f;have inK:∀ {o:Obj},X.K.lookup a=some o->a≠c:=fun {o} hk z=>by
  subst z;have hb:X.base.get? a=some o:=I.mod.kin a o hk;rcases f3 with q|q
  ·exact I.ok.noex a o hb q
  ·exact absurd (m8 (gs hb) (mj I.ok.bsz q)) (ph _)
 have trk:∀ {u:HO},H a=some u->a≠c:=fun {u} e z=>by subst z;rw [f0] at e;cases e
 cases b with
 | true=>
  rcases h with(h|⟨o,h⟩)|⟨o,its,n,hk,_⟩
  ·exact trk h
  ·exact trk h
  ·exact inK hk
 | false=>
  rcases h with(h|⟨o,h⟩)|⟨o,its,n,hk,_⟩
  ·exact trk h
  ·exact trk h
  ·exact inK hk
end
def Itz(K:Frag)(b1:Bool)(a1:Addr)(b2:Bool)(a2:Addr): It:=
 ⟨fun i H=>∃xs ys x y,Sq b1 K H a1 xs/\Sq b2 K H a2 ys/\xs[i]? = some x/\ys[i]? = some y,
  fun i H v H'=>∃p x y,H p=none/\(∀xs,Sq b1 K H a1 xs->xs[i]? = some x)/\(∀ys,Sq b2 K H a2 ys->ys[i]? = some y)/\v=.ref p/\H'=upd H p (.tup [x,y]),
  fun i H=>∃xs ys,Sq b1 K H a1 xs/\Sq b2 K H a2 ys/\(xs.length<=i\/ys.length<=i)⟩
theorem qfc{P:Program}{w:World}{K:Frag}{elts:List Expr}{x1}{tp:Pos}{b1 b2:Bool}{a1 a2 z ti to i1 i2:Addr}(D:Z5 z ti to i1 i2):
  Turn P w K (.Tuple elts x1 tp) (Itz K b1 a1 b2 a2) [z,ti,to,i1,i2] z
   (fun i h=>IsZip h z ti to .none/\IsPair h ti (.ref i1) (.ref i2)/\(∃p q,IsPair h to p q)/\SI b1 h i1 a1 i/\SI b2 h i2 a2 i) where
 mem:=by simp
 obj:=fun i h ⟨c1,c2,⟨p,q,c3⟩,⟨o4,c4,_,d4⟩,⟨o5,c5,_,d5⟩⟩ b hb=>by
  simp only [mv,p0,uo] at hb;rcases hb with rfl|rfl|rfl|rfl|rfl
  ·exact⟨_,c1,fun v z=>by cases z⟩
  ·exact⟨_,c2,fun v z=>by cases z⟩
  ·exact⟨_,c3,fun v z=>by cases z⟩
  ·exact⟨_,c4,fun v z=>by rw [d4] at z;cases z⟩
  ·exact⟨_,c5,fun v z=>by rw [d5] at z;cases z⟩
 keep:=fun i h h' ⟨c1,c2,⟨p,q,c3⟩,c4,c5⟩ k=>⟨k _ (by simp) _ c1,k _ (by simp) _ c2,⟨p,q,k _ (by simp) _ c3⟩,c4.keep fun o e=>k _ (by simp) o e,c5.keep fun o e=>k _ (by simp) o e⟩
 item:=by
  intro X hP hw hK hc i pins s σ H E I hf st hg;subst hP hw hK;obtain⟨xs,ys,x,y,q1,q2,hx,hy⟩:=hg;obtain⟨its1,v1,o1⟩:=q43 I q1;obtain⟨its2,v2,o2⟩:=q43 I q2;obtain⟨u1,hu1,ru1⟩:=v1.get hx;obtain⟨u2,hu2,ru2⟩:=v2.get hy;obtain⟨c1,c2,⟨p,q,c3⟩,c4,c5⟩:=st;have off:∀ {b:Bool} {a:Addr} {ws:List V},Sq b X.K H a ws->Off a z to i1 i2:=fun h=>⟨q0c I h (hf _ (by simp)),q0c I h (hf _ (by simp)),q0c I h (hf _ (by simp)),q0c I h (hf _ (by simp))⟩
  refine qbx D (off q1) (off q2) c1 c2 c3 c4 c5 o1 o2 (x:=u1) (y:=u2) (by simpa using hu1) (by simpa using hu2) fun g n1 n2 n3 n4 n5 n6 n7=>?_;refine⟨_,rfl,wpAny_letOwnedTupleGo_zip n1 fun g2 m1 sb=>?_⟩;have hsz:z<s.heap.objs.size:=gs c1;have kp:∀c o,c∉[z,ti,to,i1,i2]->s.heap.get? c=some o->g2.get? c=some o:=fun c o hc e=>by
   simp only [mv,p0,uo,not_or] at hc;exact sb.extBut _ _ hc.1 (n7 c o hc.1 hc.2.2.1 hc.2.2.2.1 hc.2.2.2.2 e)
  have I1:Inv X pins σ H {s with heap:=g2}:=qb1 (t':=s.toks) I hf kp;have fp:k7 X pins H s.heap.objs.size:=I.fpOk (gy _) I.fresh;have hT:IsPair g2 s.heap.objs.size u1 u2:=sb.extBut _ _ (uv hsz) n5;have I2:Inv X pins σ (upd H s.heap.objs.size (.tup [x,y])) {s with heap:=g2}:=
   adopt I1 fp ⟨by show 2<=sizeLine;decide,[u1,u2],.cons ru1 (.cons ru2 .nil),⟨_,hT,rfl,rfl,_,rfl⟩⟩
  refine⟨.ref s.heap.objs.size,_,I2,rfl,⟨_,x,y,I.fresh,fun ws h=>?_,fun ws h=>?_,rfl,rfl⟩,⟨m1,?_,⟨u1,u2,sb.extBut _ _ D.a2 n2⟩,n3.ext sb.extBut D.a3,n4.ext sb.extBut D.a4⟩,fun b hb=>?_⟩
  ·rw [qdc I h q1];exact hx
  ·rw [qdc I h q2];exact hy
  ·exact sb.extBut _ _ D.a1 (n7 _ _ D.a1 D.a5 D.a6 D.a7 c2)
  ·have hb0:=(hf b hb).1
   have:b≠s.heap.objs.size:=by
    simp only [mv,p0,uo] at hb;rcases hb with rfl|rfl|rfl|rfl|rfl
    ·exact mh hsz
    ·exact mh (gs c2)
    ·exact mh (gs c3)
    ·obtain⟨_,e,_⟩:=c4;exact mh (gs e)
    ·obtain⟨_,e,_⟩:=c5;exact mh (gs e)
   rw [ql this];exact hb0
 done:=by
  intro X hP hw hK hc i pins s σ H E I hf st hg;subst hP hw hK;obtain⟨xs,ys,q1,q2,hend⟩:=hg;obtain⟨its1,v1,o1⟩:=q43 I q1;obtain⟨its2,v2,o2⟩:=q43 I q2;obtain⟨c1,c2,⟨p,q,c3⟩,c4,c5⟩:=st;have off:∀ {b:Bool} {a:Addr} {ws:List V},Sq b X.K H a ws->Off a z to i1 i2:=fun h=>⟨q0c I h (hf _ (by simp)),q0c I h (hf _ (by simp)),q0c I h (hf _ (by simp)),q0c I h (hf _ (by simp))⟩
  refine q7o (I.ok.hd hc) D (off q1) (off q2) c1 c2 c3 c4 c5 o1 o2 ?_ fun g n7=>⟨rfl,qb1 (t':=s.toks) I hf fun c o hc e=>?_⟩
  ·have l1:=v1.length
   have l2:=v2.length;rcases hend with h|h
   ·exact .inl (by simp;lia)
   ·exact .inr (by simp;lia)
  ·simp only [mv,p0,uo,not_or] at hc
   exact n7 c o hc.1 hc.2.2.1 hc.2.2.2.1 hc.2.2.2.2 e
 self:=fun A i s Q E st h=>wpAny_pyIter_zip st.1 h
def ye(xs ys:List D): List D:=List.zipWith (fun a b=>.tup [a,b]) xs ys
theorem qh8{K:Frag}{F:Hp}{b1 b2:Bool}{a1 a2:Addr}{xs ys:List V}{ds es:List D}(h1:Sq b1 K F a1 xs)(h2:Sq b2 K F a2 ys)(r1:RepL K F ds xs)(r2:RepL K F es ys): ItD K F (ye ds es) (Itz K b1 a1 b2 a2) where
 go:=fun i F' H s1 s2 hi=>by
  have hi':i<ds.length/\i<es.length:=by unfold ye at hi;rw [g06] at hi;lia
  exact⟨xs,ys,xs[i]'(by rw [<- r1.length];exact hi'.1),ys[i]'(by rw [<- r2.length];exact hi'.2),kh (s1.trans s2) h1,kh (s1.trans s2) h2,by simp,by simp⟩
 yld:=fun i d F' H x H' s1 s2 hi ⟨p,x1,y1,hp,q1,q2,e1,e2⟩=>by
  subst e1 e2;unfold ye at hi;rw [g18] at hi;cases z1:ds[i]? with
  | none=>rw [z1] at hi;cases hi
  | some d1=>
   cases z2:es[i]? with
   | none=>rw [z1,z2] at hi;cases hi
   | some d2=>
    rw [z1,z2] at hi;cases hi;obtain⟨v1,k1,k2⟩:=r1.get z1;obtain⟨v2,k3,k4⟩:=r2.get z2;have w1:=q1 xs (kh (s1.trans s2) h1);have w2:=q2 ys (kh (s1.trans s2) h2);rw [k1] at w1;cases w1;rw [k3] at w2;cases w2;have gn:Grow F' H (upd F' p (.tup [x1,y1])) (upd H p (.tup [x1,y1])):=Grow.new s2 hp;exact⟨_,gn,rep_tup.mpr ⟨p,_,rfl,SqT.of qz,.cons ((k2.mono s1).mono gn.ff) (.cons ((k4.mono s1).mono gn.ff) .nil)⟩⟩
 stop:=fun i F' H s1 s2 hi=>by
  unfold ye at hi;rw [g06] at hi;refine⟨xs,ys,kh (s1.trans s2) h1,kh (s1.trans s2) h2,?_⟩;rw [<- r1.length, <- r2.length];lia
section
variable{X:Cx}{pos:Pos}{elts:List Expr}{x1:Nat}{tp:Pos}
def qll(K:Frag)(ta:TA): TI:=fun σ H R=>ta σ H fun vs H1=>∃b1 a1 xs b2 a2 ys,vs=[.ref a1,.ref a2]/\Sq b1 K H1 a1 xs/\Sq b2 K H1 a2 ys/\R (Itz K b1 a1 b2 a2) H1
theorem qdd:bootBuiltins "zip" = some (.type "zip"):=by decide +kernel
theorem qja{a b:Expr}{ta:TA}{p:Pos}(hg:Gl X "zip")(hm:X.mg "zip" = none)(ha:PA X [a,b] ta)(hs:starEach [a,b] X.env=[(false,eval a X.env),(false,eval b X.env)]:=by rfl)(hs2:starEach [b] X.env=[(false,eval b X.env)]:=by rfl):
  PI X (.Tuple elts x1 tp) (.Call (.Name "zip" p) [a,b] [] pos) (qll X.K ta):=by
 intro pins s σ H R I h;refine Call_ (q33 I hg hm qdd (t8 (thn (ha pos pins s σ H _ I h) fun us s1 ⟨vs,H1,I1,r1,q1⟩=>?_) (by rw [hs,hs2]) (by rw [hs2];rfl)));obtain⟨b1,a1,xs,b2,a2,ys,rfl,k1,k2,q⟩:=q1;obtain⟨u1,u2,rfl,e1,e2⟩:=r1.two;cases e1;cases e2;obtain⟨its1,v1,o1⟩:=q43 I1 k1;obtain⟨its2,v2,o2⟩:=q43 I1 k2;refine callType_new F.called_zip (by decide) (F.typeCall_zip_2 _ _) (F.newCall_zip_2 _ _) (fun obj=>F.args_object_init_3 obj _ _) F.entry_zip_new (qby b1 b2 a1 a2 its1.toArray its2.toArray) ⟨o1,o2,?_⟩;have z1:(zh1 b1 s1.heap a1).objs.size=s1.heap.objs.size+1:=ny ..;have z2:(zh2 b1 b2 s1.heap a1 a2).objs.size=s1.heap.objs.size+2:=by unfold zh2;rw [ny,z1]
 have z3:(zh3 b1 b2 s1.heap a1 a2).objs.size=s1.heap.objs.size+3:=by unfold zh3;rw [ny,z2]
 have z4:(zh4 b1 b2 s1.heap a1 a2).objs.size=s1.heap.objs.size+4:=by unfold zh4;rw [ny,z3]
 have g5:(zh5 b1 b2 s1.heap a1 a2).get? (zh4 b1 b2 s1.heap a1 a2).objs.size=some {cls:=.type "zip",data:=.fields #[.none,.bool false,.bool false,.ref (zh2 b1 b2 s1.heap a1 a2).objs.size,.ref (zh3 b1 b2 s1.heap a1 a2).objs.size]}:=m5 _ rfl;have g4:(zh5 b1 b2 s1.heap a1 a2).get? (zh3 b1 b2 s1.heap a1 a2).objs.size=some {cls:=.type "tuple",data:=.seq #[.none,.none]}:=gh _ (m5 _ rfl);have g3:(zh5 b1 b2 s1.heap a1 a2).get? (zh2 b1 b2 s1.heap a1 a2).objs.size=some {cls:=.type "tuple",data:=.seq #[.ref s1.heap.objs.size,.ref (zh1 b1 s1.heap a1).objs.size]}:=gh _ (gh _ (m5 _ rfl));have g2:(zh5 b1 b2 s1.heap a1 a2).get? (zh1 b1 s1.heap a1).objs.size=some {cls:=.type (itN b2),data:=.fields #[.ref a2,.int 0 0]}:=gh _ (gh _ (gh _ (m5 _ rfl)));have g1:(zh5 b1 b2 s1.heap a1 a2).get? s1.heap.objs.size=some {cls:=.type (itN b1),data:=.fields #[.ref a1,.int 0 0]}:=gh _ (gh _ (gh _ (gh _ (m5 _ rfl))));have kp:∀c o,s1.heap.get? c=some o->(zh5 b1 b2 s1.heap a1 a2).get? c=some o:=fun c o e=>gh _ (gh _ (gh _ (gh _ (gh _ e))));have I2:Inv X pins σ H1 {s1 with heap:=zh5 b1 b2 s1.heap a1 a2}:=I1.kept (t':=s1.toks) kp;refine⟨⟨_,g5,rfl⟩,wpAny_pyIter_zip g5 ?_⟩;refine⟨_,_,_,_,H1,rfl,I2,qfc (b1:=b1) (b2:=b2) (a1:=a1) (a2:=a2) (i1:=s1.heap.objs.size) (i2:=(zh1 b1 s1.heap a1).objs.size) ?_,⟨g5,g3,⟨_,_,g4⟩,⟨_,g1,rfl,rfl⟩,⟨_,g2,rfl,rfl⟩⟩,fun c hc=>?_,q⟩
 ·constructor <;> (first|exact mh (by lia)|exact uv (by lia))
 ·have hge:s1.heap.objs.size<=c:=by
   simp only [mv,p0,uo] at hc;rcases hc with rfl|rfl|rfl|rfl|rfl <;> lia
  exact I1.fpOk hge (I1.hok.fresh hge)
def q6j(fa:FA): FA:=fun ρ =>(fa ρ).bind fun ds=>match ds with
 | [x,y]=>(q0z x).bind fun xs=>(q0z y).map fun ys=>ye xs ys
 | _=>none
theorem qb2{K:Frag}{F:Hp}{d:D}{ds:List D}{v:V}(h:q0z d=some ds)(r:Rep K F d v): ∃b a xs,v=.ref a/\Sq b K F a xs/\RepL K F ds xs:=by
 cases d <;> simp only [q0z] at h <;> first|(cases h;done)|skip
 ·cases h
  obtain⟨a,xs,rfl,h3,h4⟩:=rep_tup.mp r;exact⟨false,a,xs,rfl,h3,h4⟩
 ·cases h
  obtain⟨a,xs,rfl,h3,h4⟩:=rep_lst.mp r;exact⟨true,a,xs,rfl,h3,h4⟩
theorem qde{a b:Expr}{fa:FA}{p:Pos}(hg:Gl X "zip")(hm:X.mg "zip" = none)(ha:PA X [a,b] (tDA X.K fa))(hs:starEach [a,b] X.env=[(false,eval a X.env),(false,eval b X.env)]:=by rfl)(hs2:starEach [b] X.env=[(false,eval b X.env)]:=by rfl):
  PI X (.Tuple elts x1 tp) (.Call (.Name "zip" p) [a,b] [] pos) (tDI X.K (q6j fa)):=q8r (qja hg hm ha hs hs2) fun σ H R ⟨F0,H0,F, ρ,ds,r,hf,q⟩=>by
 obtain⟨es,h1,h2⟩:=g6.mp hf;refine⟨F0,H0,F, ρ,es,r,h1,fun vs F' H' g' r'=>?_⟩
 split at h2
 ·rename_i x y
  obtain⟨xs,k1,h2⟩:=g6.mp h2;obtain⟨ys,k2,h2⟩:=gj.mp h2;subst h2;obtain⟨v1,t,rfl,e1,e2⟩:=r'.cons_inv;obtain⟨v2,t2,rfl,e3,e4⟩:=e2.cons_inv;cases e4.nil_inv;obtain⟨b1,a1,us,rfl,s1,l1⟩:=qb2 k1 e1;obtain⟨b2,a2,ws,rfl,s2,l2⟩:=qb2 k2 e3;exact⟨b1,a1,us,b2,a2,ws,rfl,kh g'.fh s1,kh g'.fh s2,q _ F' H' g' (qh8 s1 s2 l1 l2)⟩
 ·cases h2
end
section
variable{X:Cx}{e:Expr}{es:List Expr}{kws:List Keyword}{pos:Pos}{f g:FE}{fa fk:FA}
theorem qdf{t t':TA}(h:PK X kws t)(i:∀ σ H Q,t' σ H Q->t σ H Q): PK X kws t':=fun pos pins s σ H Q I q=>h pos pins s σ H Q I (i σ H Q q)
theorem qjb:PK X [] (tDA X.K qf):=qdf qin fun σ H Q ⟨F0,H0,F, ρ,ds,r,hf,q⟩=>by
 cases hf;exact q [] F H (.refl r.fh) .nil
theorem qh9{nm:Option Str}{kpos:Pos}(ha:PE X e (tD X.K f))(hr:PK X kws (tDA X.K fa)): PK X (⟨nm,e,kpos⟩ :: kws) (tDA X.K (qa f fa)):=
 qdf (qgw ha hr) fun σ H Q ⟨F0,H0,F, ρ,ds,r,hf,q⟩=>by
  obtain⟨d,h1,hf⟩:=g6.mp hf;obtain⟨ds',h2,h3⟩:=gj.mp hf;subst h3;refine⟨F0,H0,F, ρ,d,r,h1,fun v F1 H1 g1 r1=>⟨F0,H0,F1, ρ,ds',r.grow g1,h2,fun vs F2 H2 g2 r2=>?_⟩⟩;exact q _ F2 H2 (g1.trans g2) (.cons (r1.mono g2.ff) r2)
def qfd(n m:Nat)(fa fk:FA): FA:=fun ρ =>(fa ρ).bind fun ds=>(fk ρ).bind fun es=>if ds.length=n/\es.length=m then some (ds++es) else none
def q44{α : Type}(n m:Nat)(us ws:List α): List α :=if us.length=n/\ws.length=m then us++ws else []
def KB(K:Frag)(fd:FuncData)(ps ks:List Str)(n m:Nat): Prop:=KBinds K fd ps ks (q44 n m) (q44 n m)
theorem qkp{K:Frag}{fd:FuncData}{ps ks:List Str}{n m:Nat}(hp:ps≠[])(h:∀(s:Shared) (us ws:List Value),K.In s.heap->us.length=n->ws.length=m->BindsTo s fd ⟨us,ks.zip ws⟩ (ps.zip (us++ws))): KB K fd ps ks n m:=by
 refine⟨fun s us ws hk hl=>?_,fun {vs us zs ws} a b=>?_⟩
 ·unfold q44 at hl ⊢
  split at hl
  ·rename_i z
   rw [gw z];exact h s us ws hk z.1 z.2
  ·exact absurd (pz hl.symm) hp
 ·unfold q44
  rw [a.length,b.length]
  split
  ·exact a.append b
  ·exact .nil
theorem qkq{K:Frag}{fd:FuncData}{ps:List Str}{dv:List Value}(n:Nat)(hn:n+dv.length=ps.length)(h:∀(s:Shared) (us:List Value),K.In s.heap->us.length=n->BindsTo s fd ⟨us,[]⟩ (ps.zip (us++dv))): Binds K fd ps dv:=
 fun s us hk hl=>h s us hk (by rw [m9] at hl;omega)
def qbz(ar:Nat)(op:List D->Option D): List D->Option D:=fun ds=>if ds.length=ar then op ds else none
end
structure Cal(P:Program)(w:World)(K:Frag)(mg:Str->Option Value)(base:Heap)(x:Str)(k:Nat)(ps:List Str)(ar:Nat)(op:List D->Option D)(fn:Addr)(fd:FuncData): Prop where
 ok:FnOk P w K mg base CX0 k fn fd ps (spD K ar op)
 mg:mg x=some (.ref fn)
 kp:PySem.W.keepIn K (.ref fn)=true
section
variable{X:Cx}{e:Expr}{es:List Expr}{kws:List Keyword}{pos p:Pos}{fa fk:FA}{k ar k':Nat}{fn:Addr}{fd:FuncData}{ps ks:List Str}{op:List D->Option D}{x:Str}
theorem z0(C:Cal X.prog X.w X.K X.mg X.base x k ps ar op fn fd)(b:Binds X.K fd ps [])(hr:Room k' X.A)(hk:k<=k')(hg:Gl X x)(ha:PA X (e :: es) (tDA X.K fa))(hdb:(x==("__debug__" : Str))=false:=by decide)
  (he:starEach (e :: es) X.env=(false,eval e X.env) :: starEach es X.env:=by rfl) (hpl:(backTo pos (starEach es X.env)).any (·.1)=false:=by rfl):PE X (.Call (.Name x p) (e :: es) [] pos) (tD X.K (qg (qq ar [] op) fa)):=
 qh6 C.ok (hr.mono hk) hg C.mg C.kp b .nil (fun H=>.nil) ha hdb he hpl
theorem q29{i:Int}(hg:Gl X x)(hm:∃t,X.mg x=some (.int i t))(hdb:(x==("__debug__" : Str))=false:=by decide): PE X (.Name x p) (tD X.K (eC (.int i))):=by
 obtain⟨t,hm⟩:=hm;exact q2i (qgj hg hm (v:=.int i) ⟨t,rfl⟩ hdb) fun _=>rep_int.mpr rfl
def qlm:D->Option D
 | .int i=>some (.int (-i))
 | _=>none
end
structure Fun2(K:Frag)(x qual:Str)(st:Stmt)(dV:Value)(f:Addr)(fd:FuncData): Prop where
 ex:∃(oc:Value) (od:Option Addr) (kV doc pm:Value) (an:Option Addr) (cdv ct:Value) (osl:Array (Option Value)),
  fd=PySem.W.fnOf x qual (jr st) (qo st) (qc st) dV kV doc pm an cdv ct/\K.lookup f=some ⟨oc,od,.func fd,osl⟩/\PySem.W.codeIn K cdv qual=true
 kp:PySem.W.keepIn K (.ref f)=true
section
variable{P:Program}{w:World}{K:Frag}{mg:Str->Option Value}{base:Heap}{x qual:Str}{st:Stmt}{dV:Value}{f:Addr}{fd:FuncData}{N ps:List Str}
theorem Fun2.ok{k:Nat}{u:FS}(F:Fun2 K x qual st dV f fd)(S:FnScope N ps (qc st))
  (hb:∀(cdv:Value) (A:Around) (outer:List Env) (s:Shared) (H:Hp) (E:XK),Room k (A.deeper (envOfC qual (qc st) s.heap.objs.size f cdv))->PSs (zk CX0 P w K mg base N qual (qc st) f cdv A outer s H E).nox (qo st) (tDS K u)) :
  FnOk P w K mg base CX0 (k+1) f fd ps (spD K ps.length (zd N.length u)):=by
 obtain⟨oc,od,kV,doc,pm,an,cdv,ct,osl,rfl,lk,hcd⟩:=F.ex;exact qkl lk hcd S fun A outer s H E hr=>hb cdv A outer s H E hr
theorem Fun2.okn{k n ar k1:Nat}{u:FS}(F:Fun2 K x qual st dV f fd)(S:FnScope N ps (qc st))(hn:N.length=n)(ha:ps.length=ar)(hk:k+1=k1)
  (hb:∀(cdv:Value) (A:Around) (outer:List Env) (s:Shared) (H:Hp) (E:XK),Room k (A.deeper (envOfC qual (qc st) s.heap.objs.size f cdv))->PSs (zk CX0 P w K mg base N qual (qc st) f cdv A outer s H E).nox (qo st) (tDS K u)) :
  FnOk P w K mg base CX0 k1 f fd ps (spD K ar (zd n u)):=by
 subst hn ha hk;exact F.ok S hb
theorem vi{oc:Value}{od an:Option Addr}{osl:Array (Option Value)}{kV doc pm cdv ct:Value}(l:K.lookup f=some ⟨oc,od,.func (PySem.W.fnOf x qual (jr st) (qo st) (qc st) dV kV doc pm an cdv ct),osl⟩)
  (c:PySem.W.codeIn K cdv qual=true) (k:PySem.W.keepIn K (.ref f)=true):Fun2 K x qual st dV f (PySem.W.fnOf x qual (jr st) (qo st) (qc st) dV kV doc pm an cdv ct):=⟨⟨oc,od,kV,doc,pm,an,cdv,ct,osl,rfl,l,c⟩,k⟩
theorem Fun2.bindsTo(F:Fun2 K x qual st dV f fd){P:FuncData->Prop}(h:∀(kV doc pm:Value) (an:Option Addr) (cdv ct:Value),P (PySem.W.fnOf x qual (jr st) (qo st) (qc st) dV kV doc pm an cdv ct)): P fd:=by
 obtain⟨oc,od,kV,doc,pm,an,cdv,ct,osl,rfl,lk,hcd⟩:=F.ex;exact h kV doc pm an cdv ct
end
def q88(K:Frag): Sp:=fun vs H Q _=>∃(a:Addr) (ns:List Int) (F:Hp),vs=[.ref a]/\SameT F H/\SqL K F a (ns.map V.int)/\ns.length<=63/\∀H',Q (.bl true) H'
theorem qjc{P:Program}{w:World}{K:Frag}{mg:Str->Option Value}{base:Heap}{k:Nat}{f:Addr}{fd:FuncData}{x:Str}{op:List D->Option D}(F:FnOk P w K mg base CX0 k f fd [x] (spD K 1 op))(h:∀ns:List Int,ns.length<=63->op [.lst (ns.map .int)]=some (.bl true)):
  FnOk P w K mg base CX0 k f fd [x] (q88 K):=F.imp fun vs H Q E ⟨a,ns,Fz,e,fz,hS,hl,q⟩=>by
 subst e;exact⟨Fz,[.lst (ns.map .int)],.bl true,fz,.cons (rep_lst.mpr ⟨a,_,rfl,hS,RepL.ints.mpr rfl⟩) .nil,rfl,h ns hl,fun v F' H' g' r'=>by rw [rep_bl.mp r'];exact q H'⟩
theorem qjd(ht:Lam.tab=[]){l:PySem.W.OpenLaw}{k:Nat}{x:Str}{q:Program}{loose:List Str}{XP:(Str->Option Value)->Heap->Prop}{YP:World->Heap->Prop}{d:DefRec}{K:Params->Frag}(hn:l.most=some 63)(hdf:d.params.defaults=[])(hk:Room k callerA)
  (hY:∀(w:World) (h:Heap),YP w h->(K w.params).In h)
  (F:∀(w:World) (mg:Str->Option Value) (fa:Addr) (h:Heap),(K w.params).In h->h.Ns mainGlobals mg->mg d.name=some (.ref fa) ->
   ∃fd:FuncData,(∀(s:Shared) (u:Value),BindsTo s fd ⟨[u],[]⟩ [(x,u)])/\∀base:Heap,(K w.params).In base->base.Ns mainGlobals mg->FnOk l.prog w (K w.params) mg base CX0 k fa fd [x] (q88 (K w.params))) :
  PySem.W.WalkO q loose XP YP l.row.toRowW d [] (fun f vs=>PySem.call f vs):=
 L2.qh1 (n:=63) (k:=k) (x:=x) (CX:=fun _=>CX0) (sp:=fun w=>q88 (K w.params)) hn (by decide) hdf hk hY F (fun _ H a ns hl _ hS=>⟨a,ns,H,rfl,⟨.refl _,fun p hp=>(by rw [ht] at hp;cases hp),fun p hp=>(by rw [ht] at hp;cases hp)⟩,hS,hl,fun _=>rfl⟩) fun _ _ _ _ _ z=>z
section
variable{X:Cx}{pos:Pos}{f g:FE}{a b:Expr}
abbrev oLt':=oLt
theorem q3h:OpR X (compareOp .Lt) (rD X.K oLt'):=qkg
end
section
variable{X:Cx}{pos:Pos}{f g k:FE}{a b c:Expr}
def q5s(o1 o2:D->D->Option D)(a b c:FE): FE:=fun ρ =>(a ρ).bind fun x=>(b ρ).bind fun y=>(o1 x y).bind fun r=>(isB r).bind fun q=>if q then(c ρ).bind fun z=>o2 y z else some (.bl false)
theorem qha{o1 o2:D->D->Option D}{σ : St}{H:Hp}{Q:VK}(h:tD X.K (q5s o1 o2 f g k) σ H Q): qck (rD X.K o1) (rD X.K o2) (tD X.K f) (tD X.K g) (tD X.K k) σ H Q:=by
 obtain⟨F0,H0,F, ρ,d,r,hf,q⟩:=h;obtain⟨x,e1,hf1⟩:=g6.mp hf;obtain⟨y,e2,hf2⟩:=g6.mp hf1;obtain⟨z,e3,hf3⟩:=g6.mp hf2;obtain⟨kq,e4,hf4⟩:=g6.mp hf3;refine⟨F0,H0,F, ρ,x,r,e1,fun v F1 H1 g1 r1=>⟨F0,H0,F1, ρ,y,r.grow g1,e2,fun u F2 H2 g2 r2=>⟨F2,x,y,z,g2.fh,r1.mono g2.ff,r2,e3,fun w F3 H3 g3 r3=>?_⟩⟩⟩;have ez:=q50 e4;subst ez;refine⟨kq,rep_bl.mp r3,?_⟩;cases kq with
 | false=>
  rw [m7 gq] at hf4 ⊢;cases hf4;exact q _ F3 H3 (g1.trans (g2.trans g3)) (rep_bl.mpr rfl)
 | true=>
  rw [gw rfl] at hf4 ⊢;obtain⟨zz,e5,e6⟩:=g6.mp hf4;exact⟨F0,H0,F3, ρ,zz,r.grow (g1.trans (g2.trans g3)),e5,fun w' F4 H4 g4 r4=>⟨F4,y,zz,d,g4.fh,(r2.mono g3.ff).mono g4.ff,r4,e6,fun w5 F5 H5 g5 r5=>q w5 F5 H5 ((g1.trans (g2.trans g3)).trans (g4.trans g5)) r5⟩⟩
theorem qfe{op op':CmpOp}{o1 o2:D->D->Option D}(h1:OpR X (compareOp op) (rD X.K o1))(h2:OpR X (compareOp op') (rD X.K o2))(ha:PE X a (tD X.K f))(hb:PE X b (tD X.K g))(hc:PE X c (tD X.K k))
  (hm:lastMarks [op,op'] [b,c]=false:=by with_unfolding_all rfl):PE X (.Compare a [op,op'] [b,c] pos) (tD X.K (q5s o1 o2 f g k)):=
 zj (qeh h1 h2 ha hb hc hm) fun σ H Q h=>qha h
def q45:D->D->Bool
 | .non,.non=>true
 | .bl a,.bl b=>a==b
 | _,_=>false
def oIs(neg:Bool): D->D->Option D
 | x,.non=>some (.bl (if neg then !q45 x .non else q45 x .non))
 | x,.bl b=>some (.bl (if neg then !q45 x (.bl b) else q45 x (.bl b)))
 | _,_=>none
theorem qkr{M:Model}{A:Around}{E:Value->Shared->Prop}{s:Shared}{Q:Value->Shared->Prop}{v:Value}{c:Bool}(hv:∀id,v ≠ .builtin id)(h:Q (.bool (v == .bool c)) s): wpAny M A (compareOp .Is v (.bool c)) Q E s:=by
 cases v <;> first|exact gi h|exact absurd rfl (hv _)
theorem qff{M:Model}{A:Around}{E:Value->Shared->Prop}{s:Shared}{Q:Value->Shared->Prop}{v:Value}{c:Bool}(hv:∀id,v ≠ .builtin id)(h:Q (.bool (!(v == .bool c))) s): wpAny M A (compareOp .IsNot v (.bool c)) Q E s:=by
 cases v <;> first|exact gi h|exact absurd rfl (hv _)
theorem qdg{K:Frag}{F:Hp}{d:D}{x:V}{v:Value}(r:Rep K F d x)(rv:RelV x v): ∀id,v ≠ .builtin id:=by
 intro id;cases d with
 | non=>cases rep_non.mp r;cases rv;intro z;cases z
 | bl b=>cases rep_bl.mp r;cases rv;intro z;cases z
 | int i=>cases rep_int.mp r;obtain⟨t,rfl⟩:=rv;intro z;cases z
 | str i=>cases rep_str.mp r;obtain⟨t,rfl⟩:=rv;intro z;cases z
 | tup ds=>obtain⟨p,xs,rfl,_⟩:=rep_tup.mp r;cases rv;intro z;cases z
 | lst ds=>obtain⟨p,xs,rfl,_⟩:=rep_lst.mp r;cases rv;intro z;cases z
 | dct ks vs=>obtain⟨p,xs,rfl,_⟩:=rep_dct.mp r;cases rv;intro z;cases z
 | dtt ks vs=>obtain⟨p,xs,ys,ep,rfl,_⟩:=rep_dtt.mp r;cases rv;intro z;cases z
 | obj C=>obtain⟨p,dx,_,rfl,_⟩:=rep_obj.mp r;cases rv;intro z;cases z
 | exc C=>obtain⟨p,_,rfl,_⟩:=rep_exc.mp r;cases rv;intro z;cases z
theorem q8z{K:Frag}{F:Hp}{d:D}{x:V}{v:Value}(r:Rep K F d x)(rv:RelV x v): (v==Value.none)=q45 d .non:=by
 cases d with
 | non=>cases rep_non.mp r;cases rv;rfl
 | bl b=>cases rep_bl.mp r;cases rv;rfl
 | int i=>cases rep_int.mp r;obtain⟨t,rfl⟩:=rv;rfl
 | str i=>cases rep_str.mp r;obtain⟨t,rfl⟩:=rv;rfl
 | tup ds=>obtain⟨p,xs,rfl,_⟩:=rep_tup.mp r;cases rv;rfl
 | lst ds=>obtain⟨p,xs,rfl,_⟩:=rep_lst.mp r;cases rv;rfl
 | dct ks vs=>obtain⟨p,xs,rfl,_⟩:=rep_dct.mp r;cases rv;rfl
 | dtt ks vs=>obtain⟨p,xs,ys,ep,rfl,_⟩:=rep_dtt.mp r;cases rv;rfl
 | obj C=>obtain⟨p,dx,_,rfl,_⟩:=rep_obj.mp r;cases rv;rfl
 | exc C=>obtain⟨p,_,rfl,_⟩:=rep_exc.mp r;cases rv;rfl
theorem qb3{K:Frag}{F:Hp}{d:D}{x:V}{v:Value}{c:Bool}(r:Rep K F d x)(rv:RelV x v): (v==Value.bool c)=q45 d (.bl c):=by
 cases d with
 | non=>cases rep_non.mp r;cases rv;rfl
 | bl b=>cases rep_bl.mp r;cases rv;cases b <;> cases c <;> rfl
 | int i=>cases rep_int.mp r;obtain⟨t,rfl⟩:=rv;rfl
 | str i=>cases rep_str.mp r;obtain⟨t,rfl⟩:=rv;rfl
 | tup ds=>obtain⟨p,xs,rfl,_⟩:=rep_tup.mp r;cases rv;rfl
 | lst ds=>obtain⟨p,xs,rfl,_⟩:=rep_lst.mp r;cases rv;rfl
 | dct ks vs=>obtain⟨p,xs,rfl,_⟩:=rep_dct.mp r;cases rv;rfl
 | dtt ks vs=>obtain⟨p,xs,ys,ep,rfl,_⟩:=rep_dtt.mp r;cases rv;rfl
 | obj C=>obtain⟨p,dx,_,rfl,_⟩:=rep_obj.mp r;cases rv;rfl
 | exc C=>obtain⟨p,_,rfl,_⟩:=rep_exc.mp r;cases rv;rfl
theorem qgc(_hc:X.calm=true): OpR X (compareOp .Is) (rD X.K (oIs false)):=fun pins s σ H x y v u Q I rx ry ⟨F,d1,d2,d,q1,q2,q3,q4,q5⟩=>by
 cases d2 <;> simp only [oIs] at q4 <;> first|(cases q4;done)|skip
 ·cases rep_non.mp q3
  cases ry;refine is_none_gen ⟨.bl _,H,I,rfl,?_⟩;rw [q8z q2 rx];cases q4;exact q5 _ F H (.refl q1) (rep_bl.mpr rfl)
 ·cases rep_bl.mp q3
  cases ry;refine qkr (qdg q2 rx) ⟨.bl _,H,I,rfl,?_⟩;rw [qb3 q2 rx];cases q4;exact q5 _ F H (.refl q1) (rep_bl.mpr rfl)
theorem qfg(_hc:X.calm=true): OpR X (compareOp .IsNot) (rD X.K (oIs true)):=fun pins s σ H x y v u Q I rx ry ⟨F,d1,d2,d,q1,q2,q3,q4,q5⟩=>by
 cases d2 <;> simp only [oIs] at q4 <;> first|(cases q4;done)|skip
 ·cases rep_non.mp q3
  cases ry;refine isnot_none_gen ⟨.bl _,H,I,rfl,?_⟩;rw [q8z q2 rx];cases q4;exact q5 _ F H (.refl q1) (rep_bl.mpr rfl)
 ·cases rep_bl.mp q3
  cases ry;refine qff (qdg q2 rx) ⟨.bl _,H,I,rfl,?_⟩;rw [qb3 q2 rx];cases q4;exact q5 _ F H (.refl q1) (rep_bl.mpr rfl)
end
theorem q6k:fillsNumberSlot (.type "tuple") "mul" = pure false:=
 PySem.fillsNumberSlot_seq (id:="tuple.__mul__") (r:=some (.builtin "tuple.__rmul__")) td.lookup (by decide +kernel) F.slot_tuple_rmul.lookup (by decide +kernel)
theorem qc0:seqRepeat? (.type "tuple")=pure (some (.builtin "tuple.__mul__")):=by
 unfold seqRepeat?;rw [PySem.seqSlot_of (T:="tuple") (name:="__mul__") td.lookup (by decide +kernel),PySem.seqSlot_of (T:="tuple") (name:="__rmul__") F.slot_tuple_rmul.lookup (by decide +kernel)]
 rfl
theorem qfh(i:Int)(t:Tok)(l:Addr)(xs:Array Value)(n:Nat)(dd:Option Addr)(sl:Array (Option Value)):
  Meets (Builtin.«int.__rmul__» ⟨[.int i t,.ref l],[]⟩) (fun _ R s=>s.heap.get? l=some {cls:=.type "tuple",dict:=dd,data:=.seq xs n,slots:=sl}/\R (.ok (.ret Value.notImplemented)) s):=
 .of_wp fun prog w A R s h=>by
  obtain⟨hp,g,d,tk,os⟩:=s;obtain⟨hl,h⟩:=h
  wp_walk
  exact⟨_,rfl,h⟩
theorem q90(i:Int)(t:Tok)(l:Addr)(xs:Array Value)(n:Nat)(dd:Option Addr)(sl:Array (Option Value))(h0:¬(decide (i < -(2 ^ 63)) || decide (i>=2 ^ 63))=true)(h1:(xs.isEmpty || i==1)=true):
  Meets (Builtin.«tuple.__mul__» ⟨[.ref l,.int i t],[]⟩) (fun _ R s=>s.heap.get? l=some {cls:=.type "tuple",dict:=dd,data:=.seq xs n,slots:=sl}/\R (.ok (.ret (.ref l))) s):=
 .of_wp fun prog w A R s h=>by
  obtain⟨hp,g,d,tk,os⟩:=s;obtain⟨hl,h⟩:=h;have f1:=g0s;have f2:=uc
  wp_walk using mz hl
  refine g02 (gu h0) ?_
  wp_walk using mz hl
  exact⟨_,rfl,h⟩
theorem q91(i:Int)(t:Tok)(l:Addr)(xs:Array Value)(n:Nat)(dd:Option Addr)(sl:Array (Option Value))(h0:¬(decide (i < -(2 ^ 63)) || decide (i>=2 ^ 63))=true)(h1:¬(xs.isEmpty || i==1)=true)(h2:(decide (i<=0) || xs.isEmpty)=true):
  Meets (Builtin.«tuple.__mul__» ⟨[.ref l,.int i t],[]⟩) (fun _ R s=>s.heap.get? l=some {cls:=.type "tuple",dict:=dd,data:=.seq xs n,slots:=sl}/\R (.ok (.ret (.ref s.heap.objs.size))) {s with heap:=s.heap.push {cls:=.type "tuple",data:=.seq #[]} }):=
 .of_wp fun prog w A R s h=>by
  obtain⟨hp,g,d,tk,os⟩:=s;obtain⟨hl,h⟩:=h;have f1:=g0s;have f2:=uc
  wp_walk using mz hl
  refine g02 (gu h0) ?_
  wp_walk using mz hl
  exact⟨_,rfl,h⟩
theorem q92(i:Int)(t:Tok)(l:Addr)(xs:Array Value)(n:Nat)(dd:Option Addr)(sl:Array (Option Value))(h0:¬(decide (i < -(2 ^ 63)) || decide (i>=2 ^ 63))=true)(h1:¬(xs.isEmpty || i==1)=true)(h2:¬(decide (i<=0) || xs.isEmpty)=true)
  (h3:¬((xs.size:Int)*i>(2 ^ 63-1) / 8)) (h4:¬Builtin.Tuple.tupleTooMany ((xs.size:Int)*i)=true) (h5:((List.replicate i.toNat xs).foldl (· ++ ·) #[]).size<=sizeLine) :
  Meets (Builtin.«tuple.__mul__» ⟨[.ref l,.int i t],[]⟩) (fun _ R s=>s.heap.get? l=some {cls:=.type "tuple",dict:=dd,data:=.seq xs n,slots:=sl}/\R (.ok (.ret (.ref s.heap.objs.size))) {s with heap:=s.heap.push {cls:=.type "tuple",data:=.seq ((List.replicate i.toNat xs).foldl (· ++ ·) #[])} }):=
 .of_wp fun prog w A R s h=>by
  obtain⟨hp,g,d,tk,os⟩:=s;obtain⟨hl,h⟩:=h;have f1:=g0s;have f2:=uc
  wp_walk using mz hl
  refine g02 (gu h0) ?_
  wp_walk using mz hl
  refine g02 (gu h3) ?_
  wp_walk using mz hl
  exact⟨_,rfl,h⟩
theorem q93(xs:Array Value): ∀(n:Nat) (acc:Array Value),((List.replicate n xs).foldl (· ++ ·) acc).toList=acc.toList++(List.replicate n xs.toList).flatten
 | 0,acc=>by simp
 | n+1,acc=>by
  rw [nv,List.foldl_cons,q93 xs n (acc++xs),nv,t5,Array.toList_append,nu]
theorem q7b(xs:List Value)(n:Nat): (List.replicate n xs.toArray).foldl (· ++ ·) #[]=(List.replicate n xs).flatten.toArray:=by
 apply Array.toList_inj.mp;rw [q93];simp
section
variable{prog:Program}{w:World}{A:Around}{E:Value->Shared->Prop}{s:Shared}
theorem qhb{t:Addr}{vs:List Value}{i:Int}{u:Tok}{Q:Value->Shared->Prop}(ht:IsTup s.heap t vs.toArray)(h0 : -(2 ^ 62)<i)(h1:i<2 ^ 62)(hz:vs.length*i.toNat<=1000000)
  (q1:(vs=[]\/i=1)->Q (.ref t) s) (q2:¬(vs=[]\/i=1)->Q (.ref s.heap.objs.size) {s with heap:=s.heap.push {cls:=.type "tuple",data:=.seq (List.replicate i.toNat vs).flatten.toArray} }) :
  wpAny (model prog w) A (binaryOp .Mult (.ref t) (.int i u)) Q E s:=by
 obtain⟨⟨cls,dd,data,sl⟩,ho,hc,n,hd⟩:=id ht;simp only at hc hd;subst hc hd;have ty:s.TypeIs (.ref t) "tuple" :=⟨_,ho,rfl⟩
 have b0:¬(decide (i < -(2 ^ 63)) || decide (i>=2 ^ 63))=true:=by
  simp only [uy,g0i,not_or]
  constructor <;> lia
 refine wpAny_binaryOp_repeat_ref (T:="tuple") (U:="int") (by decide) ty (fun s'=>typeIs_int s' i u) q6k F.fills_int_mul F.slot_int_rmul qc0 F.slot_int_index.lookup
  (g0k F.slot_int_rmul (typeIs_int s i u) F.entry_int_rmul (F.args_int_rmul_2 _ _) (qfh i u t vs.toArray n dd sl) ⟨ho,rfl,ty,?_⟩)
 have em:vs.toArray.isEmpty=true↔vs=[]:=by simp
 by_cases c1:(vs.toArray.isEmpty || i==1)=true
 ·have c1':vs=[]\/i=1:=by simpa using c1
  exact g0k td ty g0j (g0d _ _) (q90 i u t vs.toArray n dd sl b0 c1) ⟨ho,q1 c1'⟩
 ·have c1':¬(vs=[]\/i=1):=by simpa using c1
  have q:=q2 c1'
  by_cases c2:(decide (i<=0) || vs.toArray.isEmpty)=true
  ·have i0:i<=0:=by
    rcases uy _ _ ▸ c2 with z|z
    ·exact uf z
    ·exact absurd (.inl (em.mp z)) c1'
   have e:(List.replicate i.toNat vs).flatten.toArray = #[]:=by
    rw [show i.toNat=0 by lia];rfl
   rw [e] at q;exact g0k td ty g0j (g0d _ _) (q91 i u t vs.toArray n dd sl b0 c1 c2) ⟨ho,q⟩
  ·have c2':0<i:=by
    have:¬i<=0:=fun z=>c2 (by rw [m4 z];rfl);lia
   have ei:(vs.toArray.size:Int)*i=((vs.length*i.toNat:Nat):Int):=by
    rw [Int.natCast_mul,g07 (by lia),gp]
   have el:(List.replicate i.toNat vs).flatten.length=vs.length*i.toNat:=by
    rw [List.length_flatten,List.map_replicate,g14,Nat.mul_comm]
   rw [<- q7b] at q;refine g0k td ty g0j (g0d _ _) (q92 i u t vs.toArray n dd sl b0 c1 c2 ?_ ?_ ?_) ⟨ho,q⟩
   ·rw [ei];lia
   ·rw [ei]
    unfold Builtin.Tuple.tupleTooMany;have:sizeLine=16777216:=g0a;rw [this,g0i];lia
   ·rw [q7b,gp,el]
    exact y4 hz
end
section
variable{X:Cx}
def qfi:D->D->Option D
 | .tup xs,.int n=>if decide (-(2 ^ 62)<n)&&decide (n<2 ^ 62)&&decide (xs.length*n.toNat<=lim) then some (.tup (List.replicate n.toNat xs).flatten) else none
 | _,_=>none
theorem q94{xs:List V}{us:List Value}(r:Vals xs us): ∀n:Nat,Vals (List.replicate n xs).flatten (List.replicate n us).flatten
 | 0=>.nil
 | n+1=>by rw [nv,nv,t5,t5];exact r.append (q94 r n)
theorem q95{K:Frag}{H:Hp}{ds:List D}{xs:List V}(r:RepL K H ds xs): ∀n:Nat,RepL K H (List.replicate n ds).flatten (List.replicate n xs).flatten
 | 0=>.nil
 | n+1=>by rw [nv,nv,t5,t5];exact r.append (q95 r n)
theorem qje:OpR X (binaryOp .Mult) (rD X.K qfi):=fun pins s σ H x y v u Q I rx ry ⟨F,d1,d2,d,q1,q2,q3,q4,q5⟩=>by
 unfold qfi at q4
 split at q4
 ·rename_i ds n
  split at q4
  ·rename_i hc
   cases q4;simp only [mi,g0i] at hc;obtain⟨⟨c1,c2⟩,c3⟩:=hc;obtain⟨p,xs,rfl,z1,z2⟩:=rep_tup.mp q2;cases rep_int.mp q3;cases rx;obtain⟨t,rfl⟩:=ry;obtain⟨its,r1,p1,hz⟩:=I.tuple (qu q1 z1);have lx:=r1.length;have ld:=z2.length;refine qhb p1 c1 c2 (by rw [<- lx, <- ld];exact c3) (fun hq=>?_) fun hq=>?_
   ·have e:(List.replicate n.toNat ds).flatten=ds:=by
     rcases hq with z|z
     ·have:ds=[]:=List.length_eq_zero_iff.mp (by rw [ld,lx,z];rfl)
      subst this;simp
     ·subst z;simp [List.replicate]
    rw [e] at q5;exact⟨.ref p,H,I,rfl,q5 _ F H (.refl q1) q2⟩
   ·have hn:H s.heap.objs.size=none:=I.hok.fresh (gy _)
    have rr:=q94 r1 n.toNat;have el:(List.replicate n.toNat xs).flatten.length=ds.length*n.toNat:=by
     rw [List.length_flatten,List.map_replicate,g14,Nat.mul_comm,ld]
    refine⟨.ref s.heap.objs.size,_,I.laid (t':=s.toks) (o:=.tup (List.replicate n.toNat xs).flatten) (fun b ob q=>gh _ q) (gy _) ⟨by rw [el];exact y4 c3,_,rr,TupX.new _ _⟩,rfl,?_⟩;have gn:=Grow.new (o:=.tup (List.replicate n.toNat xs).flatten) q1 hn;exact q5 _ _ _ gn (rep_tup.mpr ⟨_,_,rfl,SqT.of qz,(q95 z2 n.toNat).mono gn.ff⟩)
  ·cases q4
 ·cases q4
def j9:D->D->Option D:=fun x y=>(oMul x y).or (qfi x y)
theorem yf:OpR X (binaryOp .Mult) (rD X.K j9):=q8o qiz qje
end
section
variable{prog:Program}{w:World}{A:Around}{E:Value->Shared->Prop}{s:Shared}
end
section
variable{X:Cx}{pos:Pos}{elts:List Expr}{x1:Nat}{tp:Pos}
end
section
variable{X:Cx}{st:Stmt}
def q2a:FS:=fun _=>none
theorem q11:PS X st (tDS X.K q2a):=fun pins s σ H D I ⟨F0,H0,F, ρ,fl, ρ',r,hf,q⟩=>by cases hf
theorem q1j:∀ {us:List Value} {ns:List Int},IntsAre us ns->Vals (ns.map V.int) us
 | _,_,.nil=>.nil
 | _,_,.cons n t h=>.cons ⟨t,rfl⟩ (q1j h)
end
end DL
namespace Srt
end Srt
namespace DL
open PySem PySem.Spec PyProof.Rows L2 Srt PySem.W
variable[Lam][Pin]
section
variable{X:Cx}
end
end DL
namespace DL
open PySem PySem.Spec PyProof.Rows L2
variable[Lam][Pin]
section
variable{X:Cx}
abbrev oDivB:=oI (fun _ j=>decide (0<j)&&decide (j<18446744073709551616)) fun i j=>i / j
theorem qfj:OpR X (binaryOp .FloorDiv) (rI (fun _ j=>0<j/\j<18446744073709551616) fun i j=>.int (i / j)):=opI fun i j _ _ _ _ _ hc q=>by
 have h1:(0:Int)<j:=hc.1;have h2:j<18446744073709551616:=hc.2;refine floordiv_int (by lia) (by rw [g0e i (by lia)];exact q) (.inl (PyProof.noPylong_of_log2 ?_));have h3:j.natAbs<2 ^ 64:=by lia
 exact m8 ((Nat.log2_lt (by lia)).mpr h3) (by decide)
theorem qb4:OpR X (binaryOp .FloorDiv) (rD X.K oDivB):=q5i qfj fun i j h=>q24 h
end
end DL
namespace DL
open PySem PySem.Spec PyProof.Rows L2
section
variable{prog:Program}{w:World}{A:Around}{E:Value->Shared->Prop}
theorem q96{it t:Addr}{items:Array Value}(hne:t≠it): ∀(n i:Nat) (s:Shared) (Q:List Value->Shared->Prop),s.heap.IsListIter it t i->s.heap.IsList t items->i+n<=items.size ->
  (∀h',h'.IsListIter it t (i+n)->Heap.SameBut it s.heap h'->Q ((items.toList.drop i).take n) {s with heap:=h'})->wpAny (model prog w) A (draw (.ref it) n) Q E s
 | 0,i,s,Q,hit,_,_,hQ=>gi (by simpa using hQ s.heap hit (Heap.SameBut.refl ..))
 | n+1,i,s,Q,hit,ht,hle,hQ=>by
  have hlt:i<items.size:=by omega
  refine g9 (wpAny_pyNext_list_item hit ht (x:=items[i]) (by simp [hlt]) fun h1 p1 b1=>g9 (ni (q96 hne n (i+1) _ _ p1 (ht.extBut b1.extBut hne) (by omega) fun h2 p2 b2=>gi ?_)));have q:=hQ h2 (by rw [show i+(n+1)=i+1+n by omega];exact p2) (b1.trans b2);rwa [show items.toList.drop i=items[i] :: items.toList.drop (i+1) by simp [tx,hlt],List.take_succ_cons] at q
theorem qc1{s:Shared}{env:Env}{elts:List Expr}{x1}{pos:Pos}{t:Addr}{items:Array Value}{Q:Unit->Shared->Prop}(hh:A.handled=none)(ht:s.heap.IsList t items)
  (hn:(assignEach elts env).length=items.size) (hstar:(assignEach elts env).findIdx? (·.1)=none)
  (h:∀h',Heap.ExtBut s.heap.objs.size s.heap h'->wpAny (model prog w) A (assignInOrder ((assignEach elts env).map (·.2)) items.toList) Q E {s with heap:=h'}) :
  wpAny (model prog w) A (assign (.Tuple elts x1 pos) env (.ref t)) Q E s:=by
 have hlt:t≠s.heap.objs.size:=by obtain⟨o,ho,_⟩:=ht;exact mh (gs ho)
 rw [assign_Tuple];refine g9 (wpAny_standAt ?_);unfold unpack;rw [hn,hstar];refine g9 (ni ?_);unfold unpackItems notIterableAtAll;refine g9 (g9 (wpAny_specialOf ht.typeIs slot_list_iter.lookup (gi ?_)));simp only [p6,ub];refine g9 (ni (ug ht (g9 (ni (q96 hlt items.size 0 _ _ ⟨_,m5 _ rfl,rfl,rfl⟩ (ht.push _) (by omega) fun h1 p1 b1=>?_)))));rw [show List.take items.size (List.drop 0 items.toList)=items.toList by rw [g17];exact ui (by simp),m7 (by simp)];refine g9 (ni (wpAny_pyNext_list_end hh p1 ((ht.push _).extBut b1.extBut hlt) (by simp) fun h2 e2=>?_));simp only [Option.isSome_none,p6,ub];exact gi (h h2 fun b o hb e=>e2 b o hb (b1.extBut b o hb (gh _ e)))
end
variable[Lam][Pin]
section
variable{X:Cx}{es:List Expr}{pos:Pos}
theorem qjf{k:Nat}{t:TGs}{n:Nat}(hc:X.calm=true)(h:PGs X es t)(hn:(assignEach es X.env).length=n:=by rfl)(hst:(assignEach es X.env).findIdx? (·.1)=none:=by rfl):
  PG X (.Tuple es k pos) (fun v σ H Q=>∃a xs,v=.ref a/\SqL X.K H a xs/\xs.length=n/\t xs σ H Q):=by
 intro pins s σ H v u Q I r hw;obtain⟨a,xs,e1,hq,hl,hw⟩:=hw;subst e1;cases r;obtain⟨its,rv,ht,hz⟩:=I.list hq;refine qc1 (I.ok.hd hc) ht.isList (by simp [hn, <- hl,rv.length]) hst fun h' hx=>?_;have I1:Inv X pins σ H {s with heap:=h'}:=I.kept (t':=s.toks) fun b o e=>hx b o (mh (gs e)) e;exact h pins _ σ H xs _ Q I1 (by simpa using rv) hw
def q97(n:Nat)(bs:FBs): FB:=fun d ρ =>match d with
 | .lst ds=>if ds.length=n then bs ds ρ else none
 | _=>none
theorem qdh{k n:Nat}{bs:FBs}(hc:X.calm=true)(h:PGs X es (q8q X.K bs))(hn:(assignEach es X.env).length=n:=by rfl)(hst:(assignEach es X.env).findIdx? (·.1)=none:=by rfl): PG X (.Tuple es k pos) (tDG X.K (q97 n bs)):=
 q8s (qjf hc h hn hst) fun v σ H Q ⟨F0,H0,F, ρ,d, ρ',r,hr,hb,q⟩=>by
  cases d <;> simp only [q97] at hb <;> first|(cases hb;done)|skip
  rename_i ds
  split at hb
  ·rename_i hl
   obtain⟨a,xs,rfl,h1,h2⟩:=rep_lst.mp hr;exact⟨a,xs,rfl,r.fh.seq h1,by rw [<- h2.length];exact hl,F0,H0,F, ρ,ds, ρ',r,h2,hb,q⟩
  ·cases hb
end
end DL
namespace DL
open PySem PySem.Spec PyProof.Rows L2
variable[Lam][Pin]
section
variable{X:Cx}{pins:List (Addr×Obj)}{σ : St}{F H:Hp}{s:Shared}
end
theorem qdi{P:Program}{w:World}{K:Frag}{mg:Str->Option Value}{base:Heap}{k ar:Nat}{f:Addr}{fd:FuncData}{ps:List Str}: FnOk P w K mg base CX0 k f fd ps (spD K ar fun _=>none):=
 FnOk.mk (fun vs H Q E z=>by
   obtain⟨F,ds,d,_,_,_,h,_⟩:=z;cases h)
  (fun A outer s H args us vs Q E _ _ _ _ z=>by
   obtain⟨F,ds,d,_,_,_,h,_⟩:=z;cases h)
section
variable{X:Cx}{e:Expr}{pos:Pos}{f:FE}
theorem qks{K:Frag}{z:Int->Int->Int}{i:Nat}{D:Ends}{σ : St}{H:Hp}(h:tDS K (zo i (eOp (oI (fun _ _=>true) z) (eV i) f)) D σ H): qi8 i (tD K f) (ipI z) D σ H:=by
 obtain⟨F0,H0,F, ρ,fl, ρ',r,hf,q⟩:=h;obtain⟨d,h1,h2⟩:=gj.mp hf;cases h2;obtain⟨d1,h3,h1⟩:=g6.mp h1;obtain⟨d2,h4,h5⟩:=g6.mp h1;obtain⟨a,b,rfl,rfl,c,rfl⟩:=q6f h5;obtain⟨v,e1,e2⟩:=r.fz _ _ (qat h3);refine⟨v,e1,F0,H0,F, ρ,.int b,r,h4,fun w F' H' g' r'=>⟨a,b,rep_int.mp e2,rep_int.mp r',?_⟩⟩;exact q _ F' H' g'.ff ((r.grow g').set _ (rep_int.mpr rfl))
theorem qhc{i:Nat}{x:Str}{px:Pos}(hN:X.N.Nodup)(hi:X.N[i]? = some x)(hx:Loc X.env.scope x)(he:PE X e (tD X.K f))(hf:X.fn x=true\/X.env.scope.names.lookup x=some .local:=by first|exact .inl rfl|exact .inr rfl|assumption):
  PS X (.AugAssign (.Name x px) .Sub e pos) (tDS X.K (zo i (eOp oSub (eV i) f))):=xg (qi9 hN hi hx he qia hf) fun D σ H h=>qks h
end
abbrev Flds:=List (Str×D)
def wg(i:Nat)(ρ : Rho): Option (Str×Flds):=match ρ[i]? with
 | some (some (.od o))=>some o
 | _=>none
omit [Lam] [Pin] in
theorem ki{i:Nat}{ρ : Rho}{o:Str×Flds}(h:wg i ρ = some o): ρ[i]? = some (some (.od o)):=by
 unfold wg at h
 split at h
 ·rename_i e;rw [e,mn h]
 ·cases h
def putD(f:Str)(d:D): Flds->Flds
 | []=>[(f,d)]
 | (g,x) :: r=>if g=f then(g,d) :: r else(g,x) :: putD f d r
section
omit [Lam] [Pin]
variable{K:Frag}{F:Hp}
theorem FsR.get{f:Str}{d:D}: ∀ {fs:Flds} {vs:List (Str×V)},FsR K F fs vs->fs.lookup f=some d->∃v,vs.lookup f=some v/\Rep K F d v
 | [],_,_,h=>by cases h
 | p :: fs,_,⟨v,r,rfl,h1,h2⟩,h=>by
  rw [mm] at h ⊢;cases e:f==p.1 with
  | true=>rw [e] at h;cases h;exact⟨v,rfl,h1⟩
  | false=>rw [e] at h;exact FsR.get h2 h
theorem FsR.miss{f:Str}: ∀ {fs:Flds} {vs:List (Str×V)},FsR K F fs vs->fs.lookup f=none->vs.lookup f=none
 | [],_,h,_=>by cases h;rfl
 | p :: fs,_,⟨v,r,rfl,h1,h2⟩,h=>by
  rw [mm] at h ⊢;cases e:f==p.1 with
  | true=>rw [e] at h;cases h
  | false=>rw [e] at h;exact FsR.miss h2 h
theorem FsR.len:∀ {fs:Flds} {vs:List (Str×V)},FsR K F fs vs->vs.length=fs.length
 | [],_,h=>by cases h;rfl
 | p :: fs,_,⟨v,r,rfl,h1,h2⟩=>by rw [mf,mf,FsR.len h2]
theorem FsR.put{f:Str}{d:D}{v:V}(hv:Rep K F d v): ∀ {fs:Flds} {vs:List (Str×V)},FsR K F fs vs->FsR K F (putD f d fs) (vx f v vs)
 | [],_,h=>by cases h;exact⟨v,[],rfl,hv,rfl⟩
 | (g,x) :: fs,_,⟨u,r,rfl,h1,h2⟩=>by
  unfold putD vx
  by_cases e:g=f
  ·rw [gw e]
   show FsR K F _ (if g=f then _ else _);rw [gw e];exact⟨v,r,rfl,hv,h2⟩
  ·rw [m7 e]
   show FsR K F _ (if g=f then _ else _);rw [m7 e];exact⟨u,_,rfl,h1,FsR.put hv h2⟩
end
def less(H:Hp)(a:Addr): Hp:=fun b=>if b=a then none else H b
section
omit [Lam] [Pin]
theorem xi{H:Hp}{a b:Addr}{o:HO}(h:less H a b=some o): H b=some o/\b≠a:=by
 unfold less at h
 split at h
 ·cases h
 ·exact⟨h,by assumption⟩
theorem wj{H:Hp}{a:Addr}: less H a a=none:=gw rfl
theorem kb{H:Hp}{a b:Addr}(h:b≠a): less H a b=H b:=m7 h
end
structure OB0(K:Frag)(F H H0:Hp)(a:Addr)(o:Str×Flds): Prop where
 ex:∃C dx vs,H a=some (.ins C dx vs)/\PySem.W.nsIn K mainGlobals o.1=some (some (.ref C))/\FsR K F o.2 vs
 f:F a=none
 z:H0 a=none
theorem OB0.to{K:Frag}{F H H0:Hp}{a:Addr}{o:Str×Flds}(x:OB0 K F H H0 a o)(hp:∀p,Pin.pin=some p->a=p): ODt K F H H0 a [] o:=⟨rfl,x.ex,x.f,x.z,hp⟩
theorem ODt.ob{K:Frag}{F H H0:Hp}{a:Addr}{bs:List Addr}{o:Str×Flds}(x:ODt K F H H0 a bs o): OB0 K F H H0 a o:=⟨x.ex,x.f,x.z⟩
omit [Lam] [Pin] in
theorem OB0.at{K:Frag}{F H H0 H1:Hp}{a:Addr}{o:Str×Flds}(x:OB0 K F H H0 a o)(hz:H1 a=none): OB0 K F H H1 a o:=⟨x.ex,x.f,hz⟩
theorem Tab.less{H:Hp}{a C dx:Addr}{vs:List (Str×V)}(t:Tab H)(e0:H a=some (.ins C dx vs)): Tab (less H a):=fun q hq=>by
 obtain⟨ps,e,ht,k⟩:=t q hq;have nn:∀ {b:Addr} {u:HO},H b=some u->(∀C dx vs,u ≠ .ins C dx vs)->DL.less H a b=some u:=fun {b u} e1 e2=>by
  rw [kb,e1];intro z;subst z;rw [e0] at e1;cases e1;exact e2 _ _ _ rfl
 refine⟨ps,nn e nofun,ht,fun pos cv z=>?_⟩;obtain⟨c, φ,e1,e2,e3⟩:=k pos cv z;exact⟨c, φ,e1,nn e2 nofun,e3⟩
def wk(K:Frag)(x:Str)(ar:Nat)(op:Flds->List D->Option (Flds×D)): Sp:=fun vs H Q _=>∃F a fs fs' ds d vs',vs=.ref a :: vs'/\SameT F H/\RepL K F ds vs'/\ds.length=ar/\OB0 K F H (less H a) a (x,fs)/\op fs ds=some (fs',d) /\
 ∀v F' H',Grow F (less H a) F' H'->OB0 K F' H' (less H a) a (x,fs')->Rep K F' d v->Q v H'
def q2p(n:Nat)(x:Str)(fs:Flds)(ds:List D): Rho:=some (.od (x,fs)) :: (ds.map (fun d=>some (B.fz d))++List.replicate (n-(ds.length+1)) none)
def yj(n:Nat)(x:Str)(u:FS)(fs:Flds)(ds:List D): Option (Flds×D):=match u (q2p n x fs ds) with
 | some (.nx, ρ')=>(wg 0 ρ').bind fun o=>if o.1=x then some (o.2,.non) else none
 | some (.rt d, ρ')=>(wg 0 ρ').bind fun o=>if o.1=x then some (o.2,d) else none
 | _=>none
omit [Lam] [Pin] in
theorem wm{n:Nat}{x:Str}{fs:Flds}{ds:List D}{i:Nat}{b:B}(h:(q2p n x fs ds)[i]? = some (some b)): (i=0/\b=.od (x,fs))\/∃j d,i=j+1/\ds[j]? = some d/\b=.fz d:=by
 unfold q2p at h
 match i,h with
 | 0,h=>cases h;exact .inl ⟨rfl,rfl⟩
 | j+1,h=>
  rw [pf] at h
  by_cases hj:j<ds.length
  ·rw [mq (by simpa using hj),ma] at h
   cases z:ds[j]? with
   | none=>rw [z] at h;cases h
   | some d=>rw [z] at h;cases h;exact .inr ⟨j,d,rfl,z,rfl⟩
  ·rw [mx (by simpa using hj),n9] at h
   split at h <;> cases h
theorem qfk{K:Frag}{F H:Hp}{N:List Str}{vs':List V}{a:Addr}{x:Str}{fs:Flds}{ds:List D}(hn:ds.length+1<=N.length)(hp:∀p,Pin.pin=some p->a=p)(s:SameT F H)(r:RepL K F ds vs')(o:OB0 K F H (less H a) a (x,fs)):
  RS K F (less H a) F H (L2.start N (.ref a :: vs')) (q2p N.length x fs ds) where
 t0:=by
  obtain⟨C,dx,vs,e,_⟩:=o.ex;exact⟨s.t.less e,s.f⟩
 g:=⟨.refl _,⟨fun b xs e=>(xi e).1,fun b xs e=>(xi e).1,fun {b} e=>by unfold less;split <;> first|rfl|exact e,fun _=>s.t,fun b xs e=>(xi e).1⟩,s.s,fun _ z=>.inl z⟩
 len:=by
  unfold L2.start q2p;have:=r.length;simp only [m9,gv,mf,uq];omega
 fz:=fun i e h=>by
  rcases wm h with⟨rfl,z⟩|⟨j,d,rfl,hd,z⟩
  ·cases z
  ·cases z
   obtain⟨v,ev,rv⟩:=r.get hd;refine⟨v,?_,rv⟩;unfold L2.start;have hj:=(my.mp ev).1;rw [ml,List.cons_append,pf,mq (by simpa using hj),ma,ev]
   rfl
 ow:=fun i e h=>by rcases wm h with⟨rfl,z⟩|⟨j,d,rfl,hd,z⟩ <;> cases z
 dj:=fun i j e1 e2 a' _ h=>by rcases wm h with⟨rfl,z⟩|⟨j,d,rfl,hd,z⟩ <;> cases z
 od:=fun i ks h=>by
  rcases wm h with⟨rfl,z⟩|⟨j,d,rfl,hd,z⟩
  ·cases z
   exact⟨a,[],rfl,o.to hp,fun j es b _ hb=>by cases hb⟩
  ·cases z
 o1:=fun i j k1 k2 h1 h2=>by
  rcases wm h1 with⟨rfl,z⟩|⟨j',d,rfl,hd,z⟩
  ·rcases wm h2 with⟨rfl,z2⟩|⟨j',d,rfl,hd,z2⟩
   ·rfl
   ·cases z2
  ·cases z
theorem qdj{K:Frag}{F0 H0 F H:Hp}{σ : St}{ρ : Rho}{a:Addr}{o:Str×Flds}(hp:Pin.pin=some a)(r:RS K F0 H0 F H σ ρ)(h:wg 0 ρ = some o): Grow F0 H0 F H/\OB0 K F H H0 a o:=by
 obtain⟨a',bs,e1,t,_⟩:=r.od 0 o (ki h);obtain rfl:a'=a:=t.pn a hp;exact⟨r.g,t.ob⟩
omit [Pin] in
theorem Fun2.okOB{P:Program}{w:World}{K:Frag}{mg:Str->Option Value}{base:Heap}{x c qual:Str}{st:Stmt}{dV:Value}{f:Addr}{fd:FuncData}{N ps:List Str}{k n k1 ar:Nat}{u:FS}(F:Fun2 K x qual st dV f fd)(S:FnScope N ps (qc st))(hn:N.length=n)(ha:ps.length=ar+1)(hk:k+1=k1)
  (hb:∀(Pn:Pin) (cdv:Value) (A:Around) (outer:List Env) (s:Shared) (H:Hp) (E:XK),Room k (A.deeper (envOfC qual (qc st) s.heap.objs.size f cdv))->PSs (zk CX0 P w K mg base N qual (qc st) f cdv A outer s H E).nox (qo st) (letI:Pin:=Pn;tDS K u)) :
  FnOk P w K mg base CX0 k1 f fd ps (wk K c ar (yj n c u)):=by
 subst hn hk;obtain⟨oc,od,kV,doc,pm,an,cdv,ct,osl,rfl,lk,hcd⟩:=F.ex;have hpl:ps.length<=N.length:=by have:=pb List.length S.pre;rw [t9] at this;omega
 refine qg5 lk hcd S (fun vs H Q E h=>?_) fun A outer s H vs Q E hr hsp=>?_
 ·obtain⟨F,a,fs,fs',ds,d,vs',rfl,_,hR,hl,_⟩:=h
  rw [mf, <- hR.length,hl,ha]
 ·obtain⟨F,a,fs,fs',ds,d,vs',rfl,sT,hR,hl,o,hop,q⟩:=hsp
  refine⟨_,(hb ⟨some a⟩ cdv A outer s H E hr).nox,?_⟩
  letI:Pin:=⟨some a⟩
  have r:=qfk (x:=c) (N:=N) (by omega) (fun p h=>mn h) sT hR o;unfold yj at hop
  split at hop
  ·rename_i ρ' hu
   obtain⟨o',ho',hif⟩:=g6.mp hop
   split at hif
   ·rename_i hx
    cases hif;refine⟨F,_,F,_,.nx, ρ',r,hu,fun σ' F' H' s' r'=>?_⟩;obtain⟨g',t'⟩:=qdj rfl r' ho';exact q .non F' H' g' (by rw [<- hx];exact t') (rep_non.mpr rfl)
   ·cases hif
  ·rename_i d' ρ' hu
   obtain⟨o',ho',hif⟩:=g6.mp hop
   split at hif
   ·rename_i hx
    cases hif;refine⟨F,_,F,_,.rt _, ρ',r,hu,fun v σ' F' H' r' rv=>?_⟩;obtain⟨g',t'⟩:=qdj rfl r' ho';exact q v F' H' g' (by rw [<- hx];exact t') rv
   ·cases hif
  ·cases hop
section
variable{K:Frag}{F0 H0 F H F' H':Hp}{σ : St}{ρ : Rho}
theorem RS.callOB(r:RS K F0 H0 F H σ ρ){i:Nat}{a:Addr}{o o':Str×Flds}(h1 : ρ[i]? = some (some (.od o)))(h2 : σ[i]? = some (some (.ref a)))(ot:ODt K F H H0 a [] o)
  (g:Grow F (less H a) F' H') (o0:OB0 K F' H' (less H a) a o'):RS K F0 H0 F' H' σ (ρ.set i (some (.od o'))):=by
 have kp:∀b u,H0 b=some u->less H a b=H b:=fun b u e=>kb fun z=>by subst z;rw [ot.z] at e;cases e
 have ln:∀b,less H a b=none->H0 b=none:=fun b e=>by
  by_cases z:b=a
  ·subst z;exact ot.z
  ·rw [kb z] at e;exact r.g.hh.free e
 obtain⟨C,dx,vs,e0,_⟩:=ot.ex;have back:∀(l:Nat) (us:List D),(ρ.set i (some (.od o')))[l]? = some (some (.ow us))->l≠i /\ ρ[l]? = some (some (.ow us)):=fun l us z=>by
  by_cases q:l=i
  ·subst q
   obtain⟨z',_⟩:=qk z;cases z'
  ·rw [gf (m6 q)] at z;exact⟨q,z⟩
 have only:∀(l:Nat) (us),(ρ.set i (some (.od o')))[l]? = some (some (.od us))->l=i/\us=o':=fun l us z=>by
  by_cases q:l=i
  ·subst q
   obtain⟨z',_⟩:=qk z;cases z';exact⟨rfl,rfl⟩
  ·rw [gf (m6 q)] at z
   exact absurd (r.o1 l i us o z h1) q
 have owl:∀(b:Addr) (xs:List V),H b=some (.lst xs)->less H a b=some (.lst xs):=fun b xs e3=>by
  rw [kb,e3];intro z;subst z;rw [e3] at e0;cases e0
 exact {
  t0:=r.t0
  g:=⟨r.g.ff.trans g.ff,⟨fun b u e=>g.hh.lst b u (by rw [kp b _ e];exact r.g.hh.lst b u e),fun b u e=>g.hh.ext b u (by rw [kp b _ e];exact r.g.hh.ext b u e),fun {b} e=>ln b (g.hh.free e),fun t=>g.hh.tb ((r.g.hh.tb t).less e0),fun b u e=>g.hh.dk b u (by rw [kp b _ e];exact r.g.hh.dk b u e)⟩,g.fh,fun b hb=>by
   rcases g.nw b hb with z|z
   ·exact r.g.nw b z
   ·exact .inr (ln b z)⟩
  len:=by rw [nc];exact r.len
  fz:=fun j e q1=>by
   by_cases q:j=i
   ·subst q
    obtain⟨z,l⟩:=qk q1;cases z
   ·rw [gf (m6 q)] at q1
    obtain⟨v,z1,z2⟩:=r.fz j e q1;exact⟨v,z1,z2.mono g.ff⟩
  ow:=fun j es q1=>by
   obtain⟨_,q1⟩:=back j es q1;obtain⟨b,zs,f1,f2,f3,f4,f5⟩:=r.ow j es q1;have hl:=owl b zs f2;exact⟨b,zs,f1,g.hh.lst _ _ hl,qas g f3 hl,f4,f5.mono g.ff⟩
  dj:=fun j k ds' es' b hjk q1 q2 q3=>r.dj j k ds' es' b hjk (back _ _ q1).2 (back _ _ q2).2 q3
  od:=fun j us q1=>by
   obtain⟨rfl,rfl⟩:=only j us q1;exact⟨a,[],h2,(o0.at ot.z).to ot.pn,fun k es b _ p2=>by cases p2⟩
  o1:=fun j k k1 k2 p1 p2=>by rw [(only j k1 p1).1,(only k k2 p2).1]}
theorem Grow.put{a:Addr}{u:HO}(fh:Same F H)(hf:F a=none): Grow F (less H a) F (upd H a u):=
 ⟨.refl _,⟨fun b xs e=>by rw [ql (xi e).2];exact(xi e).1,fun b xs e=>by rw [ql (xi e).2];exact(xi e).1,fun {b} e=>by
   by_cases z:b=a
   ·subst z;exact wj
   ·rw [ql z] at e;rw [kb z];exact e,fun t=>by
   have:upd H a u=upd (less H a) a u:=by
    funext b
    by_cases z:b=a
    ·subst z;rw [qz,qz]
    ·rw [ql z,ql z,kb z]
   rw [this];exact t.upd (.inl wj),fun b xs e=>by rw [ql (xi e).2];exact(xi e).1⟩,fun b o e=>by
   rw [ql (fun z=>by subst z;rw [hf] at e;cases e)];exact fh b o e,fun _ z=>.inl z⟩
end
structure ClsF(K:Frag)(x:Str)(C:Addr)(fl:List Str): Prop where
 ns:PySem.W.nsIn K mainGlobals x=some (some (.ref C))
 cls:Cls K C
 no:∀f∈fl,NoAttr K C f
structure CalF(P:Program)(w:World)(K:Frag)(mg:Str->Option Value)(base:Heap)(x m:Str)(C:Addr)(k:Nat)(ps:List Str)(ar:Nat)(op:Flds->List D->Option (Flds×D))(fn:Addr)(fd:FuncData): Prop where
 ok:FnOk P w K mg base CX0 k fn fd ps (wk K x ar op)
 me:Meth K C m fn
section
variable{X:Cx}{st:Stmt}{e o:Expr}{es:List Expr}{pos apos p px:Pos}{f g:FE}{fa:FA}
def wo(c:Str)(i:Nat)(f:Str): FE:=fun ρ =>(wg i ρ).bind fun o=>if o.1=c then o.2.lookup f else none
theorem ky{c x nm:Str}{C:Addr}{i:Nat}{fl:List Str}(O:ClsF X.K c C fl)(hf:nm∈fl)(hv:PE X (.Name x px) (q2g i))(hb:attributeBase (.Name x px) nm X.env (eval (.Name x px) X.env)=eval (.Name x px) X.env:=by rfl): PE X (.Attribute (.Name x px) nm pos) (tD X.K (wo c i nm)):=
 zj (qij hv hb) fun σ H Q ⟨F0,H0,F, ρ,d,r,hf',q⟩=>by
  obtain⟨ob,h1,h2⟩:=g6.mp hf'
  split at h2
  ·rename_i hc
   obtain⟨a,bs,e1,t,_⟩:=r.od i ob (ki h1);obtain⟨C',dx,vs,e2,e3,e4⟩:=t.ex;have hC:C'=C:=by
    have:=e3.symm.trans (hc ▸ O.ns);cases this;rfl
   subst hC;obtain⟨v,l,rv⟩:=e4.get h2;exact⟨.ref a,e1,a,C',dx,vs,v,rfl,e2,O.cls,O.no _ hf,l,q v F H (.refl r.fh) rv⟩
  ·cases h2
def q1l(c:Str)(i:Nat)(nm:Str)(f:FE): FS:=fun ρ =>(f ρ).bind fun d=>(wg i ρ).bind fun o=>if o.1=c/\o.2.length<100 then some (.nx, ρ.set i (some (.od (c,putD nm d o.2)))) else none
theorem q3i{c x nm:Str}{C:Addr}{i:Nat}{fl:List Str}(O:ClsF X.K c C fl)(hf:nm∈fl)(hv:PE X (.Name x px) (q2g i))(he:PE X e (tD X.K f))(hs:swapsWith e (some (.Attribute (.Name x px) nm apos)) pos.line X.env=pure false:=by rfl): PS X (.Assign [.Attribute (.Name x px) nm apos] e pos) (tDS X.K (q1l c i nm f)):=
 xg (qik hv he hs) fun D σ H ⟨F0,H0,F, ρ,flw, ρ',r,hf',q⟩=>by
  obtain⟨d,h1,hf'⟩:=g6.mp hf';obtain⟨ob,h2,h3⟩:=g6.mp hf'
  split at h3
  ·rename_i hc
   cases h3;refine⟨F0,H0,F, ρ,d,r,h1,fun v F1 H1 g1 r1=>?_⟩;have r':=r.grow g1;obtain⟨a,bs,e1,t,_⟩:=r'.od i ob (ki h2);obtain rfl:=t.nb;obtain⟨C',dx,vs,e2,e3,e4⟩:=t.ex;have hC:C'=C:=by
    have:=e3.symm.trans (hc.1 ▸ O.ns);cases this;rfl
   subst hC;refine⟨.ref a,e1,a,C',dx,vs,rfl,e2,O.cls,O.no _ hf,by rw [e4.len];omega,?_⟩;refine q σ F1 _ g1.ff (r'.callOB (ki h2) e1 t (Grow.put r'.fh t.f) ⟨⟨C',dx,_,qz,O.ns,e4.put r1⟩,t.f,wj⟩)
  ·cases h3
abbrev FM:=Rho->Option (D×Rho)
abbrev FAM:=Rho->Option (List D×Rho)
abbrev FTM:=Rho->Option (Bool×Rho)
def tDM(K:Frag)(f:FM): TE:=fun σ H Q=>∃F0 H0 F ρ d ρ',RS K F0 H0 F H σ ρ /\ f ρ = some (d, ρ')/\∀v F' H',Same F F'->RS K F0 H0 F' H' σ ρ'->Rep K F' d v->Q v H'
def q98(K:Frag)(f:FAM): TA:=fun σ H Q=>∃F0 H0 F ρ ds ρ',RS K F0 H0 F H σ ρ /\ f ρ = some (ds, ρ')/\∀vs F' H',Same F F'->RS K F0 H0 F' H' σ ρ'->RepL K F' ds vs->Q vs H'
def qc2(K:Frag)(f:FTM): TT:=fun σ H Q=>∃F0 H0 F ρ b ρ',RS K F0 H0 F H σ ρ /\ f ρ = some (b, ρ')/\∀F' H',Same F F'->RS K F0 H0 F' H' σ ρ'->Q b H'
def mP(f:FE): FM:=fun ρ =>(f ρ).map fun d=>(d, ρ)
def amP(f:FA): FAM:=fun ρ =>(f ρ).map fun d=>(d, ρ)
theorem qhd(h:PE X e (tD X.K f)): PE X e (tDM X.K (mP f)):=zj h fun σ H Q ⟨F0,H0,F, ρ,d, ρ',r,hf,q⟩=>by
 obtain⟨d',h1,h2⟩:=gj.mp hf;cases h2;exact⟨F0,H0,F, ρ,d,r,h1,fun v F' H' g' rv=>q v F' H' g'.ff (r.grow g') rv⟩
theorem q46(h:PA X es (tDA X.K fa)): PA X es (q98 X.K (amP fa)):=q5h h fun σ H Q ⟨F0,H0,F, ρ,d, ρ',r,hf,q⟩=>by
 obtain⟨d',h1,h2⟩:=gj.mp hf;cases h2;exact⟨F0,H0,F, ρ,d,r,h1,fun v F' H' g' rv=>q v F' H' g'.ff (r.grow g') rv⟩
def kz(f:FM)(fa:FAM): FAM:=fun ρ =>(f ρ).bind fun p=>(fa p.2).map fun q=>(p.1 :: q.1,q.2)
theorem q2b{f:FM}{fa:FAM}(ha:PE X e (tDM X.K f))(hr:PA X es (q98 X.K fa))(hs:starEach (e :: es) X.env=(false,eval e X.env) :: starEach es X.env:=by first|exact q6h rfl|rfl): PA X (e :: es) (q98 X.K (kz f fa)):=
 q5h (q22 ha hr hs) fun σ H Q ⟨F0,H0,F, ρ,ds, ρ',r,hf,q⟩=>by
  obtain⟨⟨d, ρ1⟩,h1,hf⟩:=g6.mp hf;obtain⟨⟨ds', ρ2⟩,h2,h3⟩:=gj.mp hf;cases h3;refine⟨F0,H0,F, ρ,d, ρ1,r,h1,fun v F1 H1 s1 r1 rv=>⟨F0,H0,F1, ρ1,ds',_,r1,h2,fun vs F2 H2 s2 r2 rl=>?_⟩⟩;exact q _ F2 H2 (s1.trans s2) r2 (.cons (rv.mono s2) rl)
def q0o(op:List D->Option D)(fa:FAM): FM:=fun ρ =>(fa ρ).bind fun p=>(op p.1).map fun d=>(d,p.2)
theorem q99{k k' ar:Nat}{fn:Addr}{fd:FuncData}{ps:List Str}{op:List D->Option D}{x:Str}{fa:FAM}(C:Cal X.prog X.w X.K X.mg X.base x k ps ar op fn fd)(b:Binds X.K fd ps [])(hr:Room k' X.A)(hk:k<=k')(hg:Gl X x)(ha:PA X (e :: es) (q98 X.K fa))(hdb:(x==("__debug__" : Str))=false:=by decide)
  (he:starEach (e :: es) X.env=(false,eval e X.env) :: starEach es X.env:=by rfl) (hpl:(backTo pos (starEach es X.env)).any (·.1)=false:=by rfl):PE X (.Call (.Name x p) (e :: es) [] pos) (tDM X.K (q0o (qq ar [] op) fa)):=
 zj (q6a C.ok (hr.mono hk) hg C.mg C.kp b .nil q40 ha hdb he hpl) fun σ H Q ⟨F0,H0,F, ρ,d, ρ',r,hf,q⟩=>by
  obtain⟨⟨ds, ρ1⟩,h1,hf⟩:=g6.mp hf;obtain⟨d',h2,h3⟩:=gj.mp hf;cases h3;unfold qq at h2
  split at h2
  ·rename_i hl
   refine⟨F0,H0,F, ρ,ds, ρ1,r,h1,fun vs F1 H1 s1 r1 rl=>⟨F1,ds++[],d,r1.sameT (.refl r1.fh),rl.append .nil,hl,h2,fun v F2 H2 g2 rv=>q v F2 H2 (s1.trans g2.ff) (r1.grow g2) rv⟩⟩
  ·cases h2
theorem qhe{k k' ar:Nat}{fn:Addr}{fd:FuncData}{ps:List Str}{op:List D->Option D}{x:Str}{fa:FAM}{dvs:List V}{dds:List D}{dv:List Value}(C:Cal X.prog X.w X.K X.mg X.base x k ps ar op fn fd)(b:Binds X.K fd ps dv)(hd:Vals dvs dv)(hdd:∀H,RepL X.K H dds dvs)(hr:Room k' X.A)(hk:k<=k')(hg:Gl X x)(ha:PA X (e :: es) (q98 X.K fa))(hdb:(x==("__debug__" : Str))=false:=by decide)
  (he:starEach (e :: es) X.env=(false,eval e X.env) :: starEach es X.env:=by rfl) (hpl:(backTo pos (starEach es X.env)).any (·.1)=false:=by rfl):PE X (.Call (.Name x p) (e :: es) [] pos) (tDM X.K (q0o (qq ar dds op) fa)):=
 zj (q6a C.ok (hr.mono hk) hg C.mg C.kp b hd q40 ha hdb he hpl) fun σ H Q ⟨F0,H0,F, ρ,d, ρ',r,hf,q⟩=>by
  obtain⟨⟨ds, ρ1⟩,h1,hf⟩:=g6.mp hf;obtain⟨d',h2,h3⟩:=gj.mp hf;cases h3;unfold qq at h2
  split at h2
  ·rename_i hl
   refine⟨F0,H0,F, ρ,ds, ρ1,r,h1,fun vs F1 H1 s1 r1 rl=>⟨F1,ds++dds,d,r1.sameT (.refl r1.fh),rl.append (hdd F1),hl,h2,fun v F2 H2 g2 rv=>q v F2 H2 (s1.trans g2.ff) (r1.grow g2) rv⟩⟩
  ·cases h2
theorem Cal.as{P:Program}{w:World}{K:Frag}{mg:Str->Option Value}{base:Heap}{x y:Str}{k ar:Nat}{ps:List Str}{op:List D->Option D}{fn:Addr}{fd:FuncData}(C:Cal P w K mg base x k ps ar op fn fd)(h:mg y=some (.ref fn)): Cal P w K mg base y k ps ar op fn fd:=⟨C.ok,h,C.kp⟩
def kc(c:Str)(m:Str)(i ar:Nat)(op:Flds->List D->Option (Flds×D))(fa:FA): FM:=fun ρ =>(wg i ρ).bind fun o=>(fa ρ).bind fun ds=>if o.1=c/\ds.length=ar/\(o.2.lookup m).isNone=true then(op o.2 ds).map fun p=>(p.2, ρ.set i (some (.od (c,p.1)))) else none
theorem qdk{K:Frag}{c m:Str}{C:Addr}{fl:List Str}{i ar:Nat}{op:Flds->List D->Option (Flds×D)}{σ : St}{H:Hp}{Q:VK}(O:ClsF K c C fl)(h:tDM K (kc c m i ar op fa) σ H Q):
  qbo C m (wk K c ar op) [] E0 (q2g i) (tDA K fa) σ H Q:=by
 obtain⟨F0,H0,F, ρ,d, ρ',r,hf,q⟩:=h;obtain⟨ob,h1,hf⟩:=g6.mp hf;obtain⟨ds,h2,h3⟩:=g6.mp hf
 split at h3
 ·rename_i hc
  obtain⟨⟨fs',d'⟩,h4,h5⟩:=gj.mp h3;cases h5;obtain⟨x,fs⟩:=ob;obtain⟨rfl,hl,hn⟩:=hc;obtain⟨a,bs,e1,t,_⟩:=r.od i _ (ki h1);obtain rfl:=t.nb;obtain⟨C',dx,vs,e2,e3,e4⟩:=t.ex;have hC:C'=C:=by
   have:=e3.symm.trans O.ns;cases this;rfl
  subst hC;refine⟨.ref a,e1,a,dx,vs,rfl,e2,e4.miss (Option.isNone_iff_eq_none.mp hn),F0,H0,F, ρ,ds,r,h2,fun ws F1 H1 g1 r1=>?_⟩;have r':=r.grow g1;have t':=t.grow g1;refine⟨F1,a,fs,fs',ds,d',ws,by rw [nh],r.sameT g1,r1,hl,t'.ob.at wj,h4,fun v F2 H2 g2 o2 rv=>?_⟩;exact q v F2 H2 (g1.ff.trans g2.ff) (r'.callOB (ki h1) e1 t' g2 o2) rv
 ·cases h3
theorem q2c{c x m:Str}{C:Addr}{k k' ar i:Nat}{fn:Addr}{fd:FuncData}{ps fl:List Str}{op:Flds->List D->Option (Flds×D)}{pl:Sem Bool}(O:ClsF X.K c C fl)
  (M:CalF X.prog X.w X.K X.mg X.base c m C k ps ar op fn fd) (b:Binds X.K fd ps []) (hr:Room k' X.A) (hk:k<=k') (hv:PE X (.Name x px) (q2g i)) (ha:PA X (e :: es) (tDA X.K fa))
  (hst:starEach (e :: es) X.env=(false,eval e X.env) :: starEach es X.env:=by rfl) (hpl:(backTo pos (starEach es X.env)).any (·.1)=false:=by rfl)
  (ht:eval (.Call (.Attribute (.Name x px) m apos) (e :: es) [] pos) X.env=(do
   let ov <- eval (.Name x px) X.env
   standAt apos.atName
   let(f,first) <- holding [ov] (getMethod ov m pl)
   callWith pos f first (backTo pos (starEach (e :: es) X.env)) (backToKw pos (keywordEach [] X.env))):=by rfl) :
  PE X (.Call (.Attribute (.Name x px) m apos) (e :: es) [] pos) (tDM X.K (kc c m i ar op fa)):=
 zj (qgv (pl:=pl) hv O.cls M.me M.ok (hr.mono hk) b .nil q40 ha hst hpl ht) fun σ H Q h=>qdk O h
theorem qb5{c x m:Str}{C:Addr}{k k' i:Nat}{fn:Addr}{fd:FuncData}{ps fl:List Str}{op:Flds->List D->Option (Flds×D)}{pl:Sem Bool}(O:ClsF X.K c C fl)
  (M:CalF X.prog X.w X.K X.mg X.base c m C k ps 0 op fn fd) (b:Binds X.K fd ps []) (hr:Room k' X.A) (hk:k<=k') (hv:PE X (.Name x px) (q2g i))
  (ht:eval (.Call (.Attribute (.Name x px) m apos) [] [] pos) X.env=(do
   let ov <- eval (.Name x px) X.env
   standAt apos.atName
   let(f,first) <- holding [ov] (getMethod ov m pl)
   callWith pos f first (backTo pos (starEach [] X.env)) (backToKw pos (keywordEach [] X.env))):=by rfl) :
  PE X (.Call (.Attribute (.Name x px) m apos) [] [] pos) (tDM X.K (kc c m i 0 op qf)):=
 zj (qem (pl:=pl) hv O.cls M.me M.ok (hr.mono hk) b .nil q40 ht) fun σ H Q h=>by
  obtain⟨v,e1,a,dx,fs,h1,h2,h3,F0,H0,F, ρ,ds,r,hf,q⟩:=qdk O h;cases hf;exact⟨v,e1,a,dx,fs,h1,h2,h3,q [] F H (.refl r.fh) .nil⟩
def mbT(f:FM): FTM:=fun ρ =>(f ρ).bind fun p=>(q4z p.1).map fun b=>(b,p.2)
theorem qdl{f:FM}(ha:PE X e (tDM X.K f))(he:∀whole,isTrue e X.env whole=(do let v <- whole;standAt e.pos;holding [v] (truthy v)):=by intro _;rfl): PT X e (qc2 X.K (mbT f)):=
 q37 (q8h ha he) fun σ H Q ⟨F0,H0,F, ρ,b, ρ',r,hf,q⟩=>by
  obtain⟨⟨d, ρ1⟩,h1,hf⟩:=g6.mp hf;obtain⟨b',h2,h3⟩:=gj.mp hf;cases h3;exact⟨F0,H0,F, ρ,d,_,r,h1,fun v F' H' s' r' rv=>⟨b,qd1 h2 r'.fh rv,q F' H' s' r'⟩⟩
def q47(t:FTM): FTM:=fun ρ =>(t ρ).map fun p=>(!p.1,p.2)
theorem qdm{t:FTM}(ha:PT X e (qc2 X.K t)): PT X (.UnaryOp .Not e pos) (qc2 X.K (q47 t)):=q37 (qce ha) fun σ H Q ⟨F0,H0,F, ρ,c, ρ',r,hf,q⟩=>by
 obtain⟨⟨d, ρ1⟩,h1,h2⟩:=gj.mp hf;cases h2;exact⟨F0,H0,F, ρ,d,_,r,h1,fun F' H' s' r'=>q F' H' s' r'⟩
variable{rest:List Expr}{a b:Expr}{t u:FTM}
def q6l(t:FTM)(u w:FS): FS:=fun ρ =>(t ρ).bind fun p=>if p.1 then u p.2 else w p.2
theorem qdn{c:Expr}{a b:List Stmt}{u w:FS}(hc:PT X c (qc2 X.K t))(ha:PSs X a (tDS X.K u))(hb:PSs X b (tDS X.K w)): PS X (.If c a b pos) (tDS X.K (q6l t u w)):=xg (qg3 hc ha hb) fun D σ H ⟨F0,H0,F, ρ,fl, ρ',r,hf,q⟩=>by
 obtain⟨⟨c, ρ1⟩,h1,h2⟩:=g6.mp hf;refine⟨F0,H0,F, ρ,c, ρ1,r,h1,fun F' H' s' r'=>?_⟩;cases c with
 | true=>rw [gw rfl] at h2 ⊢;exact⟨F0,H0,F', ρ1,fl, ρ',r',h2,wd s' q⟩
 | false=>rw [m7 gq] at h2 ⊢;exact⟨F0,H0,F', ρ1,fl, ρ',r',h2,wd s' q⟩
def q89(f:FM): FS:=fun ρ =>(f ρ).map fun p=>(.rt p.1,p.2)
theorem qhf{f:FM}(he:PE X e (tDM X.K f)): PS X (.Return (some e) pos) (tDS X.K (q89 f)):=xg (qcf he) fun D σ H ⟨F0,H0,F, ρ,fl, ρ',r,hf,q⟩=>by
 obtain⟨⟨d, ρ1⟩,h1,h2⟩:=gj.mp hf;cases h2;exact⟨F0,H0,F, ρ,d,_,r,h1,fun v F' H' s' r' rv=>q v σ F' H' r' rv⟩
def q12(f:FM): FS:=fun ρ =>(f ρ).map fun p=>(.nx,p.2)
theorem q54{f:FM}(he:PE X e (tDM X.K f))(hs:swapsWith e none pos.line X.env=pure false:=by rfl): PS X (.Expr e pos) (tDS X.K (q12 f)):=xg (qal he hs) fun D σ H ⟨F0,H0,F, ρ,fl, ρ',r,hf,q⟩=>by
 obtain⟨⟨d, ρ1⟩,h1,h2⟩:=gj.mp hf;cases h2;exact⟨F0,H0,F, ρ,d,_,r,h1,fun v F' H' s' r' rv=>q σ F' H' s' r'⟩
def q5t(i:Nat)(f:FM): FS:=fun ρ =>(f ρ).map fun p=>(.nx,p.2.set i (some (.fz p.1)))
theorem qb6{i:Nat}{x:Str}{px:Pos}{f:FM}(hN:X.N.Nodup)(hi:X.N[i]? = some x)(hx:Loc X.env.scope x)(he:PE X e (tDM X.K f))(hs:swapsWith e (some (.Name x px)) pos.line X.env=pure false:=by rfl)(hf:X.fn x=true\/X.env.scope.names.lookup x=some .local:=by first|exact .inl rfl|exact .inr rfl|assumption):
  PS X (.Assign [.Name x px] e pos) (tDS X.K (q5t i f)):=xg (q5c hN hi hx he hs hf) fun D σ H ⟨F0,H0,F, ρ,fl, ρ',r,hf,q⟩=>by
 obtain⟨⟨d, ρ1⟩,h1,h2⟩:=gj.mp hf;cases h2;exact⟨F0,H0,F, ρ,d, ρ1,r,h1,fun v F' H' s' r' rv=>q _ F' H' s' (r'.set i rv)⟩
end
end DL
namespace L2
open PySem PySem.Spec PyProof.Rows
section
variable{X:Cx}{CX:CXT}{k:Nat}{f C:Addr}{fd:FuncData}{ps ks:List Str}{sp:Sp}{E:XK}{x:Str}{p pos:Pos}{e:Expr}{es:List Expr}{kws:List Keyword}{t tk:TA}{g:List Value->List Value->List Value}{gV:List V->List V->List V}
def qjg(C:Addr)(sp:Sp)(gV:List V->List V->List V)(E:XK)(t tk:TA): TE:=fun σ H Q=>t σ H fun vs H1=>tk σ H1 fun zs H2=>∀x dx,H2 x=none->H2 dx=none->dx≠x ->
 sp (gV (.ref x :: vs) zs) (upd (upd H2 dx (.own x)) x (.ins C dx [])) (fun v H3=>v=.non/\Q (.ref x) H3) E
theorem qdo{pins:List (Addr×Obj)}{σ : St}{H:Hp}{s:Shared}{Q:VK}{us ws:List Value}{vs zs:List V}(M:Mk X.K C f)(F:FnOk X.prog X.w X.K X.mg X.base CX k f fd ps sp)(hr:Room (k+1) X.A)(hb:KBinds X.K fd ps ks g gV)
  (hx:q0u CX X E) (I:Inv X pins σ H s) (r:Vals vs us) (rz:Vals zs ws)
  (h:∀x dx,H x=none->H dx=none->dx≠x->sp (gV (.ref x :: vs) zs) (upd (upd H dx (.own x)) x (.ins C dx [])) (fun v H2=>v=.non/\Q (.ref x) H2) E) :
  wpAny (model X.prog X.w) X.A (call (.ref C) us (ks.zip ws)) (EP X pins σ Q) X.xe s:=by
 have hq:=h (s.heap.objs.size+1) s.heap.objs.size (I.hok.fresh (Nat.le_succ _)) (I.hok.fresh (gy _)) (mh (uk _));have I2:=Inv.made (C:=C) I;have r2:=hb.rel (vs:=V.ref (s.heap.objs.size+1) :: vs) (us:=Value.ref (s.heap.objs.size+1) :: us) (.cons rfl r) rz;have hl:(g (Value.ref (s.heap.objs.size+1) :: us) ws).length=ps.length:=by rw [<- r2.length];exact F.len _ _ _ _ hq
 refine wpAny_call (qel (f:=f) I.kIn M.makes M.init (pk.mp M.fn) (g0l (F.run _ X.stack _ _ ⟨Value.ref (s.heap.objs.size+1) :: us,ks.zip ws⟩ (g (Value.ref (s.heap.objs.size+1) :: us) ws) _ _ E (hr.make C us (ks.zip ws))
  (I2.env0.make C us (ks.zip ws)) (hb.to _ (Value.ref (s.heap.objs.size+1) :: us) ws I2.kIn hl) r2 hq) fun r s' hq'=>?_))
 cases r with
 | error e=>exact hx pins σ _ _ e s' I2 hq'
 | ok fl=>
  cases fl with
  | ret u=>
   obtain⟨v,H',I3,rv,ev,q3⟩:=I2.after hq';subst ev;exact⟨rv,⟨V.ref (s.heap.objs.size+1),H',I3,rfl,q3⟩⟩
  | next=>exact False.elim hq'
  | brk=>exact False.elim hq'
  | cont=>exact False.elim hq'
theorem qfl(M:Mk X.K C f)(F:FnOk X.prog X.w X.K X.mg X.base CX k f fd ps sp)(hr:Room (k+1) X.A)(hg:Gl X x)(hm:X.mg x=some (.ref C))(hb:KBinds X.K fd ps ks g gV)(hx:q0u CX X E)
  (ha:PA X (e :: es) t) (hkw:PK X kws tk) (hall:(backToKw pos (keywordEach kws X.env)).all (·.1.isSome)=true:=by rfl) (hks:(backToKw pos (keywordEach kws X.env)).filterMap (·.1)=ks:=by rfl)
  (hdb:(x==("__debug__" : Str))=false:=by decide) (he:starEach (e :: es) X.env=(false,eval e X.env) :: starEach es X.env:=by rfl)
  (hpl:((backTo pos (starEach (e :: es) X.env)).any (·.1) || (backToKw pos (keywordEach kws X.env)).any (·.1.isNone))=false:=by rfl) :
  PE X (.Call (.Name x p) (e :: es) kws pos) (qjg C sp gV E t tk):=by
 intro pins s σ H Q I h;refine u6 (q68 I hg hm ?_ hdb);refine PySem.W.callWith_KW (h₀:=X.base) I.ok.mod.kin M.kp hall (thn (ha pos pins s σ H _ I h) fun us s1 ⟨vs,H1,I1,r,q⟩=>?_) hpl he;refine thn (hkw pos pins s1 σ H1 _ I1 q) fun ws s2 ⟨zs,H2,I2,rz,q2⟩=>⟨I2.kIn,?_⟩
 rw [hks];exact qdo M F hr hb hx I2 r rz q2
end
end L2
namespace DL
open PySem PySem.Spec PyProof.Rows L2
variable[Lam][Pin]
def q6m(i:Nat)(ρ : Rho): Bool:=(ρ.set i none).all fun b=>match b with
 | some (.od _)=>false
 | _=>true
omit [Lam] [Pin] in
theorem qb7{i j:Nat}{ρ : Rho}{o}(h:q6m i ρ = true)(h2 : ρ[j]? = some (some (.od o))): j=i:=by
 by_cases q:j=i
 ·exact q
 ·unfold q6m at h
  rw [g0r] at h;have:=h (some (.od o)) (List.mem_of_getElem? (i:=j) (by rw [gf (m6 q)];exact h2));cases this
section
variable{K:Frag}{F0 H0 F H F' H':Hp}{σ : St}{ρ : Rho}
theorem RS.setOB(r:RS K F0 H0 F H σ ρ){i:Nat}{a:Addr}{o:Str×Flds}(hp:Pin.pin=none)(no:q6m i ρ = true)(o0:OB0 K F H H0 a o): RS K F0 H0 F H (σ.set i (some (.ref a))) (ρ.set i (some (.od o))) where
 t0:=r.t0
 g:=r.g
 len:=by rw [nc,nc];exact r.len
 fz:=fun j e h1=>by
  by_cases q:j=i
  ·subst q
   obtain⟨z,l⟩:=qk h1;cases z
  ·rw [gf (m6 q)] at h1 ⊢
   exact r.fz j e h1
 ow:=fun j ds h1=>by
  by_cases q:j=i
  ·subst q
   obtain⟨z,l⟩:=qk h1;cases z
  ·rw [gf (m6 q)] at h1 ⊢
   exact r.ow j ds h1
 dj :=fun j k ds es a hjk h1 h2 h3=>by
  by_cases q:j=i
  ·subst q
   obtain⟨z,l⟩:=qk h1;cases z
  ·by_cases q2:k=i
   ·subst q2
    obtain⟨z,l⟩:=qk h2;cases z
   ·rw [gf (m6 q)] at h1 h3
    rw [gf (m6 q2)] at h2 ⊢;exact r.dj j k ds es a hjk h1 h2 h3
 od:=fun j kvs h1=>by
  by_cases q:j=i
  ·subst q
   obtain⟨z,l⟩:=qk h1;cases z;exact⟨a,[],by rw [ue];simp [r.len,l],o0.to (fun p z=>by rw [hp] at z;cases z),fun k es b _ hb=>by cases hb⟩
  ·rw [gf (m6 q)] at h1
   exact absurd (qb7 no h1) q
 o1 :=fun j k k1 k2 h1 h2=>by
  have only:∀(l:Nat) us,(ρ.set i (some (.od o)))[l]? = some (some (.od us))->l=i:=fun l us z=>by
   by_cases q:l=i
   ·exact q
   ·rw [gf (m6 q)] at z
    exact qb7 no z
  rw [only j k1 h1,only k k2 h2]
end
structure MkF(P:Program)(w:World)(K:Frag)(mg:Str->Option Value)(base:Heap)(x:Str)(C:Addr)(k:Nat)(ps:List Str)(ar:Nat)(op:Flds->List D->Option (Flds×D))(fn:Addr)(fd:FuncData): Prop where
 ok:FnOk P w K mg base CX0 k fn fd ps (wk K x ar op)
 mks:Mk K C fn
 mg:mg x=some (.ref C)
 ns:PySem.W.nsIn K mainGlobals x=some (some (.ref C))
def qgd:D->Bool
 | .non=>true
 | _=>false
section
variable{X:Cx}{e:Expr}{es:List Expr}{kws:List Keyword}{pos p px spos:Pos}{fa fk:FA}
theorem qjh{c:Str}{C:Addr}{i ar:Nat}{op:Flds->List D->Option (Flds×D)}{F0 H0 F H:Hp}{σ : St}{ρ : Rho}{Dn:Ends}{ds:List D}{vs:List V}{fs':Flds}{d:D}{x dx:Addr}(hp:Pin.pin=none)(hns:PySem.W.nsIn X.K mainGlobals c=some (some (.ref C)))
  (r:RS X.K F0 H0 F H σ ρ) (no:q6m i ρ = true) (h4:op [] ds=some (fs',d)) (hd:qgd d=true) (hl:ds.length=ar) (rl:RepL X.K F ds vs) (n1:H x=none) (n2:H dx=none) (n3:dx≠x)
  (q:∀ σ' F' H',Same F F'->RS X.K F0 H0 F' H' σ' (ρ.set i (some (.od (c,fs'))))->Dn.nx σ' H') :
  wk X.K c ar op (.ref x :: vs) (upd (upd H dx (.own x)) x (.ins C dx [])) (fun v H3=>v=.non/\Dn.nx (σ.set i (some (.ref x))) H3) E0:=by
 obtain rfl:d=.non:=by cases d <;> first|rfl|cases hd
 have hF:F x=none:=r.fh.free n1;have gd:Grow F H F (upd H dx (.own x)):=Grow.own r.fh n2;have hx':upd H dx (.own x) x=none:=by rw [ql (m6 n3)];exact n1
 have lx:less (upd (upd H dx (.own x)) x (.ins C dx [])) x=upd H dx (.own x):=by
  funext b
  by_cases z:b=x
  ·subst z;rw [wj,hx']
  ·rw [kb z,ql z]
 have g2:Grow F H F (upd (upd H dx (.own x)) x (.ins C dx [])):=gd.trans (Grow.own gd.fh hx');refine⟨F,x,[],fs',ds,.non,vs,rfl,r.sameT g2,rl,hl,⟨⟨C,dx,[],qz,hns,rfl⟩,hF,wj⟩,h4,fun v F2 H2 g3 o3 rv=>⟨rep_non.mp rv,?_⟩⟩;rw [lx] at g3;exact q _ F2 H2 g3.ff ((r.grow (gd.trans g3)).setOB hp no (o3.at (r.g.hh.free n1)))
def q8a(c:Str)(i n m:Nat)(op:Flds->List D->Option (Flds×D))(fa fk:FA): FS:=fun ρ =>(fa ρ).bind fun ds=>(fk ρ).bind fun es=>if q6m i ρ = true/\ds.length+1=n/\es.length=m then(op [] (ds++es)).bind fun p=>if qgd p.2 then some (.nx, ρ.set i (some (.od (c,p.1)))) else none else none
theorem qhg{c x:Str}{C:Addr}{i k k' ar n m:Nat}{fn:Addr}{fd:FuncData}{ps ks:List Str}{op:Flds->List D->Option (Flds×D)}(hp:Pin.pin=none)(M:MkF X.prog X.w X.K X.mg X.base c C k ps ar op fn fd)(har:n+m=ar+1)(hr:Room k' X.A)(hk:k+1<=k')(hg:Gl X c)
  (hb:KB X.K fd ps ks n m) (ha:PA X (e :: es) (tDA X.K fa)) (hkw:PK X kws (tDA X.K fk)) (hN:X.N.Nodup) (hi:X.N[i]? = some x) (hx:Loc X.env.scope x)
  (hall:(backToKw pos (keywordEach kws X.env)).all (·.1.isSome)=true:=by rfl) (hks:(backToKw pos (keywordEach kws X.env)).filterMap (·.1)=ks:=by rfl)
  (hs:swapsWith (.Call (.Name c p) (e :: es) kws pos) (some (.Name x px)) spos.line X.env=pure false:=by rfl) (hf:X.fn x=true\/X.env.scope.names.lookup x=some .local:=by first|exact .inl rfl|exact .inr rfl|assumption)
  (hdb:(c==("__debug__" : Str))=false:=by decide) (he:starEach (e :: es) X.env=(false,eval e X.env) :: starEach es X.env:=by rfl)
  (hpl:((backTo pos (starEach (e :: es) X.env)).any (·.1) || (backToKw pos (keywordEach kws X.env)).any (·.1.isNone))=false:=by rfl) :
  PS X (.Assign [.Name x px] (.Call (.Name c p) (e :: es) kws pos) spos) (tDS X.K (q8a c i n m op fa fk)):=
 xg (q5c hN hi hx (qfl M.mks M.ok (hr.mono hk) hg M.mg hb q40 ha hkw hall hks hdb he hpl) hs hf) fun D σ H ⟨F0,H0,F, ρ,fl, ρ',r,hf',q⟩=>by
  obtain⟨ds,h1,hf'⟩:=g6.mp hf';obtain⟨es',h3,h2⟩:=g6.mp hf'
  split at h2
  ·rename_i hc
   obtain⟨⟨fs',d⟩,h4,h5⟩:=g6.mp h2
   split at h5
   ·rename_i hn
    cases h5;refine⟨F0,H0,F, ρ,ds,r,h1,fun vs F1 H1 g1 r1=>⟨F0,H0,F1, ρ,es',r.grow g1,h3,fun zs F2 H2 g2 r2 x dx n1 n2 n3=>?_⟩⟩;have ej:q44 n m (V.ref x :: vs) zs=.ref x :: (vs++zs):=gw ⟨by rw [mf, <- r1.length];exact hc.2.1,by rw [<- r2.length];exact hc.2.2⟩;show wk _ _ _ _ (q44 n m (V.ref x :: vs) zs) _ _ _;rw [ej];exact qjh (Dn:=D) hp M.ns ((r.grow g1).grow g2) hc.1 h4 hn (by rw [m9];omega) ((r1.mono g2.ff).append r2) n1 n2 n3 fun σ' F' H' s' r'=>q σ' F' H' ((g1.ff.trans g2.ff).trans s') r'
   ·cases h5
  ·cases h2
end
end DL
namespace My
open PySem PySem.Spec PyProof.Rows L2 DL
local macro_rules | `(tactic| walk_at "A")=> `(tactic| ((refine qh5 (hs:=?hs) ?a ?_);(case hs=>exact q6h rfl)))
local macro_rules | `(tactic| walk_at "L")=> `(tactic| first|exact .inl rfl|exact .inr rfl|assumption)
def top(i:Nat): Stmt:=PySem.Challenge.pw_oftentogether_k42_window.main.body.getD i (.Pass ⟨0,0,0,0⟩)
def q55(i j:Nat): Stmt:=match top i with | .ClassDef _ _ _ body _ _ _ _ _ _ _=>body.getD j (.Pass ⟨0,0,0,0⟩)|x=>x
section
variable[Lam]{P:Program}{w:World}{K:Frag}{mg:Str->Option Value}{base:Heap}
abbrev vj:Stmt:=top 2
noncomputable def q1t:List Str:=["thing"]
theorem q9a:(q1t).Nodup:=by decide +kernel
theorem q9b:FnScope q1t ["thing"] (qc vj):=⟨rfl,rfl,rfl,q9a,rfl,by decide +kernel,by decide +kernel⟩
noncomputable def q02:FS:=(za (yq (we .int (eV 0)) (yq (q6g (we .bool (eV 0))) (eOp oGe (eV 0) (eC (.int 0))))))
noncomputable def zu:List D->Option D:=zd 1 q02
theorem q3j{fa:Addr}{cdv:Value}{A:Around}{outer:List Env}{s:Shared}{H:Hp}{E:XK}(n_isinstance:mg "isinstance" = none)(n_int:mg "int" = none)(n_bool:mg "bool" = none)(hr:Room 0 (A.deeper (envOfC "is_number" (qc vj) s.heap.objs.size fa cdv))):
  PSs (zk CX0 P w K mg base q1t "is_number" (qc vj) fa cdv A outer s H E).nox (qo vj) (tDS K q02):=by
 unfold q02;refine(qj ?_);refine(qw ?_);refine(q08 ?_ (q08 ?_ (q25 ?_)));refine(q0b .int rfl n_isinstance rfl n_int DL.boot_int ?_);exact(q0 (pv 0));refine(qd4 ?_);refine(q0b .bool rfl n_isinstance rfl n_bool DL.boot_bool ?_);exact(q0 (pv 0));refine(q0y qg8 ?_ qe);exact(q0 (pv 0))
theorem q9c{fa:Addr}{dV:Value}{fd:FuncData}(F:Fun2 K "is_number" "is_number" vj dV fa fd)(n_isinstance:mg "isinstance" = none)(n_int:mg "int" = none)(n_bool:mg "bool" = none): FnOk P w K mg base CX0 1 fa fd ["thing"] (spD K 1 zu):=
 F.okn (k:=0) (n:=1) (ar:=1) (k1:=1) (u:=q02) q9b rfl rfl rfl fun cdv A outer s H E hr=>(by first|(with_reducible exact q3j n_isinstance n_int n_bool hr)|exact q3j n_isinstance n_int n_bool hr)
abbrev vk:Stmt:=top 3
noncomputable def q1u:List Str:=["thing","lowest","highest"]
theorem q9d:(q1u).Nodup:=by decide +kernel
theorem q9e:FnScope q1u ["thing","lowest","highest"] (qc vk):=⟨rfl,rfl,rfl,q9d,rfl,by decide +kernel,by decide +kernel⟩
noncomputable def yu:FS:=(za (yq (qg (qq 1 [] zu) (qa (eV 0) qf)) (q5s oLe oLe (eV 1) (eV 0) (eV 2))))
noncomputable def jj:List D->Option D:=zd 3 yu
theorem q3k{fa:Addr}{cdv:Value}{A:Around}{outer:List Env}{s:Shared}{H:Hp}{E:XK}{a_is_number:Addr}{fd_is_number:FuncData}(c_9:Cal P w K mg base "is_number" 1 ["thing"] 1 zu a_is_number fd_is_number)(b_9:Binds K fd_is_number ["thing"] [])(hr:Room 1 (A.deeper (envOfC "is_within" (qc vk) s.heap.objs.size fa cdv))):
  PSs (zk CX0 P w K mg base q1u "is_within" (qc vk) fa cdv A outer s H E).nox (qo vk) (tDS K yu):=by
 unfold yu;refine(qj ?_);refine(qw ?_);refine(q08 ?_ (q25 ?_));refine(z0 c_9 b_9 hr (by decide) rfl ?_);walk_at "A";exact(q0 (pv 0));exact qd;refine(qfe qg7 qg7 ?_ ?_ ?_);exact(q0 (pv 1));exact(q0 (pv 0));exact(q0 (pv 2))
theorem q9f{fa:Addr}{dV:Value}{fd:FuncData}(F:Fun2 K "is_within" "is_within" vk dV fa fd){a_is_number:Addr}{fd_is_number:FuncData}(c_9:Cal P w K mg base "is_number" 1 ["thing"] 1 zu a_is_number fd_is_number)(b_9:Binds K fd_is_number ["thing"] []): FnOk P w K mg base CX0 2 fa fd ["thing","lowest","highest"] (spD K 3 jj):=
 F.okn (k:=1) (n:=3) (ar:=3) (k1:=2) (u:=yu) q9e rfl rfl rfl fun cdv A outer s H E hr=>(by first|(with_reducible exact q3k c_9 b_9 hr)|exact q3k c_9 b_9 hr)
abbrev ze:Stmt:=q55 25 0
noncomputable def ke:List Str:=["self","wares","window"]
theorem nd_Store___init__:(ke).Nodup:=by decide +kernel
theorem q4e:FnScope ke ["self","wares","window"] (qc ze):=⟨rfl,rfl,rfl,nd_Store___init__,rfl,by decide +kernel,by decide +kernel⟩
noncomputable def v7:FS:=(qp (sIf (km (bT (qg (qq 3 [] jj) (qa (eV 1) (qa (eC (.int 0)) (qa (eC (.int 12)) qf)))))) q2a zt) (qp (sIf (q2j (zc (oIs true) (eV 2) (eC .non)) (km (bT (qg (qq 3 [] jj) (qa (eV 2) (qa (eC (.int 1)) (qa (eC (.int 1000000000000000)) qf))))))) q2a zt) (qp (q1l "Store" 0 "wares" (eV 1)) (qp (q1l "Store" 0 "window" (eV 2)) (q1l "Store" 0 "runs" (v3 qf))))))
noncomputable def x2:Flds->List D->Option (Flds×D):=yj 3 "Store" v7
theorem q4f[Pin]{fa:Addr}{cdv:Value}{A:Around}{outer:List Env}{s:Shared}{H:Hp}{E:XK}{C_Store:Addr}(O_Store:ClsF K "Store" C_Store ["wares","window","runs"]){a_is_within:Addr}{fd_is_within:FuncData}(c_12:Cal P w K mg base "is_within" 2 ["thing","lowest","highest"] 3 jj a_is_within fd_is_within)(b_12:Binds K fd_is_within ["thing","lowest","highest"] [])(g_MOST_WARES:∃t,mg "MOST_WARES" = some (.int 12 t))(g_MOST_WINDOW:∃t,mg "MOST_WINDOW" = some (.int 1000000000000000 t))(hr:Room 2 (A.deeper (envOfC "Store.__init__" (qc ze) s.heap.objs.size fa cdv))):
  PSs (zk CX0 P w K mg base ke "Store.__init__" (qc ze) fa cdv A outer s H E).nox (qo ze) (tDS K v7):=by
 unfold v7;refine(qi ?_ ?_);refine(j5 ?_ (qj q11) zh);refine(kn ?_);refine(vd ?_);refine(z0 c_12 b_12 hr (by decide) rfl ?_);walk_at "A";exact(q0 (pv 1));walk_at "A";exact qe;walk_at "A";exact(q29 rfl g_MOST_WARES);exact qd;refine(qi ?_ ?_);refine(j5 ?_ (qj q11) zh);refine(PW.pt (qd3 ?_ (qau ?_)));refine(zg (qfg rfl) ?_ q8n);exact(q0 (pv 2));refine(kn ?_);refine(vd ?_);refine(z0 c_12 b_12 hr (by decide) rfl ?_);walk_at "A";exact(q0 (pv 2));walk_at "A";exact qe;walk_at "A";exact(q29 rfl g_MOST_WINDOW);exact qd;refine(qi ?_ ?_);refine(q3i O_Store (by decide) (pv 0) ?_);exact(q0 (pv 1));refine(qi ?_ ?_);refine(q3i O_Store (by decide) (pv 0) ?_);exact(q0 (pv 2));refine(qj ?_);refine(q3i O_Store (by decide) (pv 0) ?_);exact(xh qd)
theorem q4g{fa:Addr}{dV:Value}{fd:FuncData}(F:Fun2 K "__init__" "Store.__init__" ze dV fa fd){C_Store:Addr}(O_Store:ClsF K "Store" C_Store ["wares","window","runs"]){a_is_within:Addr}{fd_is_within:FuncData}(c_12:Cal P w K mg base "is_within" 2 ["thing","lowest","highest"] 3 jj a_is_within fd_is_within)(b_12:Binds K fd_is_within ["thing","lowest","highest"] [])(g_MOST_WARES:∃t,mg "MOST_WARES" = some (.int 12 t))(g_MOST_WINDOW:∃t,mg "MOST_WINDOW" = some (.int 1000000000000000 t)): FnOk P w K mg base CX0 3 fa fd ["self","wares","window"] (wk K "Store" 2 x2):=
 F.okOB (c:="Store") (k:=2) (n:=3) (ar:=2) (k1:=3) (u:=v7) q4e rfl rfl rfl fun Pn cdv A outer s H E hr=>(by exact q4f O_Store c_12 b_12 g_MOST_WARES g_MOST_WINDOW hr)
abbrev xq:Stmt:=top 7
noncomputable def q13:List Str:=["one","other"]
theorem q7p:(q13).Nodup:=by decide +kernel
theorem q7q:FnScope q13 ["one","other"] (qc xq):=⟨rfl,rfl,rfl,q7p,rfl,by decide +kernel,by decide +kernel⟩
theorem q5u:(["ware","other"]:List Str).Nodup:=by decide +kernel
noncomputable def w4:FS:=(za (qg q51 (qa (eL (vz (k8 (eV 0)) [none,some 1] (bN 0) vy (eOp (oIn false) (eV 0) (eV 1)))) qf)))
noncomputable def xr:List D->Option D:=zd 2 w4
theorem q2z{fa:Addr}{cdv:Value}{A:Around}{outer:List Env}{s:Shared}{H:Hp}{E:XK}(n_all:mg "all" = none)(hr:Room 0 (A.deeper (envOfC "lies_below" (qc xq) s.heap.objs.size fa cdv))):
  PSs (zk CX0 P w K mg base q13 "lies_below" (qc xq) fa cdv A outer s H E).nox (qo xq) (tDS K w4):=by
 unfold w4;refine(qj ?_);refine(qw ?_);refine(qv (q8v rfl) rfl n_all DL.boot_all ?_);walk_at "A";refine(y6 ?_);refine(vh (N':=["ware","other"]) (cap:=[none,some 1]) rfl (xj rfl rfl) (ku rfl) ?_ (fun _ _ _ _ _=>(qx q5u rfl (Or.inl rfl) (.inr rfl))) (fun _ _ _ _ _=>q26) (fun _ _ _ _ _=>?_));refine(y9 ?_);exact(q0 (pv 0));refine(q0y qko ?_ ?_);exact(q0 (pv 0));exact(q0 (pv 1));exact qd
theorem q7r{fa:Addr}{dV:Value}{fd:FuncData}(F:Fun2 K "lies_below" "lies_below" xq dV fa fd)(n_all:mg "all" = none): FnOk P w K mg base CX0 1 fa fd ["one","other"] (spD K 2 xr):=
 F.okn (k:=0) (n:=2) (ar:=2) (k1:=1) (u:=w4) q7q rfl rfl rfl fun cdv A outer s H E hr=>(by first|(with_reducible exact q2z n_all hr)|exact q2z n_all hr)
abbrev q0s:Stmt:=top 12
noncomputable def q6n:List Str:=["pile","some"]
theorem qfm:(q6n).Nodup:=by decide +kernel
theorem qfn:FnScope q6n ["pile","some"] (qc q0s):=⟨rfl,rfl,rfl,qfm,rfl,by decide +kernel,by decide +kernel⟩
theorem q5v:(["many","basket","some"]:List Str).Nodup:=by decide +kernel
noncomputable def q48:FS:=(za (qg q3f (qa (eL (vz (k8 (eOp oIx (eV 0) (eC (.int 1)))) [none,none,some 1] (je 2 (qs (bN 0) (qs (bN 1) j6))) (bT (qg (qq 2 [] xr) (qa (eV 2) (qa (eV 1) qf)))) (eV 0))) qf)))
noncomputable def q2d:List D->Option D:=zd 2 q48
theorem q9g{fa:Addr}{cdv:Value}{A:Around}{outer:List Env}{s:Shared}{H:Hp}{E:XK}{a_lies_below:Addr}{fd_lies_below:FuncData}(c_23:Cal P w K mg base "lies_below" 1 ["one","other"] 2 xr a_lies_below fd_lies_below)(b_23:Binds K fd_lies_below ["one","other"] [])(n_sum:mg "sum" = none)(hr:Room 1 (A.deeper (envOfC "count" (qc q0s) s.heap.objs.size fa cdv))):
  PSs (zk CX0 P w K mg base q6n "count" (qc q0s) fa cdv A outer s H E).nox (qo q0s) (tDS K q48):=by
 unfold q48;refine(qj ?_);refine(qw ?_);refine(qv (q3g rfl) rfl n_sum DL.boot_sum ?_);walk_at "A";refine(y6 ?_);refine(vh (N':=["many","basket","some"]) (cap:=[none,none,some 1]) rfl (xj rfl rfl) (q0a (j7 rfl (j7 rfl kv))) ?_ (fun _ _ _ _ _=>(ko rfl (zb (qx q5v rfl (Or.inl rfl) (.inr rfl)) (zb (qx q5v rfl (Or.inl rfl) (.inr rfl)) y8)))) (fun _ _ _ _ _=>(q5m ?_)) (fun _ _ _ _ _=>?_));refine(y9 ?_);refine(y0 ?_ qe);exact(q0 (pv 0));refine(vd ?_);refine(z0 c_23 b_23 hr (by decide) rfl ?_);walk_at "A";exact(q0 (pv 2));walk_at "A";exact(q0 (pv 1));exact qd;exact(q0 (pv 0));exact qd
theorem qfo{fa:Addr}{dV:Value}{fd:FuncData}(F:Fun2 K "count" "count" q0s dV fa fd){a_lies_below:Addr}{fd_lies_below:FuncData}(c_23:Cal P w K mg base "lies_below" 1 ["one","other"] 2 xr a_lies_below fd_lies_below)(b_23:Binds K fd_lies_below ["one","other"] [])(n_sum:mg "sum" = none): FnOk P w K mg base CX0 2 fa fd ["pile","some"] (spD K 2 q2d):=
 F.okn (k:=1) (n:=2) (ar:=2) (k1:=2) (u:=q48) qfn rfl rfl rfl fun cdv A outer s H E hr=>(by first|(with_reducible exact q9g c_23 b_23 n_sum hr)|exact q9g c_23 b_23 n_sum hr)
abbrev ja:Stmt:=q55 25 5
noncomputable def q14:List Str:=["self"]
theorem q7s:(q14).Nodup:=by decide +kernel
theorem q7t:FnScope q14 ["self"] (qc ja):=⟨rfl,rfl,rfl,q7s,rfl,by decide +kernel,by decide +kernel⟩
noncomputable def w6:FS:=(za (v3 (qa (wo "Store" 0 "wares") (qa (wo "Store" 0 "runs") qf))))
noncomputable def jn:Flds->List D->Option (Flds×D):=yj 1 "Store" w6
theorem q7u[Pin]{fa:Addr}{cdv:Value}{A:Around}{outer:List Env}{s:Shared}{H:Hp}{E:XK}{C_Store:Addr}(O_Store:ClsF K "Store" C_Store ["wares","window","runs"])(hr:Room 0 (A.deeper (envOfC "Store.pile" (qc ja) s.heap.objs.size fa cdv))):
  PSs (zk CX0 P w K mg base q14 "Store.pile" (qc ja) fa cdv A outer s H E).nox (qo ja) (tDS K w6):=by
 unfold w6;refine(qj ?_);refine(qw ?_);refine(xh ?_);walk_at "A";exact(ky O_Store (by decide) (pv 0));walk_at "A";exact(ky O_Store (by decide) (pv 0));exact qd
theorem q7v{fa:Addr}{dV:Value}{fd:FuncData}(F:Fun2 K "pile" "Store.pile" ja dV fa fd){C_Store:Addr}(O_Store:ClsF K "Store" C_Store ["wares","window","runs"]): FnOk P w K mg base CX0 1 fa fd ["self"] (wk K "Store" 0 jn):=
 F.okOB (c:="Store") (k:=0) (n:=1) (ar:=0) (k1:=1) (u:=w6) q7t rfl rfl rfl fun Pn cdv A outer s H E hr=>(by exact q7u O_Store hr)
abbrev zx:Stmt:=q55 25 6
noncomputable def q0h:List Str:=["self","some"]
theorem q6o:(q0h).Nodup:=by decide +kernel
theorem q6p:FnScope q0h ["self","some"] (qc zx):=⟨rfl,rfl,rfl,q6o,rfl,by decide +kernel,by decide +kernel⟩
noncomputable def k5:FS:=(q89 (q0o (qq 2 [] q2d) (kz (kc "Store" "pile" 0 0 jn qf) (amP (qa (eV 1) qf)))))
noncomputable def vf:Flds->List D->Option (Flds×D):=yj 2 "Store" k5
theorem q6q[Pin]{fa:Addr}{cdv:Value}{A:Around}{outer:List Env}{s:Shared}{H:Hp}{E:XK}{C_Store:Addr}(O_Store:ClsF K "Store" C_Store ["wares","window","runs"]){a_count:Addr}{fd_count:FuncData}(c_8:Cal P w K mg base "count" 2 ["pile","some"] 2 q2d a_count fd_count)(b_8:Binds K fd_count ["pile","some"] []){a_Store_pile:Addr}{fd_Store_pile:FuncData}(c_3:CalF P w K mg base "Store" "pile" C_Store 1 ["self"] 0 jn a_Store_pile fd_Store_pile)(b_3:Binds K fd_Store_pile ["self"] [])(ca_count_piles:mg "count_piles" = some (.ref a_count))(hr:Room 2 (A.deeper (envOfC "Store.count" (qc zx) s.heap.objs.size fa cdv))):
  PSs (zk CX0 P w K mg base q0h "Store.count" (qc zx) fa cdv A outer s H E).nox (qo zx) (tDS K k5):=by
 unfold k5;refine(qj ?_);refine(qhf ?_);refine(q99 (c_8.as ca_count_piles) b_8 hr (by decide) rfl (q2b ?_ ?_));exact(qb5 O_Store c_3 b_3 hr (by decide) (pv 0));refine(q46 ?_);walk_at "A";exact(q0 (pv 1));exact qd
theorem q6r{fa:Addr}{dV:Value}{fd:FuncData}(F:Fun2 K "count" "Store.count" zx dV fa fd){C_Store:Addr}(O_Store:ClsF K "Store" C_Store ["wares","window","runs"]){a_count:Addr}{fd_count:FuncData}(c_8:Cal P w K mg base "count" 2 ["pile","some"] 2 q2d a_count fd_count)(b_8:Binds K fd_count ["pile","some"] []){a_Store_pile:Addr}{fd_Store_pile:FuncData}(c_3:CalF P w K mg base "Store" "pile" C_Store 1 ["self"] 0 jn a_Store_pile fd_Store_pile)(b_3:Binds K fd_Store_pile ["self"] [])(ca_count_piles:mg "count_piles" = some (.ref a_count)): FnOk P w K mg base CX0 3 fa fd ["self","some"] (wk K "Store" 1 vf):=
 F.okOB (c:="Store") (k:=2) (n:=2) (ar:=1) (k1:=3) (u:=k5) q6p rfl rfl rfl fun Pn cdv A outer s H E hr=>(by exact q6q O_Store c_8 b_8 c_3 b_3 ca_count_piles hr)
abbrev yk:Stmt:=top 27
noncomputable def q2q:List Str:=["_law_script","_law_k"]
theorem qa8:(q2q).Nodup:=by decide +kernel
theorem qa9:FnScope q2q ["_law_script","_law_k"] (qc yk):=⟨rfl,rfl,rfl,qa8,rfl,by decide +kernel,by decide +kernel⟩
noncomputable def yl:FS:=(qp (sIf (zc oLt' (eV 1) (qg jt (qa (eV 0) qf))) (za (eOp oIx (eV 0) (eV 1))) zt) (za (eC (.int 0))))
noncomputable def z8:List D->Option D:=zd 2 yl
theorem q4s{fa:Addr}{cdv:Value}{A:Around}{outer:List Env}{s:Shared}{H:Hp}{E:XK}(n_len:mg "len" = none)(hr:Room 0 (A.deeper (envOfC "_law_cell" (qc yk) s.heap.objs.size fa cdv))):
  PSs (zk CX0 P w K mg base q2q "_law_cell" (qc yk) fa cdv A outer s H E).nox (qo yk) (tDS K yl):=by
 unfold yl;refine(qi ?_ ?_);refine(j5 ?_ (qj ?_) zh);refine(zg q3h ?_ ?_);exact(q0 (pv 1));refine(qv (yb) rfl n_len DL.jm ?_);walk_at "A";exact(q0 (pv 0));exact qd;refine(qw ?_);refine(y0 ?_ ?_);exact(q0 (pv 0));exact(q0 (pv 1));refine(qj ?_);exact(qw qe)
theorem qaa{fa:Addr}{dV:Value}{fd:FuncData}(F:Fun2 K "_law_cell" "_law_cell" yk dV fa fd)(n_len:mg "len" = none): FnOk P w K mg base CX0 1 fa fd ["_law_script","_law_k"] (spD K 2 z8):=
 F.okn (k:=0) (n:=2) (ar:=2) (k1:=1) (u:=yl) qa9 rfl rfl rfl fun cdv A outer s H E hr=>(by first|(with_reducible exact q4s n_len hr)|exact q4s n_len hr)
abbrev vm:Stmt:=top 28
noncomputable def q1v:List Str:=["_law_cell_here","_law_k","_law_first","_law_second"]
theorem q15:(q1v).Nodup:=by decide +kernel
theorem q9h:FnScope q1v ["_law_cell_here","_law_k"] (qc vm):=⟨rfl,rfl,rfl,q15,rfl,by decide +kernel,by decide +kernel⟩
noncomputable def yw:FS:=(qp (zo 2 (eOp oMod (eOp jc (eOp jc (eOp j9 (eOp oMod (eV 0) (eC (.int 2147483629))) (eC (.int 48271))) (eOp j9 (eOp j9 (eV 1) (eV 1)) (eC (.int 7919)))) (eC (.int 104729))) (eC (.int 2147483647)))) (qp (zo 3 (eOp oMod (eOp j9 (eV 2) (eV 2)) (eC (.int 2147483629)))) (za (eOp oMod (eOp j9 (eOp oMod (eOp jc (eOp jc (eOp j9 (eV 3) (eC (.int 69621))) (eOp j9 (eV 1) (eC (.int 40692)))) (eC (.int 7))) (eC (.int 2147483587))) (eV 3)) (eC (.int 2147483579))))))
noncomputable def j8:List D->Option D:=zd 4 yw
theorem q3l{fa:Addr}{cdv:Value}{A:Around}{outer:List Env}{s:Shared}{H:Hp}{E:XK}(hr:Room 0 (A.deeper (envOfC "_law_mixed" (qc vm) s.heap.objs.size fa cdv))):
  PSs (zk CX0 P w K mg base q1v "_law_mixed" (qc vm) fa cdv A outer s H E).nox (qo vm) (tDS K yw):=by
 unfold yw;refine(qi ?_ ?_);refine(zq (i:=2) ?_ ?_ ?_ ?_ ?_ ?_);exact q15;exact rfl;exact(Or.inl rfl);refine(qm zm ?_ qe);refine(qm js ?_ qe);refine(qm js ?_ ?_);refine(qm yf ?_ qe);refine(qm zm ?_ qe);exact(q0 (pv 0));refine(qm yf ?_ qe);refine(qm yf ?_ ?_);exact(q0 (pv 1));exact(q0 (pv 1));exact rfl;walk_at "L";refine(qi ?_ ?_);refine(zq (i:=3) ?_ ?_ ?_ ?_ ?_ ?_);exact q15;exact rfl;exact(Or.inl rfl);refine(qm zm ?_ qe);refine(qm yf ?_ ?_);exact(q0 (pv 2));exact(q0 (pv 2));exact rfl;walk_at "L";refine(qj ?_);refine(qw ?_);refine(qm zm ?_ qe);refine(qm yf ?_ ?_);refine(qm zm ?_ qe);refine(qm js ?_ qe);refine(qm js ?_ ?_);refine(qm yf ?_ qe);exact(q0 (pv 3));refine(qm yf ?_ qe);exact(q0 (pv 1));exact(q0 (pv 3))
theorem q9i{fa:Addr}{dV:Value}{fd:FuncData}(F:Fun2 K "_law_mixed" "_law_mixed" vm dV fa fd): FnOk P w K mg base CX0 1 fa fd ["_law_cell_here","_law_k"] (spD K 2 j8):=
 F.okn (k:=0) (n:=4) (ar:=2) (k1:=1) (u:=yw) q9h rfl rfl rfl fun cdv A outer s H E hr=>(by first|(with_reducible exact q3l  hr)|exact q3l  hr)
abbrev jf:Stmt:=top 29
noncomputable def kf:List Str:=["_law_script"]
theorem q4h:(kf).Nodup:=by decide +kernel
theorem q4i:FnScope kf ["_law_script"] (qc jf):=⟨rfl,rfl,rfl,q4h,rfl,by decide +kernel,by decide +kernel⟩
noncomputable def jg:FS:=(qp (sIf (zc oEq (eOp oMod (qg (qq 2 [] z8) (qa (eV 0) (qa (eC (.int 0)) qf))) (eC (.int 2))) (eC (.int 0))) (za (qg oMax (qa (eC (.int 0)) (qa (qg oMin (qa (eOp oSub (qg jt (qa (eV 0) qf)) (eC (.int 1))) (qa (eC (.int 62)) qf))) qf)))) zt) (za (eOp jc (eC (.int 5)) (eOp oMod (qg (qq 2 [] j8) (qa (qg (qq 2 [] z8) (qa (eV 0) (qa (eC (.int 0)) qf))) (qa (eC (.int 3)) qf))) (eC (.int 16))))))
noncomputable def zy:List D->Option D:=zd 1 jg
theorem q0j{fa:Addr}{cdv:Value}{A:Around}{outer:List Env}{s:Shared}{H:Hp}{E:XK}{a__law_cell:Addr}{fd__law_cell:FuncData}(c_13:Cal P w K mg base "_law_cell" 1 ["_law_script","_law_k"] 2 z8 a__law_cell fd__law_cell)(b_13:Binds K fd__law_cell ["_law_script","_law_k"] []){a__law_mixed:Addr}{fd__law_mixed:FuncData}(c_16:Cal P w K mg base "_law_mixed" 1 ["_law_cell_here","_law_k"] 2 j8 a__law_mixed fd__law_mixed)(b_16:Binds K fd__law_mixed ["_law_cell_here","_law_k"] [])(n_max:mg "max" = none)(n_min:mg "min" = none)(n_len:mg "len" = none)(hr:Room 1 (A.deeper (envOfC "_law_many_deeds" (qc jf) s.heap.objs.size fa cdv))):
  PSs (zk CX0 P w K mg base kf "_law_many_deeds" (qc jf) fa cdv A outer s H E).nox (qo jf) (tDS K jg):=by
 unfold jg;refine(qi ?_ ?_);refine(j5 ?_ (qj ?_) zh);refine(zg (q0n hr.units) ?_ qe);refine(qm zm ?_ qe);refine(z0 c_13 b_13 hr (by decide) rfl ?_);walk_at "A";exact(q0 (pv 0));walk_at "A";exact qe;exact qd;refine(qw ?_);refine(qv (q5r rfl) rfl n_max DL.boot_max ?_);walk_at "A";exact qe;walk_at "A";refine(qv (q28 rfl) rfl n_min DL.boot_min ?_);walk_at "A";refine(qm kl ?_ qe);refine(qv (yb) rfl n_len DL.jm ?_);walk_at "A";exact(q0 (pv 0));exact qd;walk_at "A";exact qe;exact qd;exact qd;refine(qj ?_);refine(qw ?_);refine(qm js qe ?_);refine(qm zm ?_ qe);refine(z0 c_16 b_16 hr (by decide) rfl ?_);walk_at "A";refine(z0 c_13 b_13 hr (by decide) rfl ?_);walk_at "A";exact(q0 (pv 0));walk_at "A";exact qe;exact qd;walk_at "A";exact qe;exact qd
theorem q4j{fa:Addr}{dV:Value}{fd:FuncData}(F:Fun2 K "_law_many_deeds" "_law_many_deeds" jf dV fa fd){a__law_cell:Addr}{fd__law_cell:FuncData}(c_13:Cal P w K mg base "_law_cell" 1 ["_law_script","_law_k"] 2 z8 a__law_cell fd__law_cell)(b_13:Binds K fd__law_cell ["_law_script","_law_k"] []){a__law_mixed:Addr}{fd__law_mixed:FuncData}(c_16:Cal P w K mg base "_law_mixed" 1 ["_law_cell_here","_law_k"] 2 j8 a__law_mixed fd__law_mixed)(b_16:Binds K fd__law_mixed ["_law_cell_here","_law_k"] [])(n_max:mg "max" = none)(n_min:mg "min" = none)(n_len:mg "len" = none): FnOk P w K mg base CX0 2 fa fd ["_law_script"] (spD K 1 zy):=
 F.okn (k:=1) (n:=1) (ar:=1) (k1:=2) (u:=jg) q4i rfl rfl rfl fun cdv A outer s H E hr=>(by first|(with_reducible exact q0j c_13 b_13 c_16 b_16 n_max n_min n_len hr)|exact q0j c_13 b_13 c_16 b_16 n_max n_min n_len hr)
abbrev kj:Stmt:=top 31
noncomputable def q3m:List Str:=["_law_mark","_law_wares"]
theorem qc3:(q3m).Nodup:=by decide +kernel
theorem qc4:FnScope q3m ["_law_mark","_law_wares"] (qc kj):=⟨rfl,rfl,rfl,qc3,rfl,by decide +kernel,by decide +kernel⟩
theorem q9j:(["_law_ware","_law_mark"]:List Str).Nodup:=by decide +kernel
noncomputable def q1m:FS:=(za (qg kx (qa (eL (vz (iR1 (qa (eV 1) qf)) [none,some 0] (bN 0) (zc oEq (eOp oMod (eOp oDivB (eV 1) (eOp oIx (eL (v5 (qa (eC (.int 1)) (qa (eC (.int 2)) (qa (eC (.int 4)) (qa (eC (.int 8)) (qa (eC (.int 16)) (qa (eC (.int 32)) qf)))))))) (eV 0))) (eC (.int 2))) (eC (.int 1))) (eV 0))) qf)))
noncomputable def q0d:List D->Option D:=zd 2 q1m
theorem q5w{fa:Addr}{cdv:Value}{A:Around}{outer:List Env}{s:Shared}{H:Hp}{E:XK}(n_tuple:mg "tuple" = none)(n_range:mg "range" = none)(hr:Room 0 (A.deeper (envOfC "_law_set" (qc kj) s.heap.objs.size fa cdv))):
  PSs (zk CX0 P w K mg base q3m "_law_set" (qc kj) fa cdv A outer s H E).nox (qo kj) (tDS K q1m):=by
 unfold q1m;refine(qj ?_);refine(qw ?_);refine(q09 (q10) rfl n_tuple DL.boot_tuple ?_);walk_at "A";refine(y6 ?_);refine(vh (N':=["_law_ware","_law_mark"]) (cap:=[none,some 0]) rfl (xj rfl rfl) (ku rfl) ?_ (fun _ _ _ _ _=>(qx q9j rfl (Or.inl rfl) (.inr rfl))) (fun _ _ _ _ _=>(q5m ?_)) (fun _ _ _ _ _=>?_));refine(q77 rfl n_range ?_);walk_at "A";exact(q0 (pv 1));exact qd;refine(zg (q0n hr.units) ?_ qe);refine(qm zm ?_ qe);refine(qm qb4 ?_ ?_);exact(q0 (pv 1));refine(y0 ?_ ?_);refine(y6 ?_);refine(ve ?_);walk_at "A";exact qe;walk_at "A";exact qe;walk_at "A";exact qe;walk_at "A";exact qe;walk_at "A";exact qe;walk_at "A";exact qe;exact qd;exact(q0 (pv 0));exact(q0 (pv 0));exact qd
theorem qc5{fa:Addr}{dV:Value}{fd:FuncData}(F:Fun2 K "_law_set" "_law_set" kj dV fa fd)(n_tuple:mg "tuple" = none)(n_range:mg "range" = none): FnOk P w K mg base CX0 1 fa fd ["_law_mark","_law_wares"] (spD K 2 q0d):=
 F.okn (k:=0) (n:=2) (ar:=2) (k1:=1) (u:=q1m) qc4 rfl rfl rfl fun cdv A outer s H E hr=>(by first|(with_reducible exact q5w n_tuple n_range hr)|exact q5w n_tuple n_range hr)
abbrev vn:Stmt:=top 32
noncomputable def q1w:List Str:=["_law_runs","_law_basket"]
theorem q9k:(q1w).Nodup:=by decide +kernel
theorem q9l:FnScope q1w ["_law_runs","_law_basket"] (qc vn):=⟨rfl,rfl,rfl,q9k,rfl,by decide +kernel,by decide +kernel⟩
theorem q2e:(["_law_many","_law_other","_law_basket"]:List Str).Nodup:=by decide +kernel
noncomputable def q03:FS:=(za (qg q3f (qa (eL (vz (k8 (eV 0)) [none,none,some 1] (je 2 (qs (bN 0) (qs (bN 1) j6))) (zc oEq (eV 1) (eV 2)) (eV 0))) qf)))
noncomputable def vo:List D->Option D:=zd 2 q03
theorem q3n{fa:Addr}{cdv:Value}{A:Around}{outer:List Env}{s:Shared}{H:Hp}{E:XK}(n_sum:mg "sum" = none)(hr:Room 0 (A.deeper (envOfC "_law_there" (qc vn) s.heap.objs.size fa cdv))):
  PSs (zk CX0 P w K mg base q1w "_law_there" (qc vn) fa cdv A outer s H E).nox (qo vn) (tDS K q03):=by
 unfold q03;refine(qj ?_);refine(qw ?_);refine(qv (q3g rfl) rfl n_sum DL.boot_sum ?_);walk_at "A";refine(y6 ?_);refine(vh (N':=["_law_many","_law_other","_law_basket"]) (cap:=[none,none,some 1]) rfl (xj rfl rfl) (q0a (j7 rfl (j7 rfl kv))) ?_ (fun _ _ _ _ _=>(ko rfl (zb (qx q2e rfl (Or.inl rfl) (.inr rfl)) (zb (qx q2e rfl (Or.inl rfl) (.inr rfl)) y8)))) (fun _ _ _ _ _=>(q5m ?_)) (fun _ _ _ _ _=>?_));refine(y9 ?_);exact(q0 (pv 0));refine(zg (q0n hr.units) ?_ ?_);exact(q0 (pv 1));exact(q0 (pv 2));exact(q0 (pv 0));exact qd
theorem q9m{fa:Addr}{dV:Value}{fd:FuncData}(F:Fun2 K "_law_there" "_law_there" vn dV fa fd)(n_sum:mg "sum" = none): FnOk P w K mg base CX0 1 fa fd ["_law_runs","_law_basket"] (spD K 2 vo):=
 F.okn (k:=0) (n:=2) (ar:=2) (k1:=1) (u:=q03) q9l rfl rfl rfl fun cdv A outer s H E hr=>(by first|(with_reducible exact q3n n_sum hr)|exact q3n n_sum hr)
abbrev ym:Stmt:=top 33
noncomputable def q2r:List Str:=["_law_number_here","_law_wares","_law_runs","_law_basket","_law_rest","_law_many"]
theorem vp:(q2r).Nodup:=by decide +kernel
theorem qab:FnScope q2r ["_law_number_here","_law_wares","_law_runs"] (qc ym):=⟨rfl,rfl,rfl,vp,rfl,by decide +kernel,by decide +kernel⟩
noncomputable def q0p:FS:=(qp (zo 3 (qg (qq 2 [] q0d) (qa (eOp oMod (eOp oDiv (eV 0) (eC (.int 8))) (eC (.int 64))) (qa (eV 1) qf)))) (qp (zo 4 (eOp oDiv (eV 0) (eC (.int 8192)))) (qp (zo 5 (eOp jc (eC (.int 1)) (eOp oMod (eV 4) (eOp oIx (eL (v5 (qa (eC (.int 9)) (qa (eC (.int 9)) (qa (eC (.int 60)) (qa (eOp oPow (eC (.int 10)) (eC (.int 12))) qf)))))) (eOp oMod (eOp oDiv (eV 0) (eC (.int 512))) (eC (.int 4))))))) (qp (sIf (q2j (zc oGt (qg jt (qa (eV 2) qf)) (eC (.int 0))) (bOr (zc oGt (eOp oMod (eV 0) (eC (.int 8))) (eC (.int 5))) (zc oEq (eOp oMod (eOp oDiv (eV 0) (eC (.int 2048))) (eC (.int 4))) (eC (.int 0))))) (qp (zo 3 (eOp oIx (eOp oIx (eV 2) (eOp oMod (eV 4) (qg jt (qa (eV 2) qf)))) (eC (.int 1)))) (sIf (zc oGt (eOp oMod (eV 0) (eC (.int 8))) (eC (.int 5))) (zo 5 (qg oMin (qa (eOp oPow (eC (.int 10)) (eC (.int 12))) (qa (eOp jc (eC (.int 1)) (eOp oMod (eOp oDivB (eV 4) (qg jt (qa (eV 2) qf))) (qg (qq 2 [] vo) (qa (eV 2) (qa (eV 3) qf))))) qf)))) zt)) zt) (za (eL (v5 (qa (yq (eOp oGt (eOp oMod (eV 0) (eC (.int 8))) (eC (.int 5))) (eOp oGt (qg jt (qa (eV 2) qf)) (eC (.int 0)))) (qa (eV 5) (qa (eV 3) qf))))))))))
noncomputable def w8:List D->Option D:=zd 6 q0p
theorem q4t{fa:Addr}{cdv:Value}{A:Around}{outer:List Env}{s:Shared}{H:Hp}{E:XK}{a__law_set:Addr}{fd__law_set:FuncData}(c_20:Cal P w K mg base "_law_set" 1 ["_law_mark","_law_wares"] 2 q0d a__law_set fd__law_set)(b_20:Binds K fd__law_set ["_law_mark","_law_wares"] []){a__law_there:Addr}{fd__law_there:FuncData}(c_22:Cal P w K mg base "_law_there" 1 ["_law_runs","_law_basket"] 2 vo a__law_there fd__law_there)(b_22:Binds K fd__law_there ["_law_runs","_law_basket"] [])(n_len:mg "len" = none)(n_min:mg "min" = none)(hr:Room 1 (A.deeper (envOfC "_law_deed" (qc ym) s.heap.objs.size fa cdv))):
  PSs (zk CX0 P w K mg base q2r "_law_deed" (qc ym) fa cdv A outer s H E).nox (qo ym) (tDS K q0p):=by
 unfold q0p;refine(qi ?_ ?_);refine(zq (i:=3) ?_ ?_ ?_ ?_ ?_ ?_);exact vp;exact rfl;exact(Or.inl rfl);refine(z0 c_20 b_20 hr (by decide) rfl ?_);walk_at "A";refine(qm zm ?_ qe);refine(qm q0x ?_ qe);exact(q0 (pv 0));walk_at "A";exact(q0 (pv 1));exact qd;exact rfl;walk_at "L";refine(qi ?_ ?_);refine(zq (i:=4) ?_ ?_ ?_ ?_ ?_ ?_);exact vp;exact rfl;exact(Or.inl rfl);refine(qm q0x ?_ qe);exact(q0 (pv 0));exact rfl;walk_at "L";refine(qi ?_ ?_);refine(zq (i:=5) ?_ ?_ ?_ ?_ ?_ ?_);exact vp;exact rfl;exact(Or.inl rfl);refine(qm js qe ?_);refine(qm zm ?_ ?_);exact(q0 (pv 4));refine(y0 ?_ ?_);refine(y6 ?_);refine(ve ?_);walk_at "A";exact qe;walk_at "A";exact qe;walk_at "A";exact qe;walk_at "A";exact(qm q5k qe qe);exact qd;refine(qm zm ?_ qe);refine(qm q0x ?_ qe);exact(q0 (pv 0));exact rfl;walk_at "L";refine(qi ?_ ?_);refine(j5 ?_ (qi ?_ ?_) zh);refine(PW.pt (qd3 ?_ (qau ?_)));refine(zg q01 ?_ qe);refine(qv (yb) rfl n_len DL.jm ?_);walk_at "A";exact(q0 (pv 2));exact qd;refine(PW.pt (q5l ?_ (q38 ?_)));refine(zg q01 ?_ qe);refine(qm zm ?_ qe);exact(q0 (pv 0));refine(zg (q0n hr.units) ?_ qe);refine(qm zm ?_ qe);refine(qm q0x ?_ qe);exact(q0 (pv 0));refine(zq (i:=3) ?_ ?_ ?_ ?_ ?_ ?_);exact vp;exact rfl;exact(Or.inl rfl);refine(y0 ?_ qe);refine(y0 ?_ ?_);exact(q0 (pv 2));refine(qm zm ?_ ?_);exact(q0 (pv 4));refine(qv (yb) rfl n_len DL.jm ?_);walk_at "A";exact(q0 (pv 2));exact qd;exact rfl;walk_at "L";refine(qj ?_);refine(j5 ?_ (qj ?_) zh);refine(zg q01 ?_ qe);refine(qm zm ?_ qe);exact(q0 (pv 0));refine(zq (i:=5) ?_ ?_ ?_ ?_ ?_ ?_);exact vp;exact rfl;exact(Or.inl rfl);refine(qv (q28 rfl) rfl n_min DL.boot_min ?_);walk_at "A";exact(qm q5k qe qe);walk_at "A";refine(qm js qe ?_);refine(qm zm ?_ ?_);refine(qm qb4 ?_ ?_);exact(q0 (pv 4));refine(qv (yb) rfl n_len DL.jm ?_);walk_at "A";exact(q0 (pv 2));exact qd;refine(z0 c_22 b_22 hr (by decide) rfl ?_);walk_at "A";exact(q0 (pv 2));walk_at "A";exact(q0 (pv 3));exact qd;exact qd;exact rfl;walk_at "L";refine(qj ?_);refine(qw ?_);refine(y6 ?_);refine(ve ?_);walk_at "A";refine(q08 ?_ (q25 ?_));refine(q0y q01 ?_ qe);refine(qm zm ?_ qe);exact(q0 (pv 0));refine(q0y q01 ?_ qe);refine(qv (yb) rfl n_len DL.jm ?_);walk_at "A";exact(q0 (pv 2));exact qd;walk_at "A";exact(q0 (pv 5));walk_at "A";exact(q0 (pv 3));exact qd
theorem qac{fa:Addr}{dV:Value}{fd:FuncData}(F:Fun2 K "_law_deed" "_law_deed" ym dV fa fd){a__law_set:Addr}{fd__law_set:FuncData}(c_20:Cal P w K mg base "_law_set" 1 ["_law_mark","_law_wares"] 2 q0d a__law_set fd__law_set)(b_20:Binds K fd__law_set ["_law_mark","_law_wares"] []){a__law_there:Addr}{fd__law_there:FuncData}(c_22:Cal P w K mg base "_law_there" 1 ["_law_runs","_law_basket"] 2 vo a__law_there fd__law_there)(b_22:Binds K fd__law_there ["_law_runs","_law_basket"] [])(n_len:mg "len" = none)(n_min:mg "min" = none): FnOk P w K mg base CX0 2 fa fd ["_law_number_here","_law_wares","_law_runs"] (spD K 3 w8):=
 F.okn (k:=1) (n:=6) (ar:=3) (k1:=2) (u:=q0p) qab rfl rfl rfl fun cdv A outer s H E hr=>(by first|(with_reducible exact q4t c_20 b_20 c_22 b_22 n_len n_min hr)|exact q4t c_20 b_20 c_22 b_22 n_len n_min hr)
abbrev v8:Stmt:=top 6
noncomputable def q56:List Str:=["thing","wares","bound"]
theorem nd_is_set:(q56).Nodup:=by decide +kernel
theorem qdp:FnScope q56 ["thing","wares"] (qc v8):=⟨rfl,rfl,rfl,nd_is_set,rfl,by decide +kernel,by decide +kernel⟩
theorem qad:(["ware","bound"]:List Str).Nodup:=by decide +kernel
theorem q4u:(["lower","higher"]:List Str).Nodup:=by decide +kernel
noncomputable def q2s:FS:=(qp (sIf (km (bT (we .tuple (eV 0)))) (za (eC (.bl false))) zt) (qp (zo 2 (qg oMin (qa (eV 1) (qa (eC (.int 12)) qf)))) (qp (sIf (km (bT (qg q51 (qa (eL (vz (k8 (eV 0)) [none,some 2] (bN 0) vy (yq (qg (qq 1 [] zu) (qa (eV 0) qf)) (eOp oLt' (eV 0) (eV 1))))) qf)))) (za (eC (.bl false))) zt) (za (qg q51 (qa (eL (vz (q6j (qa (eV 0) (qa (eSl (eV 0) (oAt (eC (.int 1))) oNo) qf))) [none,none] (je 2 (qs (bN 0) (qs (bN 1) j6))) vy (eOp oLt' (eV 0) (eV 1)))) qf))))))
noncomputable def q16:List D->Option D:=zd 3 q2s
theorem q7c{fa:Addr}{cdv:Value}{A:Around}{outer:List Env}{s:Shared}{H:Hp}{E:XK}{a_is_number:Addr}{fd_is_number:FuncData}(c_9:Cal P w K mg base "is_number" 1 ["thing"] 1 zu a_is_number fd_is_number)(b_9:Binds K fd_is_number ["thing"] [])(n_min:mg "min" = none)(n_all:mg "all" = none)(n_isinstance:mg "isinstance" = none)(n_tuple:mg "tuple" = none)(n_zip:mg "zip" = none)(g_MOST_WARES:∃t,mg "MOST_WARES" = some (.int 12 t))(hr:Room 1 (A.deeper (envOfC "is_set" (qc v8) s.heap.objs.size fa cdv))):
  PSs (zk CX0 P w K mg base q56 "is_set" (qc v8) fa cdv A outer s H E).nox (qo v8) (tDS K q2s):=by
 unfold q2s;refine(qi ?_ ?_);refine(j5 ?_ (qj ?_) zh);refine(kn ?_);refine(vd ?_);refine(q0b .tuple rfl n_isinstance rfl n_tuple DL.boot_tuple ?_);exact(q0 (pv 0));exact(qw q00);refine(qi ?_ ?_);refine(zq (i:=2) ?_ ?_ ?_ ?_ ?_ ?_);exact nd_is_set;exact rfl;exact(Or.inr rfl);refine(qv (q28 rfl) rfl n_min DL.boot_min ?_);walk_at "A";exact(q0 (pv 1));walk_at "A";exact(q29 rfl g_MOST_WARES);exact qd;exact rfl;walk_at "L";refine(qi ?_ ?_);refine(j5 ?_ (qj ?_) zh);refine(kn ?_);refine(vd ?_);refine(qv (q8v rfl) rfl n_all DL.boot_all ?_);walk_at "A";refine(y6 ?_);refine(vh (N':=["ware","bound"]) (cap:=[none,some 2]) rfl (xj rfl rfl) (ku rfl) ?_ (fun _ _ _ _ _=>(qx qad rfl (Or.inl rfl) (.inr rfl))) (fun _ _ _ _ _=>q26) (fun _ _ _ _ _=>?_));refine(y9 ?_);exact(q0 (pv 0));refine(q08 ?_ (q25 ?_));refine(z0 c_9 b_9 hr (by decide) rfl ?_);walk_at "A";exact(q0 (pv 0));exact qd;refine(q0y q3h ?_ ?_);exact(q0 (pv 0));exact(q0 (pv 1));exact qd;exact(qw q00);refine(qj ?_);refine(qw ?_);refine(qv (q8v rfl) rfl n_all DL.boot_all ?_);walk_at "A";refine(y6 ?_);refine(vh (N':=["lower","higher"]) (cap:=[none,none]) rfl (xj rfl rfl) (q0a (j7 rfl (j7 rfl kv))) ?_ (fun _ _ _ _ _=>(ko rfl (zb (qx q4u rfl (Or.inl rfl) (.inr rfl)) (zb (qx q4u rfl (Or.inl rfl) (.inr rfl)) y8)))) (fun _ _ _ _ _=>q26) (fun _ _ _ _ _=>?_));refine(qde rfl n_zip ?_);walk_at "A";exact(q0 (pv 0));walk_at "A";refine(qf9 ?_ (qf8 qe) qf7);exact(q0 (pv 0));exact qd;refine(q0y q3h ?_ ?_);exact(q0 (pv 0));exact(q0 (pv 1));exact qd
theorem qdq{fa:Addr}{dV:Value}{fd:FuncData}(F:Fun2 K "is_set" "is_set" v8 dV fa fd){a_is_number:Addr}{fd_is_number:FuncData}(c_9:Cal P w K mg base "is_number" 1 ["thing"] 1 zu a_is_number fd_is_number)(b_9:Binds K fd_is_number ["thing"] [])(n_min:mg "min" = none)(n_all:mg "all" = none)(n_isinstance:mg "isinstance" = none)(n_tuple:mg "tuple" = none)(n_zip:mg "zip" = none)(g_MOST_WARES:∃t,mg "MOST_WARES" = some (.int 12 t)): FnOk P w K mg base CX0 2 fa fd ["thing","wares"] (spD K 2 q16):=
 F.okn (k:=1) (n:=3) (ar:=2) (k1:=2) (u:=q2s) qdp rfl rfl rfl fun cdv A outer s H E hr=>(by first|(with_reducible exact q7c c_9 b_9 n_min n_all n_isinstance n_tuple n_zip g_MOST_WARES hr)|exact q7c c_9 b_9 n_min n_all n_isinstance n_tuple n_zip g_MOST_WARES hr)
abbrev wq:Stmt:=top 11
noncomputable def q57:List Str:=["thing","wares"]
theorem qdr:(q57).Nodup:=by decide +kernel
theorem qds:FnScope q57 ["thing","wares"] (qc wq):=⟨rfl,rfl,rfl,qdr,rfl,by decide +kernel,by decide +kernel⟩
noncomputable def q17:FS:=(qp (sIf (bOr (km (bT (we .tuple (eV 0)))) (zc q8p (qg jt (qa (eV 0) qf)) (eC (.int 2)))) (za (eC (.bl false))) zt) (za (yq (qg (qq 3 [] jj) (qa (eOp oIx (eV 0) (eC (.int 0))) (qa (eC (.int 1)) (qa (eC (.int 1000000000000)) qf)))) (qg (qq 2 [] q16) (qa (eOp oIx (eV 0) (eC (.int 1))) (qa (eV 1) qf))))))
noncomputable def q18:List D->Option D:=zd 2 q17
theorem q7d{fa:Addr}{cdv:Value}{A:Around}{outer:List Env}{s:Shared}{H:Hp}{E:XK}{a_is_within:Addr}{fd_is_within:FuncData}(c_12:Cal P w K mg base "is_within" 2 ["thing","lowest","highest"] 3 jj a_is_within fd_is_within)(b_12:Binds K fd_is_within ["thing","lowest","highest"] []){a_is_set:Addr}{fd_is_set:FuncData}(c_11:Cal P w K mg base "is_set" 2 ["thing","wares"] 2 q16 a_is_set fd_is_set)(b_11:Binds K fd_is_set ["thing","wares"] [])(n_isinstance:mg "isinstance" = none)(n_tuple:mg "tuple" = none)(n_len:mg "len" = none)(g_MOST_MANY:∃t,mg "MOST_MANY" = some (.int 1000000000000 t))(hr:Room 2 (A.deeper (envOfC "is_run" (qc wq) s.heap.objs.size fa cdv))):
  PSs (zk CX0 P w K mg base q57 "is_run" (qc wq) fa cdv A outer s H E).nox (qo wq) (tDS K q17):=by
 unfold q17;refine(qi ?_ ?_);refine(j5 ?_ (qj ?_) zh);refine(PW.pt (q5l ?_ (q38 ?_)));refine(kn ?_);refine(vd ?_);refine(q0b .tuple rfl n_isinstance rfl n_tuple DL.boot_tuple ?_);exact(q0 (pv 0));refine(zg qd0 ?_ qe);refine(qv (yb) rfl n_len DL.jm ?_);walk_at "A";exact(q0 (pv 0));exact qd;exact(qw q00);refine(qj ?_);refine(qw ?_);refine(q08 ?_ (q25 ?_));refine(z0 c_12 b_12 hr (by decide) rfl ?_);walk_at "A";refine(y0 ?_ qe);exact(q0 (pv 0));walk_at "A";exact qe;walk_at "A";exact(q29 rfl g_MOST_MANY);exact qd;refine(z0 c_11 b_11 hr (by decide) rfl ?_);walk_at "A";refine(y0 ?_ qe);exact(q0 (pv 0));walk_at "A";exact(q0 (pv 1));exact qd
theorem qdt{fa:Addr}{dV:Value}{fd:FuncData}(F:Fun2 K "is_run" "is_run" wq dV fa fd){a_is_within:Addr}{fd_is_within:FuncData}(c_12:Cal P w K mg base "is_within" 2 ["thing","lowest","highest"] 3 jj a_is_within fd_is_within)(b_12:Binds K fd_is_within ["thing","lowest","highest"] []){a_is_set:Addr}{fd_is_set:FuncData}(c_11:Cal P w K mg base "is_set" 2 ["thing","wares"] 2 q16 a_is_set fd_is_set)(b_11:Binds K fd_is_set ["thing","wares"] [])(n_isinstance:mg "isinstance" = none)(n_tuple:mg "tuple" = none)(n_len:mg "len" = none)(g_MOST_MANY:∃t,mg "MOST_MANY" = some (.int 1000000000000 t)): FnOk P w K mg base CX0 3 fa fd ["thing","wares"] (spD K 2 q18):=
 F.okn (k:=2) (n:=2) (ar:=2) (k1:=3) (u:=q17) qds rfl rfl rfl fun cdv A outer s H E hr=>(by first|(with_reducible exact q7d c_12 b_12 c_11 b_11 n_isinstance n_tuple n_len g_MOST_MANY hr)|exact q7d c_12 b_12 c_11 b_11 n_isinstance n_tuple n_len g_MOST_MANY hr)
abbrev z9:Stmt:=q55 25 3
noncomputable def yt:List Str:=["self","many","basket"]
theorem q3o:(yt).Nodup:=by decide +kernel
theorem q3p:FnScope yt ["self","many","basket"] (qc z9):=⟨rfl,rfl,rfl,q3o,rfl,by decide +kernel,by decide +kernel⟩
noncomputable def xm:FS:=(sIf (km (bT (qg (qq 2 [] q18) (qa (v3 (qa (eV 1) (qa (eV 2) qf))) (qa (wo "Store" 0 "wares") qf))))) q2a zt)
noncomputable def zi:Flds->List D->Option (Flds×D):=yj 3 "Store" xm
theorem q3q[Pin]{fa:Addr}{cdv:Value}{A:Around}{outer:List Env}{s:Shared}{H:Hp}{E:XK}{C_Store:Addr}(O_Store:ClsF K "Store" C_Store ["wares","window","runs"]){a_is_run:Addr}{fd_is_run:FuncData}(c_10:Cal P w K mg base "is_run" 3 ["thing","wares"] 2 q18 a_is_run fd_is_run)(b_10:Binds K fd_is_run ["thing","wares"] [])(hr:Room 3 (A.deeper (envOfC "Store.check_run" (qc z9) s.heap.objs.size fa cdv))):
  PSs (zk CX0 P w K mg base yt "Store.check_run" (qc z9) fa cdv A outer s H E).nox (qo z9) (tDS K xm):=by
 unfold xm;refine(qj ?_);refine(j5 ?_ (qj q11) zh);refine(kn ?_);refine(vd ?_);refine(z0 c_10 b_10 hr (by decide) rfl ?_);walk_at "A";refine(xh ?_);walk_at "A";exact(q0 (pv 1));walk_at "A";exact(q0 (pv 2));exact qd;walk_at "A";exact(ky O_Store (by decide) (pv 0));exact qd
theorem q3r{fa:Addr}{dV:Value}{fd:FuncData}(F:Fun2 K "check_run" "Store.check_run" z9 dV fa fd){C_Store:Addr}(O_Store:ClsF K "Store" C_Store ["wares","window","runs"]){a_is_run:Addr}{fd_is_run:FuncData}(c_10:Cal P w K mg base "is_run" 3 ["thing","wares"] 2 q18 a_is_run fd_is_run)(b_10:Binds K fd_is_run ["thing","wares"] []): FnOk P w K mg base CX0 4 fa fd ["self","many","basket"] (wk K "Store" 2 zi):=
 F.okOB (c:="Store") (k:=3) (n:=3) (ar:=2) (k1:=4) (u:=xm) q3p rfl rfl rfl fun Pn cdv A outer s H E hr=>(by exact q3q O_Store c_10 b_10 hr)
abbrev xt:Stmt:=top 22
noncomputable def q19:List Str:=["runs"]
theorem q7w:(q19).Nodup:=by decide +kernel
theorem q7x:FnScope q19 ["runs"] (qc xt):=⟨rfl,rfl,rfl,q7w,rfl,by decide +kernel,by decide +kernel⟩
theorem q5x:(["run"]:List Str).Nodup:=by decide +kernel
noncomputable def w9:FS:=(za (qg q3f (qa (eL (vz (k8 (eV 0)) [none] (bN 0) vy (eOp oIx (eV 0) (eC (.int 0))))) qf)))
noncomputable def jo:List D->Option D:=zd 1 w9
theorem q30{fa:Addr}{cdv:Value}{A:Around}{outer:List Env}{s:Shared}{H:Hp}{E:XK}(n_sum:mg "sum" = none)(hr:Room 0 (A.deeper (envOfC "baskets_of" (qc xt) s.heap.objs.size fa cdv))):
  PSs (zk CX0 P w K mg base q19 "baskets_of" (qc xt) fa cdv A outer s H E).nox (qo xt) (tDS K w9):=by
 unfold w9;refine(qj ?_);refine(qw ?_);refine(qv (q3g rfl) rfl n_sum DL.boot_sum ?_);walk_at "A";refine(y6 ?_);refine(vh (N':=["run"]) (cap:=[none]) rfl (xj rfl rfl) (ku rfl) ?_ (fun _ _ _ _ _=>(qx q5x rfl (Or.inl rfl) (.inr rfl))) (fun _ _ _ _ _=>q26) (fun _ _ _ _ _=>?_));refine(y9 ?_);exact(q0 (pv 0));refine(y0 ?_ qe);exact(q0 (pv 0));exact qd
theorem q7y{fa:Addr}{dV:Value}{fd:FuncData}(F:Fun2 K "baskets_of" "baskets_of" xt dV fa fd)(n_sum:mg "sum" = none): FnOk P w K mg base CX0 1 fa fd ["runs"] (spD K 1 jo):=
 F.okn (k:=0) (n:=1) (ar:=1) (k1:=1) (u:=w9) q7x rfl rfl rfl fun cdv A outer s H E hr=>(by first|(with_reducible exact q30 n_sum hr)|exact q30 n_sum hr)
abbrev vq:Stmt:=top 23
noncomputable def q1x:List Str:=["runs","basket"]
theorem q9n:(q1x).Nodup:=by decide +kernel
theorem q9o:FnScope q1x ["runs","basket"] (qc vq):=⟨rfl,rfl,rfl,q9n,rfl,by decide +kernel,by decide +kernel⟩
theorem q6s:(["run","basket"]:List Str).Nodup:=by decide +kernel
noncomputable def q04:FS:=(za (eL (vz (k8 (eV 0)) [none,some 1] (bN 0) (zc oEq (eOp oIx (eV 0) (eC (.int 1))) (eV 1)) (eV 0))))
noncomputable def yx:List D->Option D:=zd 2 q04
theorem q3s{fa:Addr}{cdv:Value}{A:Around}{outer:List Env}{s:Shared}{H:Hp}{E:XK}(hr:Room 0 (A.deeper (envOfC "runs_like" (qc vq) s.heap.objs.size fa cdv))):
  PSs (zk CX0 P w K mg base q1x "runs_like" (qc vq) fa cdv A outer s H E).nox (qo vq) (tDS K q04):=by
 unfold q04;refine(qj ?_);refine(qw ?_);refine(y6 ?_);refine(vh (N':=["run","basket"]) (cap:=[none,some 1]) rfl (xj rfl rfl) (ku rfl) ?_ (fun _ _ _ _ _=>(qx q6s rfl (Or.inl rfl) (.inr rfl))) (fun _ _ _ _ _=>(q5m ?_)) (fun _ _ _ _ _=>?_));refine(y9 ?_);exact(q0 (pv 0));refine(zg (q0n hr.units) ?_ ?_);refine(y0 ?_ qe);exact(q0 (pv 0));exact(q0 (pv 1));exact(q0 (pv 0))
theorem q9p{fa:Addr}{dV:Value}{fd:FuncData}(F:Fun2 K "runs_like" "runs_like" vq dV fa fd): FnOk P w K mg base CX0 1 fa fd ["runs","basket"] (spD K 2 yx):=
 F.okn (k:=0) (n:=2) (ar:=2) (k1:=1) (u:=q04) q9o rfl rfl rfl fun cdv A outer s H E hr=>(by first|(with_reducible exact q3s  hr)|exact q3s  hr)
abbrev v9:Stmt:=top 24
noncomputable def q58:List Str:=["runs","number","chosen","gone","kept","left","many","basket","going"]
theorem nd_parted:(q58).Nodup:=by decide +kernel
theorem qdu:FnScope q58 ["runs","number","chosen"] (qc v9):=⟨rfl,rfl,rfl,nd_parted,rfl,by decide +kernel,by decide +kernel⟩
noncomputable def q05:FS:=(qp (zo 8 (eIf (bOr (zc (oIs false) (eV 2) (eC .non)) (zc oEq (eV 7) (eV 2))) (qg oMin (qa (eV 6) (qa (eV 5) qf))) (eC (.int 0)))) (qp (zo 5 (eOp oSub (eV 5) (eV 8))) (qp (sIf (zc oGt (eV 8) (eC (.int 0))) (q3a 3 (v3 (qa (eV 8) (qa (eV 7) qf)))) zt) (sIf (zc oLt' (eV 8) (eV 6)) (q3a 4 (v3 (qa (eOp oSub (eV 6) (eV 8)) (qa (eV 7) qf)))) zt))))
noncomputable def q2t:FS:=(qp (q1s 3 (v5 qf)) (qp (q1s 4 (v5 qf)) (qp (zo 5 (eV 1)) (qp (q2m (k8 (eV 0)) (je 2 (qs (bN 6) (qs (bN 7) j6))) q05) (q2k 4 (q2k 3 (za (v3 (qa (qg kx (qa (eV 3) qf)) (qa (qg kx (qa (eV 4) qf)) qf))))))))))
noncomputable def yg:List D->Option D:=zd 9 q2t
theorem q7e{fa:Addr}{cdv:Value}{A:Around}{outer:List Env}{s:Shared}{H:Hp}{E:XK}(n_tuple:mg "tuple" = none)(n_min:mg "min" = none)(hr:Room 0 (A.deeper (envOfC "parted" (qc v9) s.heap.objs.size fa cdv))):
  PSs (zk CX0 P w K mg base q58 "parted" (qc v9) fa cdv A outer s H E).nox (qo v9) (tDS K q2t):=by
 unfold q2t q05;refine(qi ?_ ?_);exact(q39 (i:=3) nd_parted rfl (Or.inl rfl) (ve qd));refine(qi ?_ ?_);exact(q39 (i:=4) nd_parted rfl (Or.inl rfl) (ve qd));refine(qi ?_ ?_);refine(zq (i:=5) ?_ ?_ ?_ ?_ ?_ ?_);exact nd_parted;exact rfl;exact(Or.inl rfl);exact(q0 (pv 1));exact rfl;walk_at "L";refine(qi ?_ ?_);refine(q3d u0 rfl ?_ (ko rfl (zb (qx nd_parted rfl (Or.inl rfl) (.inl rfl)) (zb (qx nd_parted rfl (Or.inl rfl) (.inl rfl)) y8))) (qi ?_ ?_));refine(y9 ?_);exact(q0 (pv 0));refine(zq (i:=8) ?_ ?_ ?_ ?_ ?_ ?_);exact nd_parted;exact rfl;exact(Or.inl rfl);refine(qg9 ?_ ?_ qe);refine(PW.pt (q5l ?_ (q38 ?_)));refine(zg (qgc rfl) ?_ q8n);exact(q0 (pv 2));refine(zg (q0n hr.units) ?_ ?_);exact(q0 (pv 7));exact(q0 (pv 2));refine(qv (q28 rfl) rfl n_min DL.boot_min ?_);walk_at "A";exact(q0 (pv 6));walk_at "A";exact(q0 (pv 5));exact qd;exact rfl;walk_at "L";refine(qi ?_ ?_);refine(qhc (i:=5) nd_parted rfl (Or.inl rfl) ?_);exact(q0 (pv 8));refine(qi ?_ ?_);refine(j5 ?_ (qj ?_) zh);refine(zg q01 ?_ qe);exact(q0 (pv 8));refine(q3b (pv 3) ?_);refine(xh ?_);walk_at "A";exact(q0 (pv 8));walk_at "A";exact(q0 (pv 7));exact qd;refine(qj ?_);refine(j5 ?_ (qj ?_) zh);refine(zg q3h ?_ ?_);exact(q0 (pv 8));exact(q0 (pv 6));refine(q3b (pv 4) ?_);refine(xh ?_);walk_at "A";refine(qm kl ?_ ?_);exact(q0 (pv 6));exact(q0 (pv 8));walk_at "A";exact(q0 (pv 7));exact qd;refine(q3c 4 (q3c 3 (qj ?_)));refine(qw ?_);refine(xh ?_);walk_at "A";refine(q09 (q10) rfl n_tuple DL.boot_tuple ?_);walk_at "A";exact(q0 (pv 3));exact qd;walk_at "A";refine(q09 (q10) rfl n_tuple DL.boot_tuple ?_);walk_at "A";exact(q0 (pv 4));exact qd;exact qd
theorem qdv{fa:Addr}{dV:Value}{fd:FuncData}(F:Fun2 K "parted" "parted" v9 dV fa fd)(n_tuple:mg "tuple" = none)(n_min:mg "min" = none): FnOk P w K mg base CX0 1 fa fd ["runs","number","chosen"] (spD K 3 yg):=
 F.okn (k:=0) (n:=9) (ar:=3) (k1:=1) (u:=q2t) qdu rfl rfl rfl fun cdv A outer s H E hr=>(by first|(with_reducible exact q7e n_tuple n_min hr)|exact q7e n_tuple n_min hr)
abbrev jb:Stmt:=q55 25 2
noncomputable def q1a:List Str:=["self","many","basket","there"]
theorem q31:(q1a).Nodup:=by decide +kernel
theorem q7z:FnScope q1a ["self","many","basket"] (qc jb):=⟨rfl,rfl,rfl,q31,rfl,by decide +kernel,by decide +kernel⟩
noncomputable def wa:FS:=(qp (q12 (kc "Store" "check_run" 0 2 zi (qa (eV 1) (qa (eV 2) qf)))) (qp (zo 3 (qg (qq 1 [] jo) (qa (qg (qq 2 [] yx) (qa (wo "Store" 0 "runs") (qa (eV 2) qf))) qf))) (qp (sIf (zc oLt' (eV 3) (eV 1)) q2a zt) (q1l "Store" 0 "runs" (eOp oIx (qg (qq 3 [] yg) (qa (wo "Store" 0 "runs") (qa (eV 1) (qa (eV 2) qf)))) (eC (.int 1)))))))
noncomputable def xu:Flds->List D->Option (Flds×D):=yj 4 "Store" wa
theorem q80[Pin]{fa:Addr}{cdv:Value}{A:Around}{outer:List Env}{s:Shared}{H:Hp}{E:XK}{C_Store:Addr}(O_Store:ClsF K "Store" C_Store ["wares","window","runs"]){a_Store_check_run:Addr}{fd_Store_check_run:FuncData}(c_1:CalF P w K mg base "Store" "check_run" C_Store 4 ["self","many","basket"] 2 zi a_Store_check_run fd_Store_check_run)(b_1:Binds K fd_Store_check_run ["self","many","basket"] []){a_baskets_of:Addr}{fd_baskets_of:FuncData}(c_7:Cal P w K mg base "baskets_of" 1 ["runs"] 1 jo a_baskets_of fd_baskets_of)(b_7:Binds K fd_baskets_of ["runs"] []){a_runs_like:Addr}{fd_runs_like:FuncData}(c_25:Cal P w K mg base "runs_like" 1 ["runs","basket"] 2 yx a_runs_like fd_runs_like)(b_25:Binds K fd_runs_like ["runs","basket"] []){a_parted:Addr}{fd_parted:FuncData}(c_24:Cal P w K mg base "parted" 1 ["runs","number","chosen"] 3 yg a_parted fd_parted)(b_24:Binds K fd_parted ["runs","number","chosen"] [])(hr:Room 4 (A.deeper (envOfC "Store.take" (qc jb) s.heap.objs.size fa cdv))):
  PSs (zk CX0 P w K mg base q1a "Store.take" (qc jb) fa cdv A outer s H E).nox (qo jb) (tDS K wa):=by
 unfold wa;refine(qi ?_ ?_);refine(q54 ?_);refine(q2c O_Store c_1 b_1 hr (by decide) (pv 0) ?_);walk_at "A";exact(q0 (pv 1));walk_at "A";exact(q0 (pv 2));exact qd;refine(qi ?_ ?_);refine(zq (i:=3) ?_ ?_ ?_ ?_ ?_ ?_);exact q31;exact rfl;exact(Or.inl rfl);refine(z0 c_7 b_7 hr (by decide) rfl ?_);walk_at "A";refine(z0 c_25 b_25 hr (by decide) rfl ?_);walk_at "A";exact(ky O_Store (by decide) (pv 0));walk_at "A";exact(q0 (pv 2));exact qd;exact qd;exact rfl;walk_at "L";refine(qi ?_ ?_);refine(j5 ?_ (qj q11) zh);refine(zg q3h ?_ ?_);exact(q0 (pv 3));exact(q0 (pv 1));refine(qj ?_);refine(q3i O_Store (by decide) (pv 0) ?_);refine(y0 ?_ qe);refine(z0 c_24 b_24 hr (by decide) rfl ?_);walk_at "A";exact(ky O_Store (by decide) (pv 0));walk_at "A";exact(q0 (pv 1));walk_at "A";exact(q0 (pv 2));exact qd
theorem q81{fa:Addr}{dV:Value}{fd:FuncData}(F:Fun2 K "take" "Store.take" jb dV fa fd){C_Store:Addr}(O_Store:ClsF K "Store" C_Store ["wares","window","runs"]){a_Store_check_run:Addr}{fd_Store_check_run:FuncData}(c_1:CalF P w K mg base "Store" "check_run" C_Store 4 ["self","many","basket"] 2 zi a_Store_check_run fd_Store_check_run)(b_1:Binds K fd_Store_check_run ["self","many","basket"] []){a_baskets_of:Addr}{fd_baskets_of:FuncData}(c_7:Cal P w K mg base "baskets_of" 1 ["runs"] 1 jo a_baskets_of fd_baskets_of)(b_7:Binds K fd_baskets_of ["runs"] []){a_runs_like:Addr}{fd_runs_like:FuncData}(c_25:Cal P w K mg base "runs_like" 1 ["runs","basket"] 2 yx a_runs_like fd_runs_like)(b_25:Binds K fd_runs_like ["runs","basket"] []){a_parted:Addr}{fd_parted:FuncData}(c_24:Cal P w K mg base "parted" 1 ["runs","number","chosen"] 3 yg a_parted fd_parted)(b_24:Binds K fd_parted ["runs","number","chosen"] []): FnOk P w K mg base CX0 5 fa fd ["self","many","basket"] (wk K "Store" 2 xu):=
 F.okOB (c:="Store") (k:=4) (n:=4) (ar:=2) (k1:=5) (u:=wa) q7z rfl rfl rfl fun Pn cdv A outer s H E hr=>(by exact q80 O_Store c_1 b_1 c_7 b_7 c_25 b_25 c_24 b_24 hr)
abbrev xv:Stmt:=top 30
noncomputable def q1b:List Str:=["_law_script","_law_k"]
theorem q82:(q1b).Nodup:=by decide +kernel
theorem q83:FnScope q1b ["_law_script","_law_k"] (qc xv):=⟨rfl,rfl,rfl,q82,rfl,by decide +kernel,by decide +kernel⟩
noncomputable def wb:FS:=(qp (sIf (zc oEq (eOp oMod (qg (qq 2 [] z8) (qa (eV 0) (qa (eC (.int 0)) qf))) (eC (.int 2))) (eC (.int 0))) (za (eOp oMod (qg (qq 2 [] z8) (qa (eV 0) (qa (eOp jc (eC (.int 1)) (eV 1)) qf))) (eOp oPow (eC (.int 10)) (eC (.int 60))))) zt) (za (eOp jc (eOp j9 (qg (qq 2 [] j8) (qa (qg (qq 2 [] z8) (qa (eV 0) (qa (eOp jc (eC (.int 1)) (eOp oMod (eV 1) (qg oMax (qa (eC (.int 1)) (qa (eOp oSub (qg jt (qa (eV 0) qf)) (eC (.int 1))) qf))))) qf))) (qa (eOp jc (eV 1) (eC (.int 5))) qf))) (eC (.int 2147483647))) (qg (qq 2 [] j8) (qa (eV 1) (qa (eC (.int 9)) qf))))))
noncomputable def yh:List D->Option D:=zd 2 wb
theorem q32{fa:Addr}{cdv:Value}{A:Around}{outer:List Env}{s:Shared}{H:Hp}{E:XK}{a__law_mixed:Addr}{fd__law_mixed:FuncData}(c_16:Cal P w K mg base "_law_mixed" 1 ["_law_cell_here","_law_k"] 2 j8 a__law_mixed fd__law_mixed)(b_16:Binds K fd__law_mixed ["_law_cell_here","_law_k"] []){a__law_cell:Addr}{fd__law_cell:FuncData}(c_13:Cal P w K mg base "_law_cell" 1 ["_law_script","_law_k"] 2 z8 a__law_cell fd__law_cell)(b_13:Binds K fd__law_cell ["_law_script","_law_k"] [])(n_max:mg "max" = none)(n_len:mg "len" = none)(hr:Room 1 (A.deeper (envOfC "_law_number" (qc xv) s.heap.objs.size fa cdv))):
  PSs (zk CX0 P w K mg base q1b "_law_number" (qc xv) fa cdv A outer s H E).nox (qo xv) (tDS K wb):=by
 unfold wb;refine(qi ?_ ?_);refine(j5 ?_ (qj ?_) zh);refine(zg (q0n hr.units) ?_ qe);refine(qm zm ?_ qe);refine(z0 c_13 b_13 hr (by decide) rfl ?_);walk_at "A";exact(q0 (pv 0));walk_at "A";exact qe;exact qd;refine(qw ?_);refine(qm zm ?_ ?_);refine(z0 c_13 b_13 hr (by decide) rfl ?_);walk_at "A";exact(q0 (pv 0));walk_at "A";refine(qm js qe ?_);exact(q0 (pv 1));exact qd;exact(qm q5k qe qe);refine(qj ?_);refine(qw ?_);refine(qm js ?_ ?_);refine(qm yf ?_ qe);refine(z0 c_16 b_16 hr (by decide) rfl ?_);walk_at "A";refine(z0 c_13 b_13 hr (by decide) rfl ?_);walk_at "A";exact(q0 (pv 0));walk_at "A";refine(qm js qe ?_);refine(qm zm ?_ ?_);exact(q0 (pv 1));refine(qv (q5r rfl) rfl n_max DL.boot_max ?_);walk_at "A";exact qe;walk_at "A";refine(qm kl ?_ qe);refine(qv (yb) rfl n_len DL.jm ?_);walk_at "A";exact(q0 (pv 0));exact qd;exact qd;exact qd;walk_at "A";refine(qm js ?_ qe);exact(q0 (pv 1));exact qd;refine(z0 c_16 b_16 hr (by decide) rfl ?_);walk_at "A";exact(q0 (pv 1));walk_at "A";exact qe;exact qd
theorem q84{fa:Addr}{dV:Value}{fd:FuncData}(F:Fun2 K "_law_number" "_law_number" xv dV fa fd){a__law_mixed:Addr}{fd__law_mixed:FuncData}(c_16:Cal P w K mg base "_law_mixed" 1 ["_law_cell_here","_law_k"] 2 j8 a__law_mixed fd__law_mixed)(b_16:Binds K fd__law_mixed ["_law_cell_here","_law_k"] []){a__law_cell:Addr}{fd__law_cell:FuncData}(c_13:Cal P w K mg base "_law_cell" 1 ["_law_script","_law_k"] 2 z8 a__law_cell fd__law_cell)(b_13:Binds K fd__law_cell ["_law_script","_law_k"] [])(n_max:mg "max" = none)(n_len:mg "len" = none): FnOk P w K mg base CX0 2 fa fd ["_law_script","_law_k"] (spD K 2 yh):=
 F.okn (k:=1) (n:=2) (ar:=2) (k1:=2) (u:=wb) q83 rfl rfl rfl fun cdv A outer s H E hr=>(by first|(with_reducible exact q32 c_16 b_16 c_13 b_13 n_max n_len hr)|exact q32 c_16 b_16 c_13 b_13 n_max n_len hr)
abbrev vt:Stmt:=top 34
noncomputable def q1y:List Str:=["_law_runs","_law_many","_law_basket","_law_kept","_law_own","_law_other","_law_going"]
theorem x9:(q1y).Nodup:=by decide +kernel
theorem q9q:FnScope q1y ["_law_runs","_law_many","_law_basket"] (qc vt):=⟨rfl,rfl,rfl,x9,rfl,by decide +kernel,by decide +kernel⟩
noncomputable def yn:FS:=(qp (zo 6 (eC (.int 0))) (qp (sIf (zc oEq (eV 5) (eV 2)) (zo 6 (qg oMin (qa (eV 4) (qa (eV 1) qf)))) zt) (qp (zo 1 (eOp oSub (eV 1) (eV 6))) (sIf (zc oGt (eV 4) (eV 6)) (q3a 3 (v3 (qa (eOp oSub (eV 4) (eV 6)) (qa (eV 5) qf)))) zt))))
noncomputable def q06:FS:=(qp (q1s 3 (v5 qf)) (qp (q2m (k8 (eV 0)) (je 2 (qs (bN 4) (qs (bN 5) j6))) yn) (q2k 3 (za (eV 3)))))
noncomputable def vv:List D->Option D:=zd 7 q06
theorem q3t{fa:Addr}{cdv:Value}{A:Around}{outer:List Env}{s:Shared}{H:Hp}{E:XK}(n_min:mg "min" = none)(hr:Room 0 (A.deeper (envOfC "_law_taken" (qc vt) s.heap.objs.size fa cdv))):
  PSs (zk CX0 P w K mg base q1y "_law_taken" (qc vt) fa cdv A outer s H E).nox (qo vt) (tDS K q06):=by
 unfold q06 yn;refine(qi ?_ ?_);exact(q39 (i:=3) x9 rfl (Or.inl rfl) (ve qd));refine(qi ?_ ?_);refine(q3d u0 rfl ?_ (ko rfl (zb (qx x9 rfl (Or.inl rfl) (.inl rfl)) (zb (qx x9 rfl (Or.inl rfl) (.inl rfl)) y8))) (qi ?_ ?_));refine(y9 ?_);exact(q0 (pv 0));refine(zq (i:=6) ?_ ?_ ?_ qe ?_ ?_);exact x9;exact rfl;exact(Or.inl rfl);exact rfl;walk_at "L";refine(qi ?_ ?_);refine(j5 ?_ (qj ?_) zh);refine(zg (q0n hr.units) ?_ ?_);exact(q0 (pv 5));exact(q0 (pv 2));refine(zq (i:=6) ?_ ?_ ?_ ?_ ?_ ?_);exact x9;exact rfl;exact(Or.inl rfl);refine(qv (q28 rfl) rfl n_min DL.boot_min ?_);walk_at "A";exact(q0 (pv 4));walk_at "A";exact(q0 (pv 1));exact qd;exact rfl;walk_at "L";refine(qi ?_ ?_);refine(zq (i:=1) ?_ ?_ ?_ ?_ ?_ ?_);exact x9;exact rfl;exact(Or.inl rfl);refine(qm kl ?_ ?_);exact(q0 (pv 1));exact(q0 (pv 6));exact rfl;walk_at "L";refine(qj ?_);refine(j5 ?_ (qj ?_) zh);refine(zg q01 ?_ ?_);exact(q0 (pv 4));exact(q0 (pv 6));refine(q3b (pv 3) ?_);refine(xh ?_);walk_at "A";refine(qm kl ?_ ?_);exact(q0 (pv 4));exact(q0 (pv 6));walk_at "A";exact(q0 (pv 5));exact qd;refine(q3c 3 (qj ?_));refine(qw ?_);exact(q0 (pv 3))
theorem q9r{fa:Addr}{dV:Value}{fd:FuncData}(F:Fun2 K "_law_taken" "_law_taken" vt dV fa fd)(n_min:mg "min" = none): FnOk P w K mg base CX0 1 fa fd ["_law_runs","_law_many","_law_basket"] (spD K 3 vv):=
 F.okn (k:=0) (n:=7) (ar:=3) (k1:=1) (u:=q06) q9q rfl rfl rfl fun cdv A outer s H E hr=>(by first|(with_reducible exact q3t n_min hr)|exact q3t n_min hr)
abbrev jy:Stmt:=top 35
noncomputable def wt:List Str:=["_law_runs","_law_most","_law_over","_law_went","_law_left","_law_many","_law_basket","_law_going"]
theorem zr:(wt).Nodup:=by decide +kernel
theorem q5y:FnScope wt ["_law_runs","_law_most"] (qc jy):=⟨rfl,rfl,rfl,zr,rfl,by decide +kernel,by decide +kernel⟩
theorem q0k:(["_law_many","_law_basket"]:List Str).Nodup:=by decide +kernel
noncomputable def xn:FS:=(qp (zo 7 (qg oMax (qa (eC (.int 0)) (qa (qg oMin (qa (eV 5) (qa (eV 2) qf))) qf)))) (qp (zo 2 (eOp oSub (eV 2) (eV 7))) (qp (sIf (zc oGt (eV 7) (eC (.int 0))) (q3a 3 (v3 (qa (eV 7) (qa (eV 6) qf)))) zt) (sIf (zc oGt (eV 5) (eV 7)) (q3a 4 (v3 (qa (eOp oSub (eV 5) (eV 7)) (qa (eV 6) qf)))) zt))))
noncomputable def yo:FS:=(qp (zo 2 (eOp oSub (qg q3f (qa (eL (vz (k8 (eV 0)) [none,none] (je 2 (qs (bN 0) (qs (bN 1) j6))) vy (eV 0))) qf)) (eV 1))) (qp (q1s 3 (v5 qf)) (qp (q1s 4 (v5 qf)) (qp (q2m (k8 (eV 0)) (je 2 (qs (bN 5) (qs (bN 6) j6))) xn) (q2k 3 (q2k 4 (za (eL (v5 (qa (qg kx (qa (eV 3) qf)) (qa (eV 4) qf)))))))))))
noncomputable def jz:List D->Option D:=zd 8 yo
theorem q1n{fa:Addr}{cdv:Value}{A:Around}{outer:List Env}{s:Shared}{H:Hp}{E:XK}(n_sum:mg "sum" = none)(n_max:mg "max" = none)(n_tuple:mg "tuple" = none)(n_min:mg "min" = none)(hr:Room 0 (A.deeper (envOfC "_law_outgrown" (qc jy) s.heap.objs.size fa cdv))):
  PSs (zk CX0 P w K mg base wt "_law_outgrown" (qc jy) fa cdv A outer s H E).nox (qo jy) (tDS K yo):=by
 unfold yo xn;refine(qi ?_ ?_);refine(zq (i:=2) ?_ ?_ ?_ ?_ ?_ ?_);exact zr;exact rfl;exact(Or.inl rfl);refine(qm kl ?_ ?_);refine(qv (q3g rfl) rfl n_sum DL.boot_sum ?_);walk_at "A";refine(y6 ?_);refine(vh (N':=["_law_many","_law_basket"]) (cap:=[none,none]) rfl (xj rfl rfl) (q0a (j7 rfl (j7 rfl kv))) ?_ (fun _ _ _ _ _=>(ko rfl (zb (qx q0k rfl (Or.inl rfl) (.inr rfl)) (zb (qx q0k rfl (Or.inl rfl) (.inr rfl)) y8)))) (fun _ _ _ _ _=>q26) (fun _ _ _ _ _=>?_));refine(y9 ?_);exact(q0 (pv 0));exact(q0 (pv 0));exact qd;exact(q0 (pv 1));exact rfl;walk_at "L";refine(qi ?_ ?_);exact(q39 (i:=3) zr rfl (Or.inl rfl) (ve qd));refine(qi ?_ ?_);exact(q39 (i:=4) zr rfl (Or.inl rfl) (ve qd));refine(qi ?_ ?_);refine(q3d u0 rfl ?_ (ko rfl (zb (qx zr rfl (Or.inl rfl) (.inl rfl)) (zb (qx zr rfl (Or.inl rfl) (.inl rfl)) y8))) (qi ?_ ?_));refine(y9 ?_);exact(q0 (pv 0));refine(zq (i:=7) ?_ ?_ ?_ ?_ ?_ ?_);exact zr;exact rfl;exact(Or.inl rfl);refine(qv (q5r rfl) rfl n_max DL.boot_max ?_);walk_at "A";exact qe;walk_at "A";refine(qv (q28 rfl) rfl n_min DL.boot_min ?_);walk_at "A";exact(q0 (pv 5));walk_at "A";exact(q0 (pv 2));exact qd;exact qd;exact rfl;walk_at "L";refine(qi ?_ ?_);refine(zq (i:=2) ?_ ?_ ?_ ?_ ?_ ?_);exact zr;exact rfl;exact(Or.inl rfl);refine(qm kl ?_ ?_);exact(q0 (pv 2));exact(q0 (pv 7));exact rfl;walk_at "L";refine(qi ?_ ?_);refine(j5 ?_ (qj ?_) zh);refine(zg q01 ?_ qe);exact(q0 (pv 7));refine(q3b (pv 3) ?_);refine(xh ?_);walk_at "A";exact(q0 (pv 7));walk_at "A";exact(q0 (pv 6));exact qd;refine(qj ?_);refine(j5 ?_ (qj ?_) zh);refine(zg q01 ?_ ?_);exact(q0 (pv 5));exact(q0 (pv 7));refine(q3b (pv 4) ?_);refine(xh ?_);walk_at "A";refine(qm kl ?_ ?_);exact(q0 (pv 5));exact(q0 (pv 7));walk_at "A";exact(q0 (pv 6));exact qd;refine(q3c 3 (q3c 4 (qj ?_)));refine(qw ?_);refine(y6 ?_);refine(ve ?_);walk_at "A";refine(q09 (q10) rfl n_tuple DL.boot_tuple ?_);walk_at "A";exact(q0 (pv 3));exact qd;walk_at "A";exact(q0 (pv 4));exact qd
theorem q5z{fa:Addr}{dV:Value}{fd:FuncData}(F:Fun2 K "_law_outgrown" "_law_outgrown" jy dV fa fd)(n_sum:mg "sum" = none)(n_max:mg "max" = none)(n_tuple:mg "tuple" = none)(n_min:mg "min" = none): FnOk P w K mg base CX0 1 fa fd ["_law_runs","_law_most"] (spD K 2 jz):=
 F.okn (k:=0) (n:=8) (ar:=2) (k1:=1) (u:=yo) q5y rfl rfl rfl fun cdv A outer s H E hr=>(by first|(with_reducible exact q1n n_sum n_max n_tuple n_min hr)|exact q1n n_sum n_max n_tuple n_min hr)
abbrev yp:Stmt:=top 36
noncomputable def q2u:List Str:=["_law_found","_law_due","_law_one","_law_other"]
theorem q1z:(q2u).Nodup:=by decide +kernel
theorem qae:FnScope q2u ["_law_found","_law_due"] (qc yp):=⟨rfl,rfl,rfl,q1z,rfl,by decide +kernel,by decide +kernel⟩
noncomputable def k6(rc:List D->Option D): FS:=(sIf (km (bT (qg (qq 2 [] rc) (qa (eV 2) (qa (eV 3) qf))))) (za (eC (.bl false))) zt)
noncomputable def va(rc:List D->Option D): FS:=(qp (sIf (bT (we .tuple (eV 1))) (qp (sIf (bOr (km (bT (we .tuple (eV 0)))) (zc q8p (qg jt (qa (eV 0) qf)) (qg jt (qa (eV 1) qf)))) (za (eC (.bl false))) zt) (qp (q2m (q6j (qa (eV 0) (qa (eV 1) qf))) (je 2 (qs (bN 2) (qs (bN 3) j6))) (k6 rc)) (za (eC (.bl true))))) zt) (za (yq (we .int (eV 0)) (yq (q6g (we .bool (eV 0))) (eOp oEq (eV 0) (eV 1))))))
noncomputable def F_law_same(n:Nat): List D->Option D:=Nat.rec (fun _=>none) (fun _ rc=>zd 4 (va rc)) n
noncomputable def ju:List D->Option D:=F_law_same 16
theorem qaf{fa:Addr}{cdv:Value}{A:Around}{outer:List Env}{s:Shared}{H:Hp}{E:XK}{rc:List D->Option D}{kr kk:Nat}(hkr:kr<=kk)(hk0:0<=kk){a__law_same:Addr}{fd__law_same:FuncData}(c_19:Cal P w K mg base "_law_same" kr ["_law_found","_law_due"] 2 rc a__law_same fd__law_same)(b_19:Binds K fd__law_same ["_law_found","_law_due"] [])(n_isinstance:mg "isinstance" = none)(n_tuple:mg "tuple" = none)(n_zip:mg "zip" = none)(n_int:mg "int" = none)(n_bool:mg "bool" = none)(n_len:mg "len" = none)(hr:Room kk (A.deeper (envOfC "_law_same" (qc yp) s.heap.objs.size fa cdv))):
  PSs (zk CX0 P w K mg base q2u "_law_same" (qc yp) fa cdv A outer s H E).nox (qo yp) (tDS K (va rc)):=by
 unfold va k6;refine(qi ?_ ?_);refine(j5 ?_ (qi ?_ ?_) zh);refine(vd ?_);refine(q0b .tuple rfl n_isinstance rfl n_tuple DL.boot_tuple ?_);exact(q0 (pv 1));refine(j5 ?_ (qj ?_) zh);refine(PW.pt (q5l ?_ (q38 ?_)));refine(kn ?_);refine(vd ?_);refine(q0b .tuple rfl n_isinstance rfl n_tuple DL.boot_tuple ?_);exact(q0 (pv 0));refine(zg qd0 ?_ ?_);refine(qv (yb) rfl n_len DL.jm ?_);walk_at "A";exact(q0 (pv 0));exact qd;refine(qv (yb) rfl n_len DL.jm ?_);walk_at "A";exact(q0 (pv 1));exact qd;exact(qw q00);refine(qi ?_ ?_);refine(q3d u0 rfl ?_ (ko rfl (zb (qx q1z rfl (Or.inl rfl) (.inl rfl)) (zb (qx q1z rfl (Or.inl rfl) (.inl rfl)) y8))) (qj ?_));refine(qde rfl n_zip ?_);walk_at "A";exact(q0 (pv 0));walk_at "A";exact(q0 (pv 1));exact qd;refine(j5 ?_ (qj ?_) zh);refine(kn ?_);refine(vd ?_);refine(z0 c_19 b_19 hr hkr rfl ?_);walk_at "A";exact(q0 (pv 2));walk_at "A";exact(q0 (pv 3));exact qd;exact(qw q00);refine(qj ?_);exact(qw q00);refine(qj ?_);refine(qw ?_);refine(q08 ?_ (q08 ?_ (q25 ?_)));refine(q0b .int rfl n_isinstance rfl n_int DL.boot_int ?_);exact(q0 (pv 0));refine(qd4 ?_);refine(q0b .bool rfl n_isinstance rfl n_bool DL.boot_bool ?_);exact(q0 (pv 0));refine(q0y (q0n hr.units) ?_ ?_);exact(q0 (pv 0));exact(q0 (pv 1))
theorem qag{fa:Addr}{dV:Value}{fd:FuncData}(F:Fun2 K "_law_same" "_law_same" yp dV fa fd)(mgf:mg "_law_same" = some (.ref fa))(kpf:PySem.W.keepIn K (.ref fa)=true)(b_19:Binds K fd ["_law_found","_law_due"] [])(n_isinstance:mg "isinstance" = none)(n_tuple:mg "tuple" = none)(n_zip:mg "zip" = none)(n_int:mg "int" = none)(n_bool:mg "bool" = none)(n_len:mg "len" = none)(n:Nat): FnOk P w K mg base CX0 (1+n) fa fd ["_law_found","_law_due"] (spD K 2 (F_law_same n)):=by
 induction n with
 | zero=>exact qdi
 | succ n ih=>exact F.okn (k:=1+n) (n:=4) (ar:=2) (k1:=1+(n+1)) (u:=va (F_law_same n)) qae rfl rfl rfl fun cdv A outer s H E hr=>(by exact qaf (kr:=1+n) (kk:=1+n) (gy _) (by omega) (Cal.mk ih mgf kpf) b_19 n_isinstance n_tuple n_zip n_int n_bool n_len hr)
abbrev zf:Stmt:=q55 25 4
noncomputable def kg:List Str:=["self","runs"]
theorem q4k:(kg).Nodup:=by decide +kernel
theorem q4l:FnScope kg ["self","runs"] (qc zf):=⟨rfl,rfl,rfl,q4k,rfl,by decide +kernel,by decide +kernel⟩
noncomputable def vb:FS:=(za (eIf (zc (oIs false) (wo "Store" 0 "window") (eC .non)) (eC (.int 0)) (qg oMax (qa (eC (.int 0)) (qa (eOp oSub (qg (qq 1 [] jo) (qa (eV 1) qf)) (wo "Store" 0 "window")) qf)))))
noncomputable def xa:Flds->List D->Option (Flds×D):=yj 2 "Store" vb
theorem q4m[Pin]{fa:Addr}{cdv:Value}{A:Around}{outer:List Env}{s:Shared}{H:Hp}{E:XK}{C_Store:Addr}(O_Store:ClsF K "Store" C_Store ["wares","window","runs"]){a_baskets_of:Addr}{fd_baskets_of:FuncData}(c_7:Cal P w K mg base "baskets_of" 1 ["runs"] 1 jo a_baskets_of fd_baskets_of)(b_7:Binds K fd_baskets_of ["runs"] [])(n_max:mg "max" = none)(hr:Room 1 (A.deeper (envOfC "Store.too_many" (qc zf) s.heap.objs.size fa cdv))):
  PSs (zk CX0 P w K mg base kg "Store.too_many" (qc zf) fa cdv A outer s H E).nox (qo zf) (tDS K vb):=by
 unfold vb;refine(qj ?_);refine(qw ?_);refine(qg9 ?_ qe ?_);refine(zg (qgc rfl) ?_ q8n);exact(ky O_Store (by decide) (pv 0));refine(qv (q5r rfl) rfl n_max DL.boot_max ?_);walk_at "A";exact qe;walk_at "A";refine(qm kl ?_ ?_);refine(z0 c_7 b_7 hr (by decide) rfl ?_);walk_at "A";exact(q0 (pv 1));exact qd;exact(ky O_Store (by decide) (pv 0));exact qd
theorem q4n{fa:Addr}{dV:Value}{fd:FuncData}(F:Fun2 K "too_many" "Store.too_many" zf dV fa fd){C_Store:Addr}(O_Store:ClsF K "Store" C_Store ["wares","window","runs"]){a_baskets_of:Addr}{fd_baskets_of:FuncData}(c_7:Cal P w K mg base "baskets_of" 1 ["runs"] 1 jo a_baskets_of fd_baskets_of)(b_7:Binds K fd_baskets_of ["runs"] [])(n_max:mg "max" = none): FnOk P w K mg base CX0 2 fa fd ["self","runs"] (wk K "Store" 1 xa):=
 F.okOB (c:="Store") (k:=1) (n:=2) (ar:=1) (k1:=2) (u:=vb) q4l rfl rfl rfl fun Pn cdv A outer s H E hr=>(by exact q4m O_Store c_7 b_7 n_max hr)
abbrev jk:Stmt:=q55 25 1
noncomputable def q20:List Str:=["self","many","basket","runs","halves"]
theorem q1c:(q20).Nodup:=by decide +kernel
theorem q9s:FnScope q20 ["self","many","basket"] (qc jk):=⟨rfl,rfl,rfl,q1c,rfl,by decide +kernel,by decide +kernel⟩
noncomputable def q07:FS:=(qp (q12 (kc "Store" "check_run" 0 2 zi (qa (eV 1) (qa (eV 2) qf)))) (qp (sIf (zc oGe (qg jt (qa (wo "Store" 0 "runs") qf)) (eC (.int 200))) q2a zt) (qp (zo 3 (eOp jc (wo "Store" 0 "runs") (v3 (qa (v3 (qa (eV 1) (qa (eV 2) qf))) qf)))) (qp (q5t 4 (q0o (qq 3 [.non] yg) (kz (mP (eV 3)) (kz (kc "Store" "too_many" 0 1 xa (qa (eV 3) qf)) (amP qf))))) (qp (q1l "Store" 0 "runs" (eOp oIx (eV 4) (eC (.int 1)))) (za (eOp oIx (eV 4) (eC (.int 0)))))))))
noncomputable def vw:Flds->List D->Option (Flds×D):=yj 5 "Store" q07
theorem q9t[Pin]{fa:Addr}{cdv:Value}{A:Around}{outer:List Env}{s:Shared}{H:Hp}{E:XK}{C_Store:Addr}(O_Store:ClsF K "Store" C_Store ["wares","window","runs"]){a_Store_check_run:Addr}{fd_Store_check_run:FuncData}(c_1:CalF P w K mg base "Store" "check_run" C_Store 4 ["self","many","basket"] 2 zi a_Store_check_run fd_Store_check_run)(b_1:Binds K fd_Store_check_run ["self","many","basket"] []){a_parted:Addr}{fd_parted:FuncData}(c_24:Cal P w K mg base "parted" 1 ["runs","number","chosen"] 3 yg a_parted fd_parted){dvs_parted_1:List V}{dv_l_parted_1:List Value}(bd_parted_1:Binds K fd_parted ["runs","number","chosen"] dv_l_parted_1)(dv_parted_1:Vals dvs_parted_1 dv_l_parted_1)(dd_parted_1:∀ {H:Hp},RepL K H [.non] dvs_parted_1){a_Store_too_many:Addr}{fd_Store_too_many:FuncData}(c_6:CalF P w K mg base "Store" "too_many" C_Store 2 ["self","runs"] 1 xa a_Store_too_many fd_Store_too_many)(b_6:Binds K fd_Store_too_many ["self","runs"] [])(n_len:mg "len" = none)(g_MOST_RUNS:∃t,mg "MOST_RUNS" = some (.int 200 t))(hr:Room 4 (A.deeper (envOfC "Store.put" (qc jk) s.heap.objs.size fa cdv))):
  PSs (zk CX0 P w K mg base q20 "Store.put" (qc jk) fa cdv A outer s H E).nox (qo jk) (tDS K q07):=by
 unfold q07;refine(qi ?_ ?_);refine(q54 ?_);refine(q2c O_Store c_1 b_1 hr (by decide) (pv 0) ?_);walk_at "A";exact(q0 (pv 1));walk_at "A";exact(q0 (pv 2));exact qd;refine(qi ?_ ?_);refine(j5 ?_ (qj q11) zh);refine(zg qg8 ?_ ?_);refine(qv (yb) rfl n_len DL.jm ?_);walk_at "A";exact(ky O_Store (by decide) (pv 0));exact qd;exact(q29 rfl g_MOST_RUNS);refine(qi ?_ ?_);refine(zq (i:=3) ?_ ?_ ?_ ?_ ?_ ?_);exact q1c;exact rfl;exact(Or.inl rfl);refine(qm js ?_ ?_);exact(ky O_Store (by decide) (pv 0));refine(xh ?_);walk_at "A";refine(xh ?_);walk_at "A";exact(q0 (pv 1));walk_at "A";exact(q0 (pv 2));exact qd;exact qd;exact rfl;walk_at "L";refine(qi ?_ ?_);refine(qb6 (i:=4) q1c rfl (Or.inl rfl) ?_);refine(qhe c_24 bd_parted_1 dv_parted_1 (fun _=>dd_parted_1) hr (by decide) rfl (q2b ?_ ?_));refine(qhd ?_);exact(q0 (pv 3));refine(q2b ?_ ?_);refine(q2c O_Store c_6 b_6 hr (by decide) (pv 0) ?_);walk_at "A";exact(q0 (pv 3));exact qd;exact(q46 qd);refine(qi ?_ ?_);refine(q3i O_Store (by decide) (pv 0) ?_);refine(y0 ?_ qe);exact(q0 (pv 4));refine(qj ?_);refine(qw ?_);refine(y0 ?_ qe);exact(q0 (pv 4))
theorem q9u{fa:Addr}{dV:Value}{fd:FuncData}(F:Fun2 K "put" "Store.put" jk dV fa fd){C_Store:Addr}(O_Store:ClsF K "Store" C_Store ["wares","window","runs"]){a_Store_check_run:Addr}{fd_Store_check_run:FuncData}(c_1:CalF P w K mg base "Store" "check_run" C_Store 4 ["self","many","basket"] 2 zi a_Store_check_run fd_Store_check_run)(b_1:Binds K fd_Store_check_run ["self","many","basket"] []){a_parted:Addr}{fd_parted:FuncData}(c_24:Cal P w K mg base "parted" 1 ["runs","number","chosen"] 3 yg a_parted fd_parted){dvs_parted_1:List V}{dv_l_parted_1:List Value}(bd_parted_1:Binds K fd_parted ["runs","number","chosen"] dv_l_parted_1)(dv_parted_1:Vals dvs_parted_1 dv_l_parted_1)(dd_parted_1:∀ {H:Hp},RepL K H [.non] dvs_parted_1){a_Store_too_many:Addr}{fd_Store_too_many:FuncData}(c_6:CalF P w K mg base "Store" "too_many" C_Store 2 ["self","runs"] 1 xa a_Store_too_many fd_Store_too_many)(b_6:Binds K fd_Store_too_many ["self","runs"] [])(n_len:mg "len" = none)(g_MOST_RUNS:∃t,mg "MOST_RUNS" = some (.int 200 t)): FnOk P w K mg base CX0 5 fa fd ["self","many","basket"] (wk K "Store" 2 vw):=
 F.okOB (c:="Store") (k:=4) (n:=5) (ar:=2) (k1:=5) (u:=q07) q9s rfl rfl rfl fun Pn cdv A outer s H E hr=>(by exact q9t O_Store c_1 b_1 c_24 bd_parted_1 dv_parted_1 dd_parted_1 c_6 b_6 n_len g_MOST_RUNS hr)
abbrev q49:Stmt:=top 37
noncomputable def qc6:List Str:=["_law_script","_law_wares","_law_most","_law_store","_law_runs","_law_k","_law_taking","_law_many","_law_basket","_law_went","_law_all_there"]
theorem xw:(qc6).Nodup:=by decide +kernel
theorem qji:FnScope qc6 ["_law_script"] (qc q49):=⟨rfl,rfl,rfl,xw,rfl,by decide +kernel,by decide +kernel⟩
theorem q9v:(["_law_own","_law_other"]:List Str).Nodup:=by decide +kernel
noncomputable def q2v:FS:=(qp (q2l (qg (qq 3 [] w8) (qa (qg (qq 2 [] yh) (qa (eV 0) (qa (eV 5) qf))) (qa (eV 1) (qa (eV 4) qf)))) (q97 3 (qs (bN 6) (qs (bN 7) (qs (bN 8) j6))))) (qp (sIf (bT (eV 6)) (qp (q12 (kc "Store" "take" 3 2 xu (qa (eV 7) (qa (eV 8) qf)))) (zo 4 (qg (qq 3 [] vv) (qa (eV 4) (qa (eV 7) (qa (eV 8) qf)))))) (qp (q2l (qg (qq 2 [] jz) (qa (eOp jc (eV 4) (eL (v5 (qa (v3 (qa (eV 7) (qa (eV 8) qf))) qf)))) (qa (eV 2) qf))) (q97 2 (qs (bN 9) (qs (bN 4) j6)))) (q6l (q47 (mbT (q0o (qq 2 [] ju) (kz (kc "Store" "put" 3 2 vw (qa (eV 7) (qa (eV 8) qf))) (amP (qa (eV 9) qf)))))) (za (eC (.bl false))) zt))) (qp (q6l (q47 (mbT (q0o (qq 2 [] ju) (kz (kc "Store" "pile" 3 0 jn qf) (amP (qa (v3 (qa (eV 1) (qa (qg kx (qa (eV 4) qf)) qf))) qf)))))) (za (eC (.bl false))) zt) (qp (q5t 10 (kc "Store" "count" 3 1 vf (qa (v3 qf) qf))) (sIf (bOr (km (bT (qg (qq 2 [] ju) (qa (eV 10) (qa (qg q3f (qa (eL (vz (k8 (eV 4)) [none,none] (je 2 (qs (bN 0) (qs (bN 1) j6))) vy (eV 0))) qf)) qf))))) (zc oGt (eV 10) (eV 2))) (za (eC (.bl false))) zt)))))
noncomputable def q8b:FS:=(qp (zo 1 (eOp oMod (eOp oDiv (qg (qq 2 [] z8) (qa (eV 0) (qa (eC (.int 0)) qf))) (eC (.int 2))) (eC (.int 7)))) (qp (zo 2 (eOp jc (eC (.int 1)) (eOp oMod (eOp oDiv (qg (qq 2 [] z8) (qa (eV 0) (qa (eC (.int 0)) qf))) (eC (.int 28))) (eOp oIx (eL (v5 (qa (eC (.int 40)) (qa (eOp oPow (eC (.int 10)) (eC (.int 15))) qf)))) (eOp oMod (eOp oDiv (qg (qq 2 [] z8) (qa (eV 0) (qa (eC (.int 0)) qf))) (eC (.int 14))) (eC (.int 2))))))) (qp (q8a "Store" 3 2 1 x2 (qa (eV 1) qf) (qa (eV 2) qf)) (qp (zo 4 (eL (v5 qf))) (qp (q2m (iR1 (qa (qg (qq 1 [] zy) (qa (eV 0) qf)) qf)) (bN 5) q2v) (za (eC (.bl true))))))))
noncomputable def qc7:List D->Option D:=zd 11 q8b
theorem qdw{fa:Addr}{cdv:Value}{A:Around}{outer:List Env}{s:Shared}{H:Hp}{E:XK}{C_Store:Addr}(O_Store:ClsF K "Store" C_Store ["wares","window","runs"]){a_Store___init__:Addr}{fd_Store___init__:FuncData}(M_Store:MkF P w K mg base "Store" C_Store 3 ["self","wares","window"] 2 x2 a_Store___init__ fd_Store___init__)(kb_Store___init__:KB K fd_Store___init__ ["self","wares","window"] ["window"] 2 1){a_Store_count:Addr}{fd_Store_count:FuncData}(c_2:CalF P w K mg base "Store" "count" C_Store 3 ["self","some"] 1 vf a_Store_count fd_Store_count)(b_2:Binds K fd_Store_count ["self","some"] []){a__law_many_deeds:Addr}{fd__law_many_deeds:FuncData}(c_15:Cal P w K mg base "_law_many_deeds" 2 ["_law_script"] 1 zy a__law_many_deeds fd__law_many_deeds)(b_15:Binds K fd__law_many_deeds ["_law_script"] []){a__law_deed:Addr}{fd__law_deed:FuncData}(c_14:Cal P w K mg base "_law_deed" 2 ["_law_number_here","_law_wares","_law_runs"] 3 w8 a__law_deed fd__law_deed)(b_14:Binds K fd__law_deed ["_law_number_here","_law_wares","_law_runs"] []){a_Store_take:Addr}{fd_Store_take:FuncData}(c_5:CalF P w K mg base "Store" "take" C_Store 5 ["self","many","basket"] 2 xu a_Store_take fd_Store_take)(b_5:Binds K fd_Store_take ["self","many","basket"] []){a__law_cell:Addr}{fd__law_cell:FuncData}(c_13:Cal P w K mg base "_law_cell" 1 ["_law_script","_law_k"] 2 z8 a__law_cell fd__law_cell)(b_13:Binds K fd__law_cell ["_law_script","_law_k"] []){a__law_number:Addr}{fd__law_number:FuncData}(c_17:Cal P w K mg base "_law_number" 2 ["_law_script","_law_k"] 2 yh a__law_number fd__law_number)(b_17:Binds K fd__law_number ["_law_script","_law_k"] []){a__law_taken:Addr}{fd__law_taken:FuncData}(c_21:Cal P w K mg base "_law_taken" 1 ["_law_runs","_law_many","_law_basket"] 3 vv a__law_taken fd__law_taken)(b_21:Binds K fd__law_taken ["_law_runs","_law_many","_law_basket"] []){a__law_outgrown:Addr}{fd__law_outgrown:FuncData}(c_18:Cal P w K mg base "_law_outgrown" 1 ["_law_runs","_law_most"] 2 jz a__law_outgrown fd__law_outgrown)(b_18:Binds K fd__law_outgrown ["_law_runs","_law_most"] []){a__law_same:Addr}{fd__law_same:FuncData}(c_19:Cal P w K mg base "_law_same" 17 ["_law_found","_law_due"] 2 ju a__law_same fd__law_same)(b_19:Binds K fd__law_same ["_law_found","_law_due"] []){a_Store_pile:Addr}{fd_Store_pile:FuncData}(c_3:CalF P w K mg base "Store" "pile" C_Store 1 ["self"] 0 jn a_Store_pile fd_Store_pile)(b_3:Binds K fd_Store_pile ["self"] []){a_Store_put:Addr}{fd_Store_put:FuncData}(c_4:CalF P w K mg base "Store" "put" C_Store 5 ["self","many","basket"] 2 vw a_Store_put fd_Store_put)(b_4:Binds K fd_Store_put ["self","many","basket"] [])(n_range:mg "range" = none)(n_tuple:mg "tuple" = none)(n_sum:mg "sum" = none)(hr:Room 17 (A.deeper (envOfC "law" (qc q49) s.heap.objs.size fa cdv))):
  PSs (zk CX0 P w K mg base qc6 "law" (qc q49) fa cdv A outer s H E).nox (qo q49) (tDS K q8b):=by
 unfold q8b q2v;refine(qi ?_ ?_);refine(zq (i:=1) ?_ ?_ ?_ ?_ ?_ ?_);exact xw;exact rfl;exact(Or.inl rfl);refine(qm zm ?_ qe);refine(qm q0x ?_ qe);refine(z0 c_13 b_13 hr (by decide) rfl ?_);walk_at "A";exact(q0 (pv 0));walk_at "A";exact qe;exact qd;exact rfl;walk_at "L";refine(qi ?_ ?_);refine(zq (i:=2) ?_ ?_ ?_ ?_ ?_ ?_);exact xw;exact rfl;exact(Or.inl rfl);refine(qm js qe ?_);refine(qm zm ?_ ?_);refine(qm q0x ?_ qe);refine(z0 c_13 b_13 hr (by decide) rfl ?_);walk_at "A";exact(q0 (pv 0));walk_at "A";exact qe;exact qd;refine(y0 ?_ ?_);refine(y6 ?_);refine(ve ?_);walk_at "A";exact qe;walk_at "A";exact(qm q5k qe qe);exact qd;refine(qm zm ?_ qe);refine(qm q0x ?_ qe);refine(z0 c_13 b_13 hr (by decide) rfl ?_);walk_at "A";exact(q0 (pv 0));walk_at "A";exact qe;exact qd;exact rfl;walk_at "L";refine(qi ?_ ?_);refine(qhg (i:=3) rfl M_Store rfl hr (by decide) rfl kb_Store___init__ ?_ (qh9 ?_ qjb) xw rfl (Or.inl rfl));walk_at "A";exact(q0 (pv 1));exact qd;exact(q0 (pv 2));refine(qi ?_ ?_);refine(zq (i:=4) ?_ ?_ ?_ ?_ ?_ ?_);exact xw;exact rfl;exact(Or.inl rfl);refine(y6 ?_);exact(ve qd);exact rfl;walk_at "L";refine(qi ?_ ?_);refine(q3d u0 rfl ?_ (qx xw rfl (Or.inl rfl) (.inl rfl)) (qi ?_ ?_));refine(q77 rfl n_range ?_);walk_at "A";refine(z0 c_15 b_15 hr (by decide) rfl ?_);walk_at "A";exact(q0 (pv 0));exact qd;exact qd;refine(qaw ?_ (qdh rfl (zb (qx xw rfl (Or.inl rfl) (.inl rfl)) (zb (qx xw rfl (Or.inl rfl) (.inl rfl)) (zb (qx xw rfl (Or.inl rfl) (.inl rfl)) y8)))));refine(z0 c_14 b_14 hr (by decide) rfl ?_);walk_at "A";refine(z0 c_17 b_17 hr (by decide) rfl ?_);walk_at "A";exact(q0 (pv 0));walk_at "A";exact(q0 (pv 5));exact qd;walk_at "A";exact(q0 (pv 1));walk_at "A";exact(q0 (pv 4));exact qd;refine(qi ?_ ?_);refine(j5 ?_ (qi ?_ ?_) (qi ?_ ?_));refine(vd ?_);exact(q0 (pv 6));refine(q54 ?_);refine(q2c O_Store c_5 b_5 hr (by decide) (pv 3) ?_);walk_at "A";exact(q0 (pv 7));walk_at "A";exact(q0 (pv 8));exact qd;refine(qj ?_);refine(zq (i:=4) ?_ ?_ ?_ ?_ ?_ ?_);exact xw;exact rfl;exact(Or.inl rfl);refine(z0 c_21 b_21 hr (by decide) rfl ?_);walk_at "A";exact(q0 (pv 4));walk_at "A";exact(q0 (pv 7));walk_at "A";exact(q0 (pv 8));exact qd;exact rfl;walk_at "L";refine(qaw ?_ (qdh rfl (zb (qx xw rfl (Or.inl rfl) (.inl rfl)) (zb (qx xw rfl (Or.inl rfl) (.inl rfl)) y8))));refine(z0 c_18 b_18 hr (by decide) rfl ?_);walk_at "A";refine(qm js ?_ ?_);exact(q0 (pv 4));refine(y6 ?_);refine(ve ?_);walk_at "A";refine(xh ?_);walk_at "A";exact(q0 (pv 7));walk_at "A";exact(q0 (pv 8));exact qd;exact qd;walk_at "A";exact(q0 (pv 2));exact qd;refine(qj ?_);refine(qdn ?_ ?_ ?_);refine(qdm ?_);refine(qdl ?_);refine(q99 c_19 b_19 hr (by decide) rfl (q2b ?_ ?_));refine(q2c O_Store c_4 b_4 hr (by decide) (pv 3) ?_);walk_at "A";exact(q0 (pv 7));walk_at "A";exact(q0 (pv 8));exact qd;refine(q46 ?_);walk_at "A";exact(q0 (pv 9));exact qd;refine(qj ?_);exact(qw q00);exact zh;refine(qi ?_ ?_);refine(qdn ?_ ?_ ?_);refine(qdm ?_);refine(qdl ?_);refine(q99 c_19 b_19 hr (by decide) rfl (q2b ?_ ?_));exact(qb5 O_Store c_3 b_3 hr (by decide) (pv 3));refine(q46 ?_);walk_at "A";refine(xh ?_);walk_at "A";exact(q0 (pv 1));walk_at "A";refine(q09 (q10) rfl n_tuple DL.boot_tuple ?_);walk_at "A";exact(q0 (pv 4));exact qd;exact qd;exact qd;refine(qj ?_);exact(qw q00);exact zh;refine(qi ?_ ?_);refine(qb6 (i:=10) xw rfl (Or.inl rfl) ?_);refine(q2c O_Store c_2 b_2 hr (by decide) (pv 3) ?_);walk_at "A";exact(xh qd);exact qd;refine(qj ?_);refine(j5 ?_ (qj ?_) zh);refine(PW.pt (q5l ?_ (q38 ?_)));refine(kn ?_);refine(vd ?_);refine(z0 c_19 b_19 hr (by decide) rfl ?_);walk_at "A";exact(q0 (pv 10));walk_at "A";refine(qv (q3g rfl) rfl n_sum DL.boot_sum ?_);walk_at "A";refine(y6 ?_);refine(vh (N':=["_law_own","_law_other"]) (cap:=[none,none]) rfl (xj rfl rfl) (q0a (j7 rfl (j7 rfl kv))) ?_ (fun _ _ _ _ _=>(ko rfl (zb (qx q9v rfl (Or.inl rfl) (.inr rfl)) (zb (qx q9v rfl (Or.inl rfl) (.inr rfl)) y8)))) (fun _ _ _ _ _=>q26) (fun _ _ _ _ _=>?_));refine(y9 ?_);exact(q0 (pv 4));exact(q0 (pv 0));exact qd;exact qd;refine(zg q01 ?_ ?_);exact(q0 (pv 10));exact(q0 (pv 2));exact(qw q00);refine(qj ?_);exact(qw q00)
theorem qjj{fa:Addr}{dV:Value}{fd:FuncData}(F:Fun2 K "law" "law" q49 dV fa fd){C_Store:Addr}(O_Store:ClsF K "Store" C_Store ["wares","window","runs"]){a_Store___init__:Addr}{fd_Store___init__:FuncData}(M_Store:MkF P w K mg base "Store" C_Store 3 ["self","wares","window"] 2 x2 a_Store___init__ fd_Store___init__)(kb_Store___init__:KB K fd_Store___init__ ["self","wares","window"] ["window"] 2 1){a_Store_count:Addr}{fd_Store_count:FuncData}(c_2:CalF P w K mg base "Store" "count" C_Store 3 ["self","some"] 1 vf a_Store_count fd_Store_count)(b_2:Binds K fd_Store_count ["self","some"] []){a__law_many_deeds:Addr}{fd__law_many_deeds:FuncData}(c_15:Cal P w K mg base "_law_many_deeds" 2 ["_law_script"] 1 zy a__law_many_deeds fd__law_many_deeds)(b_15:Binds K fd__law_many_deeds ["_law_script"] []){a__law_deed:Addr}{fd__law_deed:FuncData}(c_14:Cal P w K mg base "_law_deed" 2 ["_law_number_here","_law_wares","_law_runs"] 3 w8 a__law_deed fd__law_deed)(b_14:Binds K fd__law_deed ["_law_number_here","_law_wares","_law_runs"] []){a_Store_take:Addr}{fd_Store_take:FuncData}(c_5:CalF P w K mg base "Store" "take" C_Store 5 ["self","many","basket"] 2 xu a_Store_take fd_Store_take)(b_5:Binds K fd_Store_take ["self","many","basket"] []){a__law_cell:Addr}{fd__law_cell:FuncData}(c_13:Cal P w K mg base "_law_cell" 1 ["_law_script","_law_k"] 2 z8 a__law_cell fd__law_cell)(b_13:Binds K fd__law_cell ["_law_script","_law_k"] []){a__law_number:Addr}{fd__law_number:FuncData}(c_17:Cal P w K mg base "_law_number" 2 ["_law_script","_law_k"] 2 yh a__law_number fd__law_number)(b_17:Binds K fd__law_number ["_law_script","_law_k"] []){a__law_taken:Addr}{fd__law_taken:FuncData}(c_21:Cal P w K mg base "_law_taken" 1 ["_law_runs","_law_many","_law_basket"] 3 vv a__law_taken fd__law_taken)(b_21:Binds K fd__law_taken ["_law_runs","_law_many","_law_basket"] []){a__law_outgrown:Addr}{fd__law_outgrown:FuncData}(c_18:Cal P w K mg base "_law_outgrown" 1 ["_law_runs","_law_most"] 2 jz a__law_outgrown fd__law_outgrown)(b_18:Binds K fd__law_outgrown ["_law_runs","_law_most"] []){a__law_same:Addr}{fd__law_same:FuncData}(c_19:Cal P w K mg base "_law_same" 17 ["_law_found","_law_due"] 2 ju a__law_same fd__law_same)(b_19:Binds K fd__law_same ["_law_found","_law_due"] []){a_Store_pile:Addr}{fd_Store_pile:FuncData}(c_3:CalF P w K mg base "Store" "pile" C_Store 1 ["self"] 0 jn a_Store_pile fd_Store_pile)(b_3:Binds K fd_Store_pile ["self"] []){a_Store_put:Addr}{fd_Store_put:FuncData}(c_4:CalF P w K mg base "Store" "put" C_Store 5 ["self","many","basket"] 2 vw a_Store_put fd_Store_put)(b_4:Binds K fd_Store_put ["self","many","basket"] [])(n_range:mg "range" = none)(n_tuple:mg "tuple" = none)(n_sum:mg "sum" = none): FnOk P w K mg base CX0 18 fa fd ["_law_script"] (spD K 1 qc7):=
 F.okn (k:=17) (n:=11) (ar:=1) (k1:=18) (u:=q8b) qji rfl rfl rfl fun cdv A outer s H E hr=>(by first|(with_reducible exact qdw O_Store M_Store kb_Store___init__ c_2 b_2 c_15 b_15 c_14 b_14 c_5 b_5 c_13 b_13 c_17 b_17 c_21 b_21 c_18 b_18 c_19 b_19 c_3 b_3 c_4 b_4 n_range n_tuple n_sum hr)|exact qdw O_Store M_Store kb_Store___init__ c_2 b_2 c_15 b_15 c_14 b_14 c_5 b_5 c_13 b_13 c_17 b_17 c_21 b_21 c_18 b_18 c_19 b_19 c_3 b_3 c_4 b_4 n_range n_tuple n_sum hr)
end
end My
namespace DL
open PySem L2
theorem q9w(a b:Int): decide (V.int a=V.int b)=decide (a=b):=decide_eq_decide.mpr ⟨fun h=>by injection h,fun h=>by rw [h]⟩
theorem wu(a b:Int): oEq (.int a) (.int b)=some (.bl (decide (a=b))):=by
 simp only [oEq,qf0,flD,q69,gc,nj,g19,q9w]
theorem q6t(a b:Int): q8p (.int a) (.int b)=some (.bl (!decide (a=b))):=by
 simp only [q8p,flD,q69,gc,nj,q9w]
theorem qdx(a b:Bool): oEq (.bl a) (.bl b)=some (.bl (a==b)):=by
 cases a <;> cases b <;> rfl
theorem j0(a b:Int)(h:0<b): oMod (.int a) (.int b)=some (.int (a%b)):=by simp [oMod,oI,h]
theorem xk(a b:Int)(h:0<b)(h2:b<1073741824): oDiv (.int a) (.int b)=some (.int (a / b)):=by simp [oDiv,oI,h,h2]
theorem q7f(a b:Int): jc (.int a) (.int b)=some (.int (a+b)):=rfl
theorem q9x(a b:Int): oSub (.int a) (.int b)=some (.int (a-b)):=rfl
theorem wx(a b:Int): oLt' (.int a) (.int b)=some (.bl (decide (a<b))):=rfl
theorem qb8(a b:Int): oLe (.int a) (.int b)=some (.bl (decide (a<=b))):=rfl
theorem zl(a b:Int): oGt (.int a) (.int b)=some (.bl (decide (b<a))):=rfl
theorem q6u(a b:Int): oGe (.int a) (.int b)=some (.bl (decide (b<=a))):=rfl
theorem wy(a b:Int): oMin [.int a,.int b]=some (.int (if b<a then b else a)):=rfl
theorem qdy(xs ys:List D)(h:xs.length+ys.length<=1000000): jc (.tup xs) (.tup ys)=some (.tup (xs++ys)):=by
 show(oAdd (.tup xs) (.tup ys)).or (q52 (.tup xs) (.tup ys))=_;simp only [oAdd,oI,Option.none_or,q52,lim,gw h]
theorem qdz(xs ys:List D)(h:xs.length+ys.length<=1000000): jc (.lst xs) (.lst ys)=some (.lst (xs++ys)):=by
 show(oAdd (.lst xs) (.lst ys)).or (q52 (.lst xs) (.lst ys))=_;simp only [oAdd,oI,Option.none_or,q52,lim,gw h]
theorem q2w(a b:Int)(h:0<=b)(h2:b<=1000000)(h3:a.natAbs<2 ^ 64): oPow (.int a) (.int b)=some (.int (a ^ b.toNat)):=by simp [oPow,oI,h,h2,h3]
theorem q0e(ns:List Int): q3f [.lst (ns.map .int)]=some (.int ns.sum):=by simp [q3f,o1L,q79]
theorem q60(bs:List Bool): q51 [.lst (bs.map .bl)]=some (.bl (bs.all id)):=by simp [q51,o1L,q5p]
theorem q6v{α : Type}{xs:List α}{i:Int}(h0:0<=i): atI xs i=xs[i.toNat]? :=by
 unfold atI ixN;rw [gw h0]
 by_cases h:i<xs.length
 ·rw [gw h];rfl
 ·rw [m7 h,List.getElem?_eq_none (by omega)];rfl
section
variable{b:FB}{body:FS}{d:D}{ds:List D}{ρ ρ1 ρ2:Rho}
theorem q0f(h1:b d ρ = some ρ1)(h2:body ρ1=some (.nx, ρ2)): runFor b body (d :: ds) ρ = runFor b body ds ρ2:=by simp only [runFor,h1,h2,gc]
end
theorem q61{b:FB}{c:FT}{f:FE}{ρ : Rho}(p:D->Bool)(g:D->D): ∀ {ds:List D},(∀d∈ds,∃ ρ1,b d ρ = some ρ1/\c ρ1=some (p d)/\(p d=true->f ρ1=some (g d)))->jx b c f ρ ds=some ((ds.filter p).map g)
 | [],_=>rfl
 | d :: ds,h=>by
  obtain⟨ρ1,e1,e2,e3⟩:=h d md;have ih:=q61 p g fun e he=>h e (gz _ he);simp only [jx,e1,e2,gc];cases hp:p d with
  | true=>simp only [nj,e3 hp,gc,ih,gx,g0t,hp,ml]
  | false=>simp only [p6,ub,ih,g0t,hp]
theorem q4v{b:FB}{f:FE}{ρ : Rho}(g:D->D){ds:List D}(h:∀d∈ds,∃ ρ1,b d ρ = some ρ1/\f ρ1=some (g d)): jx b vy f ρ ds=some (ds.map g):=by
 have:=q61 (b:=b) (c:=vy) (f:=f) (ρ := ρ) (fun _=>true) g (ds:=ds) fun d hd=>let⟨ρ1,e1,e2⟩:=h d hd; ⟨ρ1,e1,rfl,fun _=>e2⟩
 rw [tj.mpr (fun _ _=>rfl)] at this;exact this
theorem qah(lo:Int)(n:Nat): jl lo (n+1)=.int lo :: jl (lo+1) n:=by
 unfold jl;rw [g13,ml,t7]
 congr 1
 ·simp
 ·apply List.map_congr_left
  intro a _;simp only [Function.comp,Nat.succ_eq_add_one,Int.natCast_add]
  congr 1
  omega
theorem qc8(lo:Int)(n:Nat): (jl lo n).length=n:=by simp [jl]
theorem qb9(fa:FA)(ρ : Rho)(j:Int)(h:fa ρ = some [.int j])(h1 : -(2 ^ 62)<=j)(h2:j<2 ^ 62): iR1 fa ρ = some (jl 0 j.toNat):=by
 simp only [iR1,h,gc,m4 h1,m4 h2,Bool.and_self,nj]
theorem qfp{α : Type}(xs:List D)(k:Nat): cutD xs (some (k:Int)) none=xs.drop k:=by
 unfold cutD;rw [HT.sIx_nat,HT.sIx_none]
 by_cases h:k<=xs.length
 ·rw [Nat.min_eq_left h,ui (by rw [g0o];exact gy _)]
 ·rw [Nat.min_eq_right (by omega),g0q,List.drop_eq_nil_of_le (by omega)];simp
section
variable{ρ ρ1 ρ':Rho}{f g:FE}{d x y z:D}{i n m ar:Nat}{fa fk:FA}{ds es:List D}{t t2:FT}{c:Bool}{u w:FS}{r:Option (Fl×Rho)}
theorem x_c:eC d ρ = some d:=rfl
theorem x_v(h : ρ[i]? = some (some (.fz d))): eV i ρ = some d:=by unfold eV;rw [h]
theorem qr{o:D->D->Option D}(h1:f ρ = some x)(h2:g ρ = some y)(h3:o x y=some z): eOp o f g ρ = some z:=by unfold eOp;rw [h1,gc,h2,gc,h3]
theorem qln{o:D->Option D}(h1:f ρ = some x)(h3:o x=some z): eUn o f ρ = some z:=by unfold eUn;rw [h1,gc,h3]
theorem qh:qf ρ = some []:=rfl
theorem qb(h1:f ρ = some d)(h2:fa ρ = some ds): qa f fa ρ = some (d :: ds):=by unfold qa;rw [h1,gc,h2,gx]
theorem qkt(h1:fa ρ = some ds)(h2:fk ρ = some es)(hn:ds.length=n)(hm:es.length=m): qfd n m fa fk ρ = some (ds++es):=by unfold qfd;rw [h1,gc,h2,gc,gw ⟨hn,hm⟩]
theorem x_call{o:List D->Option D}(h1:fa ρ = some ds)(h2:o ds=some d): qg o fa ρ = some d:=by unfold qg;rw [h1,gc,h2]
theorem z7{o:List D->Option D}{dds:List D}(h1:fa ρ = some ds)(hl:(ds++dds).length=ar)(h2:o (ds++dds)=some d): qg (qq ar dds o) fa ρ = some d:=by unfold qg qq;rw [h1,gc,gw hl,h2]
theorem qjk{o:List D->Option D}(h1:fa ρ = some ds)(hl:ds.length=ar)(h2:o ds=some d): qg (qbz ar o) fa ρ = some d:=by unfold qg qbz;rw [h1,gc,gw hl,h2]
theorem vc(h1:fa ρ = some ds)(hl:ds.length<=lim): v3 fa ρ = some (.tup ds):=by unfold v3;rw [h1,gc,gw hl]
theorem y3(h1:fa ρ = some ds)(hl:ds.length<=lim): v5 fa ρ = some ds:=by unfold v5;rw [h1,gc,gw hl]
theorem x_l(h1:fa ρ = some ds): eL fa ρ = some (.lst ds):=by unfold eL;rw [h1,gx]
theorem qhh{o:List D->Option (List D)}(h1:fa ρ = some ds)(h2:o ds=some es): qbv o fa ρ = some es:=by unfold qbv;rw [h1,gc,h2]
theorem qku(h1:f ρ = some (.bl c)): q6g f ρ = some (.bl (!c)):=by unfold q6g;rw [h1,gc];rfl
theorem q6w(h1:f ρ = some (.bl c))(hc:c=true)(h2:g ρ = some d): yq f g ρ = some d:=by subst hc;unfold yq;rw [h1,gc];exact h2
theorem q6x(h1:f ρ = some (.bl c))(hc:c=false): yq f g ρ = some (.bl false):=by subst hc;unfold yq;rw [h1,gc];rfl
theorem qjl(h1:f ρ = some (.bl c))(hc:c=true): eOr f g ρ = some (.bl true):=by subst hc;unfold eOr;rw [h1,gc];rfl
theorem qjm(h1:f ρ = some (.bl c))(hc:c=false)(h2:g ρ = some d): eOr f g ρ = some d:=by subst hc;unfold eOr;rw [h1,gc];exact h2
theorem qhi(h1:t ρ = some c)(hc:c=true)(h2:f ρ = some d): eIf t f g ρ = some d:=by subst hc;unfold eIf;rw [h1,gc];exact h2
theorem qba(h1:t ρ = some c)(hc:c=false)(h2:g ρ = some d): eIf t f g ρ = some d:=by subst hc;unfold eIf;rw [h1,gc];exact h2
theorem qge{T:Ty}(h1:f ρ = some d): we T f ρ = some (.bl (qy T d)):=by unfold we;rw [h1,gx]
theorem qjn:oNo ρ = some none:=rfl
theorem x_at{k:Int}(h1:f ρ = some (.int k)): oAt f ρ = some (some k):=by unfold oAt;rw [h1,gc]
theorem qjo{lo hi:FO}{a b:Option Int}(h1:f ρ = some x)(h2:lo ρ = some a)(h3:hi ρ = some b)(h4:oSl x a b=some y): eSl f lo hi ρ = some y:=by unfold eSl;rw [h1,gc,h2,gc,h3,gc,h4]
theorem wc{it:FA}{cap:List (Option Nat)}{b:FB}{q:FT}(h1:it ρ = some ds)(hl:ds.length<=lim)(h2:jx b q f (ya cap ρ) ds=some es): vz it cap b q f ρ = some es:=by unfold vz;rw [h1,gc,gw hl,h2]
theorem yi(h1:f ρ = some d)(h2:q0z d=some ds): k8 f ρ = some ds:=by unfold k8;rw [h1,gc,h2]
theorem q9y{xs ys:List D}(h1:fa ρ = some [x,y])(h2:q0z x=some xs)(h3:q0z y=some ys): q6j fa ρ = some (ye xs ys):=by unfold q6j;rw [h1,gc];simp only [h2,h3,gc,gx]
theorem z6{o:D->D->Option D}(h1:f ρ = some x)(h2:g ρ = some y)(h3:o x y=some (.bl c)): zc o f g ρ = some c:=by unfold zc;rw [qr h1 h2 h3,gc];rfl
theorem q1d(h1:f ρ = some d)(h2:q4z d=some c): bT f ρ = some c:=by unfold bT;rw [h1,gc,h2]
theorem q1e(h1:t ρ = some c): km t ρ = some (!c):=by unfold km;rw [h1,gx]
theorem q1f{e:Bool}(h1:t ρ = some c)(hc:c=true)(h2:t2 ρ = some e): q2j t t2 ρ = some e:=by subst hc;unfold q2j;rw [h1,gc];exact h2
theorem q9z(h1:t ρ = some c)(hc:c=false): q2j t t2 ρ = some false:=by subst hc;unfold q2j;rw [h1,gc];rfl
theorem q6y(h1:t ρ = some c)(hc:c=true): bOr t t2 ρ = some true:=by subst hc;unfold bOr;rw [h1,gc];rfl
theorem q0t{e:Bool}(h1:t ρ = some c)(hc:c=false)(h2:t2 ρ = some e): bOr t t2 ρ = some e:=by subst hc;unfold bOr;rw [h1,gc];exact h2
theorem qt(h1:u ρ = some (.nx, ρ1))(h2:w ρ1=r): qp u w ρ = r:=by unfold qp;rw [h1,gc];exact h2
theorem qe0(h1:u ρ = some (.rt d, ρ1)): qp u w ρ = some (.rt d, ρ1):=by unfold qp;rw [h1,gc]
theorem vg(h1:t ρ = some c)(hc:c=true)(h2:u ρ = r): sIf t u w ρ = r:=by subst hc;unfold sIf;rw [h1,gc];exact h2
theorem zw(h1:t ρ = some c)(hc:c=false)(h2:w ρ = r): sIf t u w ρ = r:=by subst hc;unfold sIf;rw [h1,gc];exact h2
theorem jv(h1:f ρ = some d): za f ρ = some (.rt d, ρ):=by unfold za;rw [h1,gx]
theorem zp:zt ρ = some (.nx, ρ):=rfl
theorem jd(h1:f ρ = some d): zo i f ρ = some (.nx, ρ.set i (some (.fz d))):=by unfold zo;rw [h1,gx]
theorem q4a(h1:fa ρ = some ds): q1s i fa ρ = some (.nx, ρ.set i (some (.ow ds))):=by unfold q1s;rw [h1,gx]
theorem wz(h0 : ρ[i]? = some (some (.ow ds)))(h1:f ρ = some d)(hl:ds.length<lim): q3a i f ρ = some (.nx, ρ.set i (some (.ow (ds++[d])))):=by unfold q3a qbu;rw [h0];simp only [gc,h1,gw hl]
theorem q62{it:FA}{b:FB}{body:FS}(h1:it ρ = some ds)(h2:runFor b body ds ρ = r): q2m it b body ρ = r:=by unfold q2m;rw [h1,gc];exact h2
theorem q63(h1:frz i ρ = ρ1)(h2:u ρ1=r): q2k i u ρ = r:=by unfold q2k;rw [h1];exact h2
theorem qe1{b:FB}(h1:f ρ = some d)(h2:b d ρ = some ρ1): q2l f b ρ = some (.nx, ρ1):=by unfold q2l;rw [h1,gc,h2,gx]
theorem xc(h:u (ds.map (fun d=>some (.fz d))++List.replicate (n-ds.length) none)=some (.rt d, ρ')): zd n u ds=some d:=by unfold zd;rw [h]
end
theorem eV0(d:D)(r:Rho): eV 0 (some (.fz d) :: r)=some d:=rfl
theorem eVs(i:Nat)(x:Option B)(r:Rho): eV (i+1) (x :: r)=eV i r:=rfl
theorem q8c(ds:List D): jt [.tup ds]=some (.int ds.length):=rfl
theorem qc9(ds:List D): jt [.lst ds]=some (.int ds.length):=rfl
theorem qlo(i:Int): (match D.int i with | .int i=>some (some i)|_=>none:Option (Option Int))=some (some i):=rfl
theorem qlp(ds:List D)(r:Rho): frz 0 (some (.ow ds) :: r)=some (.fz (.lst ds)) :: r:=rfl
theorem frzs(i:Nat)(x:Option B)(r:Rho): frz (i+1) (x :: r)=x :: frz i r:=by
 unfold frz;rw [pf];cases h:r[i]? with
 | none=>rfl
 | some y=>
  cases y with
  | none=>rfl
  | some z=>cases z <;> rfl
theorem jw(a b:Int)(h : -(2 ^ 64)<b/\b<2 ^ 64): j9 (.int a) (.int b)=some (.int (a*b)):=by
 have h2:(decide (-(2 ^ 64)<b)&&decide (b<2 ^ 64))=true:=by rw [m4 h.1,m4 h.2];rfl
 show(if((decide (-(2 ^ 64)<a)&&decide (a<2 ^ 64)) || (decide (-(2 ^ 64)<b)&&decide (b<2 ^ 64)))=true then some (D.int (a*b)) else none).or _=_;rw [h2,Bool.or_true,gw rfl,g19]
theorem qai(a b:Int)(h : -(2 ^ 64)<a/\a<2 ^ 64): j9 (.int a) (.int b)=some (.int (a*b)):=by
 have h2:(decide (-(2 ^ 64)<a)&&decide (a<2 ^ 64))=true:=by rw [m4 h.1,m4 h.2];rfl
 show(if((decide (-(2 ^ 64)<a)&&decide (a<2 ^ 64)) || (decide (-(2 ^ 64)<b)&&decide (b<2 ^ 64)))=true then some (D.int (a*b)) else none).or _=_;rw [h2,Bool.true_or,gw rfl,g19]
theorem qjp(ds:List D)(i:Int): oIx (.lst ds) (.int i)=atI ds i:=rfl
theorem qlq(ds:List D)(i:Int): oIx (.tup ds) (.int i)=atI ds i:=rfl
theorem qhj{α : Type}(xs:List α)(n:Nat): atI xs (no_index (OfNat.ofNat n:Int))=xs[n]? :=by
 show atI xs (n:Int)=xs[n]?;rw [q6v (show(0:Int)<=(n:Int) by omega)]
 rfl
theorem qfq{α : Type}(xs:List α)(n:Nat): atI xs (n:Int)=xs[n]? :=by
 rw [q6v (show(0:Int)<=(n:Int) by omega)]
 rfl
theorem qhk(ds:List D): qgb [.lst ds]=some ds:=rfl
theorem qhl(ds:List D): qgb [.tup ds]=some ds:=rfl
theorem qfr(ds:List D): kx [.lst ds]=some (.tup ds):=rfl
theorem qfs(ds:List D): kx [.tup ds]=some (.tup ds):=rfl
theorem q1g{n:Nat}{u:FS}{ds:List D}{d:D}(h:(u (ds.map (fun d=>some (.fz d))++List.replicate (n-ds.length) none)).map Prod.fst=some (.rt d)): zd n u ds=some d:=by
 cases e:u (ds.map (fun d=>some (.fz d))++List.replicate (n-ds.length) none) with
 | none=>rw [e] at h;cases h
 | some p=>
  obtain⟨fl, ρ'⟩:=p;rw [e] at h;have h':fl=.rt d:=by simpa using h
  subst h';exact xc e
theorem qhm:qy .int .non=false/\(∀b:Bool,qy .int (.bl b)=true)/\(∀i:Int,qy .int (.int i)=true)/\(∀x:Str,qy .int (.str x)=false)/\(∀ds:List D,qy .int (.tup ds)=false)/\(∀ds:List D,qy .int (.lst ds)=false)/\(∀(ks:List Key) (vs:List D),qy .int (.dct ks vs)=false)/\(∀(ks:List (List Int)) (vs:List D),qy .int (.dtt ks vs)=false)/\qy .bool .non=false/\(∀b:Bool,qy .bool (.bl b)=true)/\(∀i:Int,qy .bool (.int i)=false)/\(∀x:Str,qy .bool (.str x)=false)/\(∀ds:List D,qy .bool (.tup ds)=false)/\(∀ds:List D,qy .bool (.lst ds)=false)/\(∀(ks:List Key) (vs:List D),qy .bool (.dct ks vs)=false)/\(∀(ks:List (List Int)) (vs:List D),qy .bool (.dtt ks vs)=false)/\qy .tuple .non=false/\(∀b:Bool,qy .tuple (.bl b)=false)/\(∀i:Int,qy .tuple (.int i)=false)/\(∀x:Str,qy .tuple (.str x)=false)/\(∀ds:List D,qy .tuple (.tup ds)=true)/\(∀ds:List D,qy .tuple (.lst ds)=false)/\(∀(ks:List Key) (vs:List D),qy .tuple (.dct ks vs)=false)/\(∀(ks:List (List Int)) (vs:List D),qy .tuple (.dtt ks vs)=false)/\qy .list .non=false/\(∀b:Bool,qy .list (.bl b)=false)/\(∀i:Int,qy .list (.int i)=false)/\(∀x:Str,qy .list (.str x)=false)/\(∀ds:List D,qy .list (.tup ds)=false)/\(∀ds:List D,qy .list (.lst ds)=true)/\(∀(ks:List Key) (vs:List D),qy .list (.dct ks vs)=false)/\(∀(ks:List (List Int)) (vs:List D),qy .list (.dtt ks vs)=false)/\qy .str .non=false/\(∀b:Bool,qy .str (.bl b)=false)/\(∀i:Int,qy .str (.int i)=false)/\(∀x:Str,qy .str (.str x)=true)/\(∀ds:List D,qy .str (.tup ds)=false)/\(∀ds:List D,qy .str (.lst ds)=false)/\(∀(ks:List Key) (vs:List D),qy .str (.dct ks vs)=false)/\(∀(ks:List (List Int)) (vs:List D),qy .str (.dtt ks vs)=false)/\qy .dict .non=false/\(∀b:Bool,qy .dict (.bl b)=false)/\(∀i:Int,qy .dict (.int i)=false)/\(∀x:Str,qy .dict (.str x)=false)/\(∀ds:List D,qy .dict (.tup ds)=false)/\(∀ds:List D,qy .dict (.lst ds)=false)/\(∀(ks:List Key) (vs:List D),qy .dict (.dct ks vs)=true)/\(∀(ks:List (List Int)) (vs:List D),qy .dict (.dtt ks vs)=true):=by
 refine⟨?_,?_,?_,?_,?_,?_,?_,?_,?_,?_,?_,?_,?_,?_,?_,?_,?_,?_,?_,?_,?_,?_,?_,?_,?_,?_,?_,?_,?_,?_,?_,?_,?_,?_,?_,?_,?_,?_,?_,?_,?_,?_,?_,?_,?_,?_,?_,?_⟩ <;> intros <;> rfl
theorem q4b{x:Int}{n:Nat}(hn:0<n): ∃k:Nat,k<n/\oMod (.int x) (.int (n:Int))=some (.int (k:Int)):=by
 have h1:=nq x (show(n:Int)≠0 by omega);have h2:=nk x (show(0:Int)<(n:Int) by omega);refine⟨(x%n).toNat,by omega,?_⟩;rw [j0 _ _ (by omega),g07 h1]
section
variable{ρ ρ1 ρ2 ρ':Rho}{f g:FE}{d x y z:D}{i n m ar:Nat}{fa fk:FA}{ds es:List D}{t:FT}{b:Bool}{u w:FS}{r:Option (Fl×Rho)}{c nm:Str}{fs fs':Flds}{fm gm:FM}{am:FAM}{tm:FTM}
theorem q0q(h : ρ[i]? = some (some (.od (c,fs))))(h2:fs.lookup nm=some d): wo c i nm ρ = some d:=by
 unfold wo wg;rw [h];simp only [gc,nj,h2]
theorem q3u(h1:f ρ = some d)(h : ρ[i]? = some (some (.od (c,fs))))(hl:fs.length<100): q1l c i nm f ρ = some (.nx, ρ.set i (some (.od (c,putD nm d fs)))):=by
 unfold q1l wg;rw [h1,h];simp only [gc];rw [gw ⟨trivial,hl⟩]
theorem q1o{op:Flds->List D->Option (Flds×D)}(h : ρ[i]? = some (some (.od (c,fs))))(h1:fa ρ = some ds)(hl:ds.length=ar)(hn:fs.lookup nm=none)(h2:op fs ds=some (fs',d)): kc c nm i ar op fa ρ = some (d, ρ.set i (some (.od (c,fs')))):=by
 unfold kc wg;rw [h,h1];simp only [gc,h2,gx];rw [gw ⟨trivial,hl,by rw [hn];rfl⟩]
theorem qlr(h:f ρ = some d): mP f ρ = some (d, ρ):=by unfold mP;rw [h,gx]
theorem q8d(h:fa ρ = some ds): amP fa ρ = some (ds, ρ):=by unfold amP;rw [h,gx]
theorem q1h(h1:fm ρ = some (d, ρ1))(h2:am ρ1=some (ds, ρ2)): kz fm am ρ = some (d :: ds, ρ2):=by unfold kz;rw [h1,gc,h2,gx]
theorem q4c{o:List D->Option D}{dds:List D}(h1:am ρ = some (ds, ρ1))(hl:(ds++dds).length=ar)(h2:o (ds++dds)=some d): q0o (qq ar dds o) am ρ = some (d, ρ1):=by
 unfold q0o qq;rw [h1,gc,gw hl,h2,gx]
theorem qgf(h1:fm ρ = some (d, ρ1))(h2:q4z d=some b): mbT fm ρ = some (b, ρ1):=by unfold mbT;rw [h1,gc,h2,gx]
theorem qbb(h1:tm ρ = some (b, ρ1)): q47 tm ρ = some (!b, ρ1):=by unfold q47;rw [h1,gx]
theorem qbc(h1:tm ρ = some (b, ρ1))(hb:b=false)(h2:w ρ1=r): q6l tm u w ρ = r:=by subst hb;unfold q6l;rw [h1,gc];exact h2
theorem qjq(h1:fm ρ = some (d, ρ1)): q89 fm ρ = some (.rt d, ρ1):=by unfold q89;rw [h1,gx]
theorem q6z(h1:fm ρ = some (d, ρ1)): q12 fm ρ = some (.nx, ρ1):=by unfold q12;rw [h1,gx]
theorem qe2(h1:fm ρ = some (d, ρ1)): q5t i fm ρ = some (.nx, ρ1.set i (some (.fz d))):=by unfold q5t;rw [h1,gx]
theorem qjr{op:Flds->List D->Option (Flds×D)}(h1:fa ρ = some ds)(h2:fk ρ = some es)(no:q6m i ρ = true)(hn:ds.length+1=n)(hm:es.length=m)(h3:op [] (ds++es)=some (fs,.non)): q8a c i n m op fa fk ρ = some (.nx, ρ.set i (some (.od (c,fs)))):=by
 unfold q8a;rw [h1,gc,h2,gc,gw ⟨no,hn,hm⟩,h3];rfl
theorem q3v(h:u (q2p n c fs ds)=some (.nx, ρ'))(h2 : ρ'[0]? = some (some (.od (c,fs')))): yj n c u fs ds=some (fs',.non):=by unfold yj wg;rw [h];simp only [h2,gc,nj]
theorem q1p(h:u (q2p n c fs ds)=some (.rt d, ρ'))(h2 : ρ'[0]? = some (some (.od (c,fs')))): yj n c u fs ds=some (fs',d):=by unfold yj wg;rw [h];simp only [h2,gc,nj]
end
end DL
open PySem PyProof.Rows L2 DL
local macro_rules | `(tactic| simp! [$a,*])=> `(tactic| simp (config:={decide:=true,implicitDefEqProofs:=false}) only [zd,qp,sIf,zo,za,qkh,zt,q1s,qli,qlj,qki,q2m,q2k,q2l,eOp,eC,eV0,eVs,qg,qa,qf,v3,eL,v5,qbv,eSl,oNo,oAt,qlo,q2j,zc,km,bT,bOr,yq,eOr,q6g,eIf,we,qhm,eUn,isB,q4z,qlm,q8c,qc9,qlp,frzs,k8,q0z,qq,qbz,qfd,bN,je,qs,j6,ya,qj3,ml,g0p,mf,g0z,gv,Nat.reduceAdd,Nat.reduceSub,Nat.reduceEqDiff,List.replicate,List.cons_append,pw,nh,List.set_cons_zero,List.set_cons_succ,List.set_nil,List.getElem?_cons_zero,pf,gc,Option.bind_none,gx,Option.map_none,um,Option.join_none,j0,xk,q7f,q9x,jw,qai,wu,q6t,qdx,wx,qb8,zl,q6u,qfr,qfs,nj,ub,decide_true,decide_false,p6,Bool.not_true,Bool.not_false,and_true,true_and,and_self,ite_true,ite_false,Int.reduceSub,Int.reduceMod,Int.reduceAdd,Int.reduceDiv,Int.reducePow,Int.reduceMul,Int.reduceNeg,Int.reduceEq,Int.reduceLT,Int.reduceLE,Int.reduceToNat,qjp,qlq,qhj,qhk,qhl,q2w,reduceCtorEq,List.isEmpty_nil,List.isEmpty_cons,List.isEmpty_iff, $a,*])
namespace My
open PySem PyProof.Rows L2 DL
local macro_rules | `(tactic| walk_at "xo")=> `(tactic| first|assumption|exact wu _ _|exact q6t _ _|exact qdx _ _|exact j0 _ _ (by decide)|exact xk _ _ (by decide) (by decide)|exact q7f _ _|exact q9x _ _|exact wx _ _|exact qb8 _ _|exact zl _ _|exact q6u _ _|exact wy _ _|rfl)
local macro_rules | `(tactic| walk_at "xb")=> `(tactic| first|assumption|rfl|exact m4 (by omega)|exact gu (by omega)|(simp;done)|(simp;omega))
local macro_rules | `(tactic| walk_at "xe")=> `(tactic| first|assumption|exact x_c|exact x_v rfl|exact qh|exact qjn|(apply qr;(walk_at "xe");(walk_at "xe");(walk_at "xo"))|(apply qln;(walk_at "xe");(walk_at "xo"))|(apply qb;(walk_at "xe");(walk_at "xe"))|(apply vc;(walk_at "xe");(first|decide|(simp only [mf,g0z];decide)))|(apply x_l;(walk_at "xe"))|(apply y3;(walk_at "xe");(first|decide|(simp only [mf,g0z];decide)))|(apply qhh;(walk_at "xe");(walk_at "xo"))|(apply qge;(walk_at "xe"))|(apply qku;(walk_at "xe"))|(apply x_at;(walk_at "xe"))|(apply qjo;(walk_at "xe");(walk_at "xe");(walk_at "xe");(walk_at "xo"))|(apply z7;(walk_at "xe");exact rfl;(walk_at "xo"))|(apply qjk;(walk_at "xe");exact rfl;(walk_at "xo"))|(apply qkt;(walk_at "xe");(walk_at "xe");exact rfl;exact rfl)|(apply x_call;(walk_at "xe");(walk_at "xo"))|(apply yi;(walk_at "xe");(walk_at "xo"))|(apply q9y;(walk_at "xe");(walk_at "xo");(walk_at "xo"))|(apply q6w;(walk_at "xe");(walk_at "xb");(walk_at "xe"))|(apply q6x;(walk_at "xe");(walk_at "xb"))|(apply qjl;(walk_at "xe");(walk_at "xb"))|(apply qjm;(walk_at "xe");(walk_at "xb");(walk_at "xe"))|(apply z6;(walk_at "xe");(walk_at "xe");(walk_at "xo"))|(apply q1d;(walk_at "xe");(walk_at "xo"))|(apply q1e;(walk_at "xe"))|(apply q1f;(walk_at "xe");(walk_at "xb");(walk_at "xe"))|(apply q9z;(walk_at "xe");(walk_at "xb"))|(apply q6y;(walk_at "xe");(walk_at "xb"))|(apply q0t;(walk_at "xe");(walk_at "xb");(walk_at "xe")))
local macro_rules | `(tactic| walk_at "xs")=> `(tactic| first|(apply jd;(walk_at "xe"))|exact zp|(apply jv;(walk_at "xe"))|(apply q4a;(walk_at "xe"))|(apply wz;exact rfl;(walk_at "xe");(walk_at "xo")))
abbrev TI(ns:List Int): D:=.tup (ns.map .int)
abbrev Run:=Int×List Int
abbrev runD(r:Run): D:=.tup [.int r.1,TI r.2]
abbrev q8e(w:Int)(rs:List Run): D:=.tup [.int w,.tup (rs.map runD)]
def j3(rs:List Run): Int:=(rs.map (·.1)).sum
abbrev stF(w M:Int)(rs:List Run): Flds:=[("wares",.int w),("window",.int M),("runs",.tup (rs.map runD))]
theorem q2x(a b:Int): oMax [.int a,.int b]=some (.int (if a<b then b else a)):=rfl
theorem q7g(a b:Int)(h:0<b)(h2:b<18446744073709551616): oDivB (.int a) (.int b)=some (.int (a / b)):=by simp [oDivB,oI,h,h2]
theorem q7h:∀ns:List Int,k9 (ns.map D.int)=0
 | []=>by simp [k9]
 | n :: ns=>by simp only [ml,k9,q53,q7h ns];rfl
theorem qe3:∀ns ms:List Int,yr (ns.map D.int) (ms.map D.int)=true
 | [],ms=>by cases ms <;> rfl
 | n :: ns,[]=>rfl
 | n :: ns,m :: ms=>by simp only [ml,yr,qe3 ns ms,Bool.and_true];rfl
theorem qgg:∀ns ms:List Int,eqL (ns.map D.int) (ms.map D.int)=decide (ns=ms)
 | [],[]=>rfl
 | [],m :: ms=>rfl
 | n :: ns,[]=>rfl
 | n :: ns,m :: ms=>by
  simp only [ml,eqL,qgg ns ms];show((n==m)&&decide (ns=ms))=_;rw [tw];simp
theorem q3w(a b:List Int): oEq (TI a) (TI b)=some (.bl (decide (a=b))):=by
 show(none:Option D).or (if(yr (a.map D.int) (b.map D.int)&&decide (k9 (a.map D.int)<=60))=true then some (D.bl (eqL (a.map D.int) (b.map D.int))) else none)=_;rw [qe3,q7h,qgg];rfl
def isNum:D->Bool
 | .int i=>decide (0<=i)
 | _=>false
theorem q3x(d:D): zu [d]=some (.bl (isNum d)):=by
 cases d <;> rfl
def okW(b:Int): D->Bool
 | .int i=>decide (0<=i)&&decide (i<b)
 | _=>false
theorem qe4(b:Int)(ds:List D): jx (bN 0) vy (yq (qg (qq 1 [] zu) (qa (eV 0) qf)) (eOp oLt' (eV 0) (eV 1))) [none,some (.fz (.int b))] ds=some (ds.map fun d=>.bl (okW b d)):=by
 refine q4v _ fun d _=>⟨_,rfl,?_⟩
 have hc:qg (qq 1 [] zu) (qa (eV 0) qf) [some (.fz d),some (.fz (.int b))]=some (.bl (isNum d)):=z7 (qb (x_v rfl) qh) rfl (q3x d);cases hn:isNum d with
 | false=>
  rw [hn] at hc;have e:okW b d=false:=by
   cases d <;> first|rfl|skip
   simp only [isNum] at hn;simp only [okW,hn,Bool.false_and]
  rw [e];exact q6x hc rfl
 | true=>
  rw [hn] at hc;cases d with
  | int i=>
   simp only [isNum] at hn;have e:okW b (.int i)=decide (i<b):=by simp only [okW,hn,Bool.true_and]
   rw [e];exact q6w hc rfl (qr (x_v rfl) (x_v rfl) (wx _ _))
  | _=>cases hn
abbrev bnd(w:Int): Int:=if 12<w then 12 else w
theorem qca(ds:List D)(p:D->Bool): q51 [.lst (ds.map fun d=>.bl (p d))]=some (.bl (ds.all p)):=by
 have e:(ds.map fun d=>D.bl (p d))=(ds.map p).map D.bl:=by rw [t7];rfl
 rw [e,q60,g1b];rfl
def rise:List Int->Bool
 | x :: y :: r=>decide (x<y)&&rise (y :: r)
 | _=>true
def gLt:D->D
 | .tup [.int a,.int b]=>.bl (decide (a<b))
 | _=>.non
theorem q59:∀ns:List Int,(ye (ns.map .int) ((ns.map .int).drop 1)).map gLt=(List.zipWith (fun a b=>decide (a<b)) ns (ns.drop 1)).map .bl/\(List.zipWith (fun a b=>decide (a<b)) ns (ns.drop 1)).all id=rise ns
 | []=>⟨rfl,rfl⟩
 | [x]=>⟨rfl,rfl⟩
 | x :: y :: r=>by
  obtain⟨h1,h2⟩:=q59 (y :: r)
  constructor
  ·show gLt (.tup [.int x,.int y]) :: (ye ((y :: r).map .int) (((y :: r).map .int).drop 1)).map gLt=_
   rw [h1];rfl
  ·show(decide (x<y)&&(List.zipWith (fun a b=>decide (a<b)) (y :: r) ((y :: r).drop 1)).all id)=_
   rw [h2];rfl
theorem qhn{ns ms:List Int}{d:D}(h:d∈ye (ns.map .int) (ms.map .int)): ∃a b:Int,d=.tup [.int a,.int b]:=by
 unfold ye at h;obtain⟨i,hi⟩:=List.mem_iff_getElem?.mp h;rw [g18] at hi;simp only [ma] at hi;cases z1:ns[i]? with
 | none=>rw [z1] at hi;cases hi
 | some a=>
  cases z2:ms[i]? with
  | none=>rw [z1,z2] at hi;cases hi
  | some b=>rw [z1,z2] at hi;cases hi;exact⟨a,b,rfl⟩
theorem qe5(ns:List Int): jx (je 2 (qs (bN 0) (qs (bN 1) j6))) vy (eOp oLt' (eV 0) (eV 1)) [none,none] (ye (ns.map .int) ((ns.map .int).drop 1))=some ((List.zipWith (fun a b=>decide (a<b)) ns (ns.drop 1)).map .bl):=by
 rw [<- (q59 ns).1];refine q4v _ fun d hd=>?_;rw [<- List.map_drop] at hd;obtain⟨a,b,rfl⟩:=qhn hd;exact⟨_,rfl,qr (x_v rfl) (x_v rfl) (wx _ _)⟩
theorem qaj{ns:List Int}{w:Int}(hl:ns.length<=1000)(h:∀i∈ns,0<=i/\i<bnd w): q16 [TI ns,.int w]=some (.bl (rise ns)):=by
 have hlim:(ns.map D.int).length<=lim:=by rw [gv];exact mj hl (by decide)
 have ho:(ns.map D.int).all (okW (bnd w))=true:=by
  rw [g1b,g0r];intro i hi;obtain⟨h1,h2⟩:=h i hi;simp only [Function.comp,okW,m4 h1,m4 h2,Bool.and_self]
 have h1:=x_l (wc (ρ :=[some (.fz (TI ns)),some (.fz (.int w)),some (.fz (.int (bnd w)))]) (cap:=[none,some 2]) (yi (x_v (i:=0) rfl) rfl) hlim (qe4 (bnd w) (ns.map .int)));have h2:=x_call (qb h1 qh) (qca (ns.map .int) (okW (bnd w)));rw [ho] at h2;refine xc (ρ':=[some (.fz (TI ns)),some (.fz (.int w)),some (.fz (.int (bnd w)))]) (qt (zw (by(walk_at "xe")) (by rfl) zp) (qt (jd (d:=.int (bnd w)) (by(walk_at "xe"))) (qt (zw (c:=false) (q1e (q1d h2 rfl)) rfl zp) (jv ?_))));have hcut:oSl (TI ns) (some 1) none=some (.tup ((ns.map .int).drop 1)):=by
  show some (D.tup (cutD (ns.map .int) (some ((1:Nat):Int)) none))=_;rw [qfp (α :=D)]
 have hz:q6j (qa (eV 0) (qa (eSl (eV 0) (oAt (eC (.int 1))) oNo) qf)) [some (.fz (TI ns)),some (.fz (.int w)),some (.fz (.int (bnd w)))]=some (ye (ns.map .int) ((ns.map .int).drop 1)):=
  q9y (qb (x_v rfl) (qb (qjo (x_v rfl) (x_at x_c) qjn hcut) qh)) rfl rfl
 have hzl:(ye (ns.map .int) ((ns.map .int).drop 1)).length<=lim:=by
  unfold ye;rw [g06];exact mj (Nat.min_le_left _ _) hlim
 have h3:=x_l (wc (cap:=[none,none]) hz hzl (qe5 ns));have h4:=x_call (qb h3 qh) (q60 _);rw [(q59 ns).2] at h4;exact h4
theorem qbd:∀ {ns:List Int},ns.Pairwise (· < ·)->rise ns=true
 | [],_=>rfl
 | [_],_=>rfl
 | x :: y :: r,.cons h t=>by
  show(decide (x<y)&&rise (y :: r))=true;rw [qbd t,m4 (h y md)];rfl
theorem xl{α : Type}{b:FB}{c:FT}{e:FE}{ρ : Rho}(f : α -> D)(p : α -> Bool)(g : α -> D): ∀(as:List α),(∀a∈as,∃ ρ1,b (f a) ρ = some ρ1/\c ρ1=some (p a)/\(p a=true->e ρ1=some (g a)))->jx b c e ρ (as.map f)=some ((as.filter p).map g)
 | [],_=>rfl
 | a :: as,h=>by
  obtain⟨ρ1,e1,e2,e3⟩:=h a md;have ih:=xl f p g as fun x hx=>h x (gz _ hx);simp only [ml,jx,e1,e2,gc,g0t];cases hp:p a with
  | true=>simp only [nj,e3 hp,gc,ih,gx,ml]
  | false=>simp only [p6,ub,ih]
theorem q5a{a lo hi:Int}(h0:0<=a)(h1:lo<=a)(h2:a<=hi): jj [.int a,.int lo,.int hi]=some (.bl true):=by
 have n':zu [.int a]=some (.bl true):=by rw [q3x];simp [isNum,h0]
 (refine q1g ?_;simp! [yu,n',q5s,h1,h2])
structure GoodB(w:Int)(b:List Int): Prop where
 mem:∀x∈b,0<=x/\x<w
 up:b.Pairwise (· < ·)
 len:b.length<=1000
structure GoodR(w:Int)(r:Run): Prop where
 lo:1<=r.1
 hi:r.1<=1000000000000
 b:GoodB w r.2
theorem qft{w many:Int}{b:List Int}(hw:w<=12)(g:GoodR w (many,b)): q18 [.tup [.int many,TI b],.int w]=some (.bl true):=by
 have h1:=q5a (a:=many) (lo:=1) (hi:=1000000000000) (by have:=g.lo;dsimp only at this;omega) g.lo g.hi;have h2:=qaj (ns:=b) (w:=w) g.b.len fun i hi=>by
  have:=g.b.mem i hi;refine⟨this.1,?_⟩;show i<if 12<w then 12 else w
  rw [m7 (by omega)];exact this.2
 rw [qbd g.b.up] at h2
 (refine q1g ?_;simp! [q17,h1,h2])
theorem qho{w M:Int}(h0:0<=w)(h1:w<=12)(h2:1<=M)(h3:M<=1000000000000000): x2 [] [.int w,.int M]=some (stF w M [],.non):=by
 have e1:=q5a (a:=w) (lo:=0) (hi:=12) h0 h0 h1;have e2:=q5a (a:=M) (lo:=1) (hi:=1000000000000000) (by omega) h2 h3;refine q3v (ρ':=[some (.od ("Store",stF w M [])),some (.fz (.int w)),some (.fz (.int M))]) ?_ rfl;refine qt (zw (c:=false) (q1e (q1d (z7 (qb (x_v rfl) (qb x_c (qb x_c qh))) rfl e1) rfl)) rfl zp) ?_;refine qt (zw (c:=false) (q1f (c:=true) (z6 (x_v rfl) x_c rfl) rfl (q1e (q1d (z7 (qb (x_v rfl) (qb x_c (qb x_c qh))) rfl e2) rfl))) rfl zp) ?_;refine qt (ρ1:=[some (.od ("Store",[("wares",.int w)])),some (.fz (.int w)),some (.fz (.int M))]) (q3u (fs:=[]) (x_v rfl) rfl (by show 0<100;decide)) ?_;refine qt (ρ1:=[some (.od ("Store",[("wares",.int w),("window",.int M)])),some (.fz (.int w)),some (.fz (.int M))]) (q3u (fs:=[("wares",.int w)]) (x_v rfl) rfl (by show 1<100;decide)) ?_;exact q3u (fs:=[("wares",.int w),("window",.int M)]) (vc qh (by decide)) rfl (by show 2<100;decide)
theorem qbe(w M:Int)(rs:List Run): jn (stF w M rs) []=some (stF w M rs,q8e w rs):=
 q1p (jv (vc (qb (q0q rfl rfl) (qb (q0q rfl rfl) qh)) (by show 2<=1000000;decide))) rfl
theorem qa0{w M many:Int}{rs:List Run}{b:List Int}(hw:w<=12)(g:GoodR w (many,b)): zi (stF w M rs) [.int many,TI b]=some (stF w M rs,.non):=by
 refine q3v (ρ':=[some (.od ("Store",stF w M rs)),some (.fz (.int many)),some (.fz (TI b))]) ?_ rfl;exact zw (c:=false) (q1e (q1d (z7 (qb (vc (qb (x_v rfl) (qb (x_v rfl) qh)) (by show 2<=1000000;decide)) (qb (q0q rfl rfl) qh)) rfl (qft hw g)) rfl)) rfl zp
theorem q64(c:D)(rs:List Run)(hc:q0z c=some (rs.map runD))(hl:rs.length<=1000): jo [c]=some (.int (j3 rs)):=by
 have h:=xl (b:=bN 0) (c:=vy) (e:=eOp oIx (eV 0) (eC (.int 0))) (ρ :=[none]) runD (fun _=>true) (fun r=>D.int r.1) rs fun r _=>⟨_,rfl,rfl,fun _=>rfl⟩
 rw [tj.mpr (fun _ _=>rfl)] at h;have h':(rs.map fun r=>D.int r.1)=(rs.map (·.1)).map D.int:=by rw [t7];rfl
 rw [h'] at h;have hl2:(rs.map runD).length<=lim:=by rw [gv];exact mj hl (by decide)
 exact xc (ρ':=_) (jv (x_call (qb (x_l (wc (cap:=[none]) (yi (x_v rfl) hc) hl2 h)) qh) (q0e _)))
def q0i(rs:List Run)(b:List Int): List Run:=rs.filter fun r=>decide (r.2=b)
theorem like_eq(rs:List Run)(b:List Int)(hl:rs.length<=1000): yx [.tup (rs.map runD),TI b]=some (.lst ((q0i rs b).map runD)):=by
 have h:=xl (b:=bN 0) (c:=zc oEq (eOp oIx (eV 0) (eC (.int 1))) (eV 1)) (e:=eV 0) (ρ :=[none,some (.fz (TI b))]) runD (fun r=>decide (r.2=b)) runD rs fun r _=>⟨_,rfl,z6 (qr (x_v rfl) x_c rfl) (x_v rfl) (q3w r.2 b),fun _=>rfl⟩
 have hl2:(rs.map runD).length<=lim:=by rw [gv];exact mj hl (by decide)
 exact xc (ρ':=_) (jv (x_l (wc (cap:=[none,some 1]) (yi (x_v rfl) rfl) hl2 h)))
theorem qjs(w M:Int)(rs rs2:List Run)(hl:rs2.length<=1000): xa (stF w M rs) [.tup (rs2.map runD)]=some (stF w M rs,.int (if 0<j3 rs2-M then j3 rs2-M else 0)):=by
 have e:=q64 (.tup (rs2.map runD)) rs2 rfl hl;refine q1p (jv (qba (c:=false) (z6 (q0q rfl rfl) x_c rfl) rfl (x_call (qb x_c (qb (qr (z7 (qb (x_v rfl) qh) rfl e) (q0q rfl rfl) rfl) qh)) (q2x _ _)))) rfl
def j4(sel:Run->Bool)(r:Run)(left:Int): Int:=if sel r then(if left<r.1 then left else r.1) else 0
def part(sel:Run->Bool): List Run->Int->List Run×List Run
 | [],_=>([],[])
 | r :: rs,left=>((if 0<j4 sel r left then [(j4 sel r left,r.2)] else [])++(part sel rs (left-j4 sel r left)).1,(if j4 sel r left<r.1 then [(r.1-j4 sel r left,r.2)] else [])++(part sel rs (left-j4 sel r left)).2)
theorem q5b(sel:Run->Bool): ∀(rs:List Run) (left:Int),(part sel rs left).1.length<=rs.length/\(part sel rs left).2.length<=rs.length
 | [],_=>⟨gy _,gy _⟩
 | r :: rs,left=>by
  obtain⟨h1,h2⟩:=q5b sel rs (left-j4 sel r left);rw [part,m9,m9,mf]
  constructor
  ·split <;> simp <;> omega
  ·split <;> simp <;> omega
abbrev qa1:FT:=bOr (zc (oIs false) (eV 2) (eC .non)) (zc oEq (eV 7) (eV 2))
theorem q4w(sel:Run->Bool)(ch:D)(ht:∀(r:Run) (x0 x1 x3 x4 x5 x6 x8:Option B),qa1 [x0,x1,some (.fz ch),x3,x4,x5,x6,some (.fz (TI r.2)),x8]=some (sel r))(x0 x1:Option B): ∀(rs:List Run) (left:Int) (ga ka:List Run) (b6 b7 b8:Option B),ga.length+rs.length<=1000->ka.length+rs.length<=1000->∃l' b6' b7' b8',
  runFor (je 2 (qs (bN 6) (qs (bN 7) j6))) q05 (rs.map runD) [x0,x1,some (.fz ch),some (.ow (ga.map runD)),some (.ow (ka.map runD)),some (.fz (.int left)),b6,b7,b8] =
   some (.nx,[x0,x1,some (.fz ch),some (.ow ((ga++(part sel rs left).1).map runD)),some (.ow ((ka++(part sel rs left).2).map runD)),some (.fz (.int l')),b6',b7',b8'])
 | [],left,ga,ka,b6,b7,b8,_,_=>⟨left,b6,b7,b8,by simp [runFor,part]⟩
 | r :: rs,left,ga,ka,b6,b7,b8,hg,hk=>by
  rw [mf] at hg hk;have e0:je 2 (qs (bN 6) (qs (bN 7) j6)) (runD r) [x0,x1,some (.fz ch),some (.ow (ga.map runD)),some (.ow (ka.map runD)),some (.fz (.int left)),b6,b7,b8]=some [x0,x1,some (.fz ch),some (.ow (ga.map runD)),some (.ow (ka.map runD)),some (.fz (.int left)),some (.fz (.int r.1)),some (.fz (TI r.2)),b8]:=rfl;have e1:eIf qa1 (qg oMin (qa (eV 6) (qa (eV 5) qf))) (eC (.int 0)) [x0,x1,some (.fz ch),some (.ow (ga.map runD)),some (.ow (ka.map runD)),some (.fz (.int left)),some (.fz (.int r.1)),some (.fz (TI r.2)),b8]=some (.int (j4 sel r left)):=by
   have t:=ht r x0 x1 (some (.ow (ga.map runD))) (some (.ow (ka.map runD))) (some (.fz (.int left))) (some (.fz (.int r.1))) b8;unfold j4;cases hs:sel r with
   | true=>rw [hs] at t;exact qhi t rfl (x_call (qb (x_v rfl) (qb (x_v rfl) qh)) (wy _ _))
   | false=>rw [hs] at t;exact qba t rfl x_c
  have hg':(ga.map runD).length<lim:=by rw [gv];show _<1000000;omega
  have hk':(ka.map runD).length<lim:=by rw [gv];show _<1000000;omega
  generalize hgo:j4 sel r left=g at e1;obtain⟨l',b6',b7',b8',er⟩:=q4w sel ch ht x0 x1 rs (left-g) (ga++if 0<g then [(g,r.2)] else []) (ka++if g<r.1 then [(r.1-g,r.2)] else []) (some (.fz (.int r.1))) (some (.fz (TI r.2))) (some (.fz (.int g)))
   (by rw [m9];split <;> simp <;> omega) (by rw [m9];split <;> simp <;> omega)
  have body:q05 [x0,x1,some (.fz ch),some (.ow (ga.map runD)),some (.ow (ka.map runD)),some (.fz (.int left)),some (.fz (.int r.1)),some (.fz (TI r.2)),b8]=some (.nx,[x0,x1,some (.fz ch),some (.ow ((ga++if 0<g then [(g,r.2)] else []).map runD)),some (.ow ((ka++if g<r.1 then [(r.1-g,r.2)] else []).map runD)),some (.fz (.int (left-g))),some (.fz (.int r.1)),some (.fz (TI r.2)),some (.fz (.int g))]):=by
   refine qt (jd e1) (qt (jd (qr (x_v rfl) (x_v rfl) rfl)) (qt (ρ1:=[x0,x1,some (.fz ch),some (.ow ((ga++if 0<g then [(g,r.2)] else []).map runD)),some (.ow (ka.map runD)),some (.fz (.int (left-g))),some (.fz (.int r.1)),some (.fz (TI r.2)),some (.fz (.int g))]) ?_ ?_))
   ·by_cases hc:0<g
    ·rw [gw hc,nr]
     exact vg (z6 (x_v rfl) x_c (zl _ _)) (m4 hc) (wz rfl (vc (qb (x_v rfl) (qb (x_v rfl) qh)) (by show 2<=1000000;decide)) hg')
    ·rw [m7 hc,nh]
     exact zw (z6 (x_v rfl) x_c (zl _ _)) (gu hc) zp
   ·by_cases hc:g<r.1
    ·rw [gw hc,show(ka++[(r.1-g,r.2)]).map runD=ka.map runD++[runD (r.1-g,r.2)] from by rw [nr];rfl]
     exact vg (z6 (x_v rfl) (x_v rfl) (wx _ _)) (m4 hc) (wz rfl (vc (qb (qr (x_v rfl) (x_v rfl) rfl) (qb (x_v rfl) qh)) (by show 2<=1000000;decide)) hk')
    ·rw [m7 hc,nh]
     exact zw (z6 (x_v rfl) (x_v rfl) (wx _ _)) (gu hc) zp
  refine⟨l',b6',b7',b8',?_⟩;rw [ml,q0f e0 body,er,part,hgo,nu,nu]
theorem q7i(sel:Run->Bool)(ch:D)(ht:∀(r:Run) (x0 x1 x3 x4 x5 x6 x8:Option B),qa1 [x0,x1,some (.fz ch),x3,x4,x5,x6,some (.fz (TI r.2)),x8]=some (sel r))(rs:List Run)(left:Int)(hl:rs.length<=900):
  yg [.tup (rs.map runD),.int left,ch]=some (.tup [.tup ((part sel rs left).1.map runD),.tup ((part sel rs left).2.map runD)]):=by
 obtain⟨l',b6,b7,b8,e⟩:=q4w sel ch ht (some (.fz (.tup (rs.map runD)))) (some (.fz (.int left))) rs left [] [] none none none (by simp;omega) (by simp;omega);rw [pw,pw] at e;refine xc (ρ':=_) (qt (q4a (y3 qh (by decide))) (qt (q4a (y3 qh (by decide))) (qt (jd (x_v rfl)) (qt (q62 (yi (x_v rfl) rfl) e) (q63 rfl (q63 rfl (jv (vc (qb (x_call (qb (x_v rfl) qh) rfl) (qb (x_call (qb (x_v rfl) qh) rfl) qh)) (by show 2<=1000000;decide)))))))))
theorem qhp(r:Run)(x0 x1 x3 x4 x5 x6 x8:Option B): qa1 [x0,x1,some (.fz .non),x3,x4,x5,x6,some (.fz (TI r.2)),x8]=some ((fun _=>true) r):=q6y (c:=true) (z6 (x_v rfl) x_c rfl) rfl
theorem qkv(b:List Int)(r:Run)(x0 x1 x3 x4 x5 x6 x8:Option B): qa1 [x0,x1,some (.fz (TI b)),x3,x4,x5,x6,some (.fz (TI r.2)),x8]=some ((fun r:Run=>decide (r.2=b)) r):=
 q0t (c:=false) (z6 (x_v rfl) x_c rfl) rfl (z6 (x_v rfl) (x_v rfl) (q3w r.2 b))
abbrev jq:Run->Bool:=fun _=>true
abbrev q2y(b:List Int): Run->Bool:=fun r=>decide (r.2=b)
abbrev over(M:Int)(rs:List Run): Int:=if 0<j3 rs-M then j3 rs-M else 0
theorem qjt{w M many:Int}{rs:List Run}{b:List Int}(hw:w<=12)(hl:rs.length<200)(g:GoodR w (many,b)):
  vw (stF w M rs) [.int many,TI b]=some (stF w M (part jq (rs++[(many,b)]) (over M (rs++[(many,b)]))).2,.tup ((part jq (rs++[(many,b)]) (over M (rs++[(many,b)]))).1.map runD)):=by
 have e1:=qa0 (M:=M) (rs:=rs) hw g;have hl2:(rs++[(many,b)]).length<=900:=by rw [m9];simp;omega
 have e2:=qjs w M rs (rs++[(many,b)]) (by omega);have e3:=q7i jq .non qhp (rs++[(many,b)]) (over M (rs++[(many,b)])) hl2;generalize hp:part jq (rs++[(many,b)]) (over M (rs++[(many,b)]))=P at e3 ⊢;have hx:rs.map runD++[runD (many,b)]=(rs++[(many,b)]).map runD:=by rw [nr];rfl
 have e4:jc (.tup (rs.map runD)) (.tup [runD (many,b)])=some (.tup ((rs++[(many,b)]).map runD)):=by
  rw [qdy _ _ (by rw [gv];simp;omega),hx]
 have hge:qg jt (qa (wo "Store" 0 "runs") qf) [some (.od ("Store",stF w M rs)),some (.fz (.int many)),some (.fz (TI b)),none,none]=some (.int (rs.length:Int)):=by
  refine x_call (qb (q0q rfl rfl) qh) ?_;rw [q8c,gv]
 refine q1p (ρ':=[some (.od ("Store",stF w M P.2)),some (.fz (.int many)),some (.fz (TI b)),some (.fz (.tup ((rs++[(many,b)]).map runD))),some (.fz (.tup [.tup (P.1.map runD),.tup (P.2.map runD)]))]) ?_ rfl;refine qt (ρ1:=[some (.od ("Store",stF w M rs)),some (.fz (.int many)),some (.fz (TI b)),none,none]) (q6z (q1o rfl (qb (x_v rfl) (qb (x_v rfl) qh)) rfl rfl e1)) ?_;refine qt (zw (z6 hge x_c (q6u _ _)) (gu (by omega)) zp) ?_;refine qt (ρ1:=[some (.od ("Store",stF w M rs)),some (.fz (.int many)),some (.fz (TI b)),some (.fz (.tup ((rs++[(many,b)]).map runD))),none]) (jd (qr (q0q rfl rfl) (vc (qb (vc (qb (x_v rfl) (qb (x_v rfl) qh)) (by show 2<=1000000;decide)) qh) (by show 1<=1000000;decide)) e4)) ?_;refine qt (ρ1:=[some (.od ("Store",stF w M rs)),some (.fz (.int many)),some (.fz (TI b)),some (.fz (.tup ((rs++[(many,b)]).map runD))),some (.fz (.tup [.tup (P.1.map runD),.tup (P.2.map runD)]))]) (qe2 (q4c (q1h (qlr (x_v rfl)) (q1h (q1o rfl (qb (x_v rfl) qh) rfl rfl e2) (q8d qh))) rfl e3)) ?_;refine qt (ρ1:=[some (.od ("Store",stF w M P.2)),some (.fz (.int many)),some (.fz (TI b)),some (.fz (.tup ((rs++[(many,b)]).map runD))),some (.fz (.tup [.tup (P.1.map runD),.tup (P.2.map runD)]))]) (q3u (fs:=stF w M rs) (qr (x_v rfl) x_c rfl) rfl (by show 3<100;decide)) ?_;exact jv (qr (x_v rfl) x_c rfl)
def there(rs:List Run)(b:List Int): Int:=j3 (q0i rs b)
theorem qhq{w M many:Int}{rs:List Run}{b:List Int}(hw:w<=12)(hl:rs.length<200)(g:GoodR w (many,b))(ht:many<=there rs b):
  xu (stF w M rs) [.int many,TI b]=some (stF w M (part (q2y b) rs many).2,.non):=by
 have e1:=qa0 (M:=M) (rs:=rs) hw g;have e2:=like_eq rs b (by omega);have hll:(q0i rs b).length<=1000:=mj (ur _ _) (by omega);have e3:=q64 (.lst ((q0i rs b).map runD)) (q0i rs b) rfl hll;have e4:=q7i (q2y b) (TI b) (qkv b) rs many (by omega);generalize hp:part (q2y b) rs many=P at e4 ⊢;refine q3v (ρ':=[some (.od ("Store",stF w M P.2)),some (.fz (.int many)),some (.fz (TI b)),some (.fz (.int (there rs b)))]) ?_ rfl;refine qt (ρ1:=[some (.od ("Store",stF w M rs)),some (.fz (.int many)),some (.fz (TI b)),none]) (q6z (q1o rfl (qb (x_v rfl) (qb (x_v rfl) qh)) rfl rfl e1)) ?_;refine qt (ρ1:=[some (.od ("Store",stF w M rs)),some (.fz (.int many)),some (.fz (TI b)),some (.fz (.int (there rs b)))]) (jd (z7 (qb (z7 (qb (q0q rfl rfl) (qb (x_v rfl) qh)) rfl e2) qh) rfl e3)) ?_;refine qt (zw (z6 (x_v rfl) (x_v rfl) (wx _ _)) (gu (by omega)) zp) ?_;exact q3u (fs:=stF w M rs) (qr (z7 (qb (q0q rfl rfl) (qb (x_v rfl) (qb (x_v rfl) qh))) rfl e4) x_c rfl) rfl (by show 3<100;decide)
theorem qe6(b:List Int): xr [.tup [],TI b]=some (.bl true):=rfl
theorem count_eq(w M:Int)(rs:List Run)(hl:rs.length<=1000): vf (stF w M rs) [.tup []]=some (stF w M rs,.int (j3 rs)):=by
 have hl2:(rs.map runD).length<=lim:=by rw [gv];exact mj hl (by decide)
 have h:=xl (b:=je 2 (qs (bN 0) (qs (bN 1) j6))) (c:=bT (qg (qq 2 [] xr) (qa (eV 2) (qa (eV 1) qf)))) (e:=eV 0) (ρ :=[none,none,some (.fz (.tup []))]) runD (fun _=>true) (fun r=>D.int r.1) rs fun r _=>⟨_,rfl,q1d (z7 (qb (x_v rfl) (qb (x_v rfl) qh)) rfl (qe6 r.2)) rfl,fun _=>rfl⟩
 rw [tj.mpr (fun _ _=>rfl),show(rs.map fun r=>D.int r.1)=(rs.map (·.1)).map D.int from by rw [t7];rfl] at h;have hc:q2d [q8e w rs,.tup []]=some (.int (j3 rs)):=xc (ρ':=_) (jv (x_call (qb (x_l (wc (cap:=[none,none,some 1]) (yi (qr (x_v rfl) x_c rfl) rfl) hl2 h)) qh) (q0e _)));exact q1p (ρ':=[some (.od ("Store",stF w M rs)),some (.fz (.tup []))]) (qjq (q4c (q1h (q1o rfl qh rfl rfl (qbe w M rs)) (q8d (qb (x_v rfl) qh))) rfl hc)) rfl
theorem q65(b:List Int)(x0:Option B): ∀(rs:List Run) (left:Int) (ka:List Run) (b4 b5 b6:Option B),ka.length+rs.length<=1000->∃l' b4' b5' b6',
  runFor (je 2 (qs (bN 4) (qs (bN 5) j6))) yn (rs.map runD) [x0,some (.fz (.int left)),some (.fz (TI b)),some (.ow (ka.map runD)),b4,b5,b6] =
   some (.nx,[x0,some (.fz (.int l')),some (.fz (TI b)),some (.ow ((ka++(part (q2y b) rs left).2).map runD)),b4',b5',b6'])
 | [],left,ka,b4,b5,b6,_=>⟨left,b4,b5,b6,by simp [runFor,part]⟩
 | r :: rs,left,ka,b4,b5,b6,hk=>by
  rw [mf] at hk;have e0:je 2 (qs (bN 4) (qs (bN 5) j6)) (runD r) [x0,some (.fz (.int left)),some (.fz (TI b)),some (.ow (ka.map runD)),b4,b5,b6]=some [x0,some (.fz (.int left)),some (.fz (TI b)),some (.ow (ka.map runD)),some (.fz (.int r.1)),some (.fz (TI r.2)),b6]:=rfl;have hk':(ka.map runD).length<lim:=by rw [gv];show _<1000000;omega
  have hg:∃g,j4 (q2y b) r left=g/\qp (zo 6 (eC (.int 0))) (sIf (zc oEq (eV 5) (eV 2)) (zo 6 (qg oMin (qa (eV 4) (qa (eV 1) qf)))) zt) [x0,some (.fz (.int left)),some (.fz (TI b)),some (.ow (ka.map runD)),some (.fz (.int r.1)),some (.fz (TI r.2)),b6]=some (.nx,[x0,some (.fz (.int left)),some (.fz (TI b)),some (.ow (ka.map runD)),some (.fz (.int r.1)),some (.fz (TI r.2)),some (.fz (.int g))]):=by
   refine⟨_,rfl,qt (ρ1:=[x0,some (.fz (.int left)),some (.fz (TI b)),some (.ow (ka.map runD)),some (.fz (.int r.1)),some (.fz (TI r.2)),some (.fz (.int 0))]) rfl ?_⟩;unfold j4 q2y
   by_cases hs:r.2=b
   ·rw [m4 hs,gw rfl]
    exact vg (z6 (x_v rfl) (x_v rfl) (q3w r.2 b)) (m4 hs) (jd (x_call (qb (x_v rfl) (qb (x_v rfl) qh)) (wy _ _)))
   ·rw [gu hs,m7 gq]
    exact zw (z6 (x_v rfl) (x_v rfl) (q3w r.2 b)) (gu hs) zp
  obtain⟨g,hgo,eg⟩:=hg;obtain⟨l',b4',b5',b6',er⟩:=q65 b x0 rs (left-g) (ka++if g<r.1 then [(r.1-g,r.2)] else []) (some (.fz (.int r.1))) (some (.fz (TI r.2))) (some (.fz (.int g))) (by rw [m9];split <;> simp <;> omega);have body:yn [x0,some (.fz (.int left)),some (.fz (TI b)),some (.ow (ka.map runD)),some (.fz (.int r.1)),some (.fz (TI r.2)),b6]=some (.nx,[x0,some (.fz (.int (left-g))),some (.fz (TI b)),some (.ow ((ka++if g<r.1 then [(r.1-g,r.2)] else []).map runD)),some (.fz (.int r.1)),some (.fz (TI r.2)),some (.fz (.int g))]):=by
   have sq:∀ {u v z:FS} {ρ ρ1:Rho},qp u v ρ = some (.nx, ρ1)->qp u (qp v z) ρ = z ρ1:=by
    intro u v z ρ ρ1 h;unfold qp at h ⊢;cases hu:u ρ with
    | none=>rw [hu] at h;cases h
    | some p=>
     obtain⟨fl, ρ2⟩:=p;rw [hu,gc] at h;rw [gc];cases fl <;> dsimp only at h ⊢ <;> first|(rw [h];rfl)|(injection h with h;injection h with h1 h2;cases h1)
   refine(sq eg).trans ?_;refine qt (jd (qr (x_v rfl) (x_v rfl) rfl)) ?_
   by_cases hc:g<r.1
   ·rw [gw hc,nr]
    exact vg (z6 (x_v rfl) (x_v rfl) (zl _ _)) (m4 hc) (wz rfl (vc (qb (qr (x_v rfl) (x_v rfl) rfl) (qb (x_v rfl) qh)) (by show 2<=1000000;decide)) hk')
   ·rw [m7 hc,nh]
    exact zw (z6 (x_v rfl) (x_v rfl) (zl _ _)) (gu hc) zp
  refine⟨l',b4',b5',b6',?_⟩;rw [ml,q0f e0 body,er,part,hgo,nu]
theorem qfu(rs:List Run)(many:Int)(b:List Int)(hl:rs.length<=900): vv [.lst (rs.map runD),.int many,TI b]=some (.lst ((part (q2y b) rs many).2.map runD)):=by
 obtain⟨l',b4,b5,b6,e⟩:=q65 b (some (.fz (.lst (rs.map runD)))) rs many [] none none none (by simp;omega);rw [pw] at e;exact xc (ρ':=_) (qt (q4a (y3 qh (by decide))) (qt (q62 (yi (x_v rfl) rfl) e) (q63 rfl (jv (x_v rfl)))))
theorem qfv{r:Run}(h:1<=r.1)(ov:Int): (if 0<(if ov<r.1 then ov else r.1) then(if ov<r.1 then ov else r.1) else 0)=j4 jq r (if 0<ov then ov else 0):=by
 unfold j4 jq;rw [gw rfl]
 split <;> split <;> (try split) <;> (try split) <;> omega
theorem q7j(x0 x1:Option B): ∀(rs:List Run),(∀r∈rs,1<=r.1)->∀(ov:Int) (ga ka:List Run) (b5 b6 b7:Option B),ga.length+rs.length<=1000->ka.length+rs.length<=1000->∃l' b5' b6' b7',
  runFor (je 2 (qs (bN 5) (qs (bN 6) j6))) xn (rs.map runD) [x0,x1,some (.fz (.int ov)),some (.ow (ga.map runD)),some (.ow (ka.map runD)),b5,b6,b7] =
   some (.nx,[x0,x1,some (.fz (.int l')),some (.ow ((ga++(part jq rs (if 0<ov then ov else 0)).1).map runD)),some (.ow ((ka++(part jq rs (if 0<ov then ov else 0)).2).map runD)),b5',b6',b7'])
 | [],_,ov,ga,ka,b5,b6,b7,_,_=>⟨ov,b5,b6,b7,by simp [runFor,part]⟩
 | r :: rs,hp,ov,ga,ka,b5,b6,b7,hg,hk=>by
  rw [mf] at hg hk;have h1:=hp r md;have e0:je 2 (qs (bN 5) (qs (bN 6) j6)) (runD r) [x0,x1,some (.fz (.int ov)),some (.ow (ga.map runD)),some (.ow (ka.map runD)),b5,b6,b7]=some [x0,x1,some (.fz (.int ov)),some (.ow (ga.map runD)),some (.ow (ka.map runD)),some (.fz (.int r.1)),some (.fz (TI r.2)),b7]:=rfl;have e1:qg oMax (qa (eC (.int 0)) (qa (qg oMin (qa (eV 5) (qa (eV 2) qf))) qf)) [x0,x1,some (.fz (.int ov)),some (.ow (ga.map runD)),some (.ow (ka.map runD)),some (.fz (.int r.1)),some (.fz (TI r.2)),b7]=some (.int (j4 jq r (if 0<ov then ov else 0))):=by
   rw [<- qfv h1 ov];exact x_call (qb x_c (qb (x_call (qb (x_v rfl) (qb (x_v rfl) qh)) (wy _ _)) qh)) (q2x _ _)
  have hg':(ga.map runD).length<lim:=by rw [gv];show _<1000000;omega
  have hk':(ka.map runD).length<lim:=by rw [gv];show _<1000000;omega
  have hnx:(if 0<ov-j4 jq r (if 0<ov then ov else 0) then ov-j4 jq r (if 0<ov then ov else 0) else 0)=(if 0<ov then ov else 0)-j4 jq r (if 0<ov then ov else 0):=by
   unfold j4 jq;rw [gw rfl]
   split <;> split <;> (try split) <;> (try split) <;> omega
  generalize hgo:j4 jq r (if 0<ov then ov else 0)=g at e1 hnx;obtain⟨l',b5',b6',b7',er⟩:=q7j x0 x1 rs (fun x hx=>hp x (gz _ hx)) (ov-g) (ga++if 0<g then [(g,r.2)] else []) (ka++if g<r.1 then [(r.1-g,r.2)] else []) (some (.fz (.int r.1))) (some (.fz (TI r.2))) (some (.fz (.int g)))
   (by rw [m9];split <;> simp <;> omega) (by rw [m9];split <;> simp <;> omega)
  have body:xn [x0,x1,some (.fz (.int ov)),some (.ow (ga.map runD)),some (.ow (ka.map runD)),some (.fz (.int r.1)),some (.fz (TI r.2)),b7]=some (.nx,[x0,x1,some (.fz (.int (ov-g))),some (.ow ((ga++if 0<g then [(g,r.2)] else []).map runD)),some (.ow ((ka++if g<r.1 then [(r.1-g,r.2)] else []).map runD)),some (.fz (.int r.1)),some (.fz (TI r.2)),some (.fz (.int g))]):=by
   refine qt (jd e1) (qt (jd (qr (x_v rfl) (x_v rfl) rfl)) (qt (ρ1:=[x0,x1,some (.fz (.int (ov-g))),some (.ow ((ga++if 0<g then [(g,r.2)] else []).map runD)),some (.ow (ka.map runD)),some (.fz (.int r.1)),some (.fz (TI r.2)),some (.fz (.int g))]) ?_ ?_))
   ·by_cases hc:0<g
    ·rw [gw hc,nr]
     exact vg (z6 (x_v rfl) x_c (zl _ _)) (m4 hc) (wz rfl (vc (qb (x_v rfl) (qb (x_v rfl) qh)) (by show 2<=1000000;decide)) hg')
    ·rw [m7 hc,nh]
     exact zw (z6 (x_v rfl) x_c (zl _ _)) (gu hc) zp
   ·by_cases hc:g<r.1
    ·rw [gw hc,show(ka++[(r.1-g,r.2)]).map runD=ka.map runD++[runD (r.1-g,r.2)] from by rw [nr];rfl]
     exact vg (z6 (x_v rfl) (x_v rfl) (zl _ _)) (m4 hc) (wz rfl (vc (qb (qr (x_v rfl) (x_v rfl) rfl) (qb (x_v rfl) qh)) (by show 2<=1000000;decide)) hk')
    ·rw [m7 hc,nh]
     exact zw (z6 (x_v rfl) (x_v rfl) (zl _ _)) (gu hc) zp
  refine⟨l',b5',b6',b7',?_⟩;rw [ml,q0f e0 body,er,part,hgo,hnx,nu,nu]
theorem qa2(rs:List Run): jx (je 2 (qs (bN 0) (qs (bN 1) j6))) vy (eV 0) [none,none] (rs.map runD)=some ((rs.map (·.1)).map D.int):=by
 have h:=xl (b:=je 2 (qs (bN 0) (qs (bN 1) j6))) (c:=vy) (e:=eV 0) (ρ :=[none,none]) runD (fun _=>true) (fun r=>D.int r.1) rs fun r _=>⟨_,rfl,rfl,fun _=>rfl⟩
 rw [tj.mpr (fun _ _=>rfl)] at h;rw [h,t7];rfl
theorem qak(rs:List Run)(M:Int)(hp:∀r∈rs,1<=r.1)(hl:rs.length<=900): jz [.lst (rs.map runD),.int M]=some (.lst [.tup ((part jq rs (over M rs)).1.map runD),.lst ((part jq rs (over M rs)).2.map runD)]):=by
 obtain⟨l',b5,b6,b7,e⟩:=q7j (some (.fz (.lst (rs.map runD)))) (some (.fz (.int M))) rs hp (j3 rs-M) [] [] none none none (by simp;omega) (by simp;omega);rw [pw,pw] at e;have hl2:(rs.map runD).length<=lim:=by rw [gv];exact mj hl (by decide)
 refine xc (ρ':=_) (qt (jd (qr (x_call (qb (x_l (wc (cap:=[none,none]) (yi (x_v rfl) rfl) hl2 (qa2 rs))) qh) (q0e _)) (x_v rfl) rfl)) (qt (q4a (y3 qh (by decide))) (qt (q4a (y3 qh (by decide))) (qt (q62 (yi (x_v rfl) rfl) e) (q63 rfl (q63 rfl (jv (x_l (y3 (qb (x_call (qb (x_v rfl) qh) rfl) (qb (x_v rfl) qh)) (by show 2<=1000000;decide))))))))))
theorem q70{sel:Run->Bool}{r:Run}{left:Int}(h:1<=r.1)(h0:0<=left): 0<=j4 sel r left/\j4 sel r left<=left/\j4 sel r left<=r.1:=by
 unfold j4
 split
 ·split <;> omega
 ·omega
theorem q3y{w:Int}(sel:Run->Bool): ∀(rs:List Run) (left:Int),(∀r∈rs,GoodR w r)->0<=left->∀r∈(part sel rs left).2,GoodR w r
 | [],_,_,_,r,hr=>by cases hr
 | r0 :: rs,left,hg,h0,r,hr=>by
  have g0:=hg r0 md;obtain⟨q1,q2,q3⟩:=q70 (sel:=sel) g0.lo h0;rw [part] at hr;rcases uu.mp hr with hr|hr
  ·split at hr
   ·cases List.mem_singleton.mp hr
    have:=g0.hi;exact⟨by show 1<=r0.1-_;omega,by show r0.1-_<=_;omega,g0.b⟩
   ·cases hr
  ·exact q3y sel rs _ (fun x hx=>hg x (gz _ hx)) (by omega) r hr
theorem xy(r:Run)(rs:List Run): j3 (r :: rs)=r.1+j3 rs:=by unfold j3;rw [ml,List.sum_cons]
theorem qa3(a b:List Run): j3 (a++b)=j3 a+j3 b:=by unfold j3;rw [nr,List.sum_append]
theorem q4d:∀(rs:List Run),(∀r∈rs,1<=r.1)->0<=j3 rs
 | [],_=>Int.le_refl _
 | r :: rs,h=>by
  have:=q4d rs fun x hx=>h x (gz _ hx);have:=h r md;rw [xy];omega
theorem qa4(sel:Run->Bool): ∀(rs:List Run) (left:Int),(∀r∈rs,1<=r.1)->0<=left->j3 (part sel rs left).2<=j3 rs
 | [],_,_,_=>Int.le_refl _
 | r :: rs,left,h,h0=>by
  obtain⟨q1,q2,q3⟩:=q70 (sel:=sel) (h r md) h0;have ih:=qa4 sel rs (left-j4 sel r left) (fun x hx=>h x (gz _ hx)) (by omega);rw [part,qa3,xy];have:j3 (if j4 sel r left<r.1 then [(r.1-j4 sel r left,r.2)] else [])<=r.1:=by
   split
   ·rw [xy];show r.1-_+0<=_;omega
   ·show 0<=_;have:=h r md;omega
  omega
theorem qa5:∀(rs:List Run) (left:Int),(∀r∈rs,1<=r.1)->0<=left->left<=j3 rs->j3 (part jq rs left).2=j3 rs-left
 | [],left,_,h0,h1=>by
  have:j3 []=0:=rfl;show(0:Int)=_;omega
 | r :: rs,left,h,h0,h1=>by
  have hr:=h r md;obtain⟨q1,q2,q3⟩:=q70 (sel:=jq) hr h0;have hs:=q4d rs fun x hx=>h x (gz _ hx);rw [xy] at h1;have hgo:j4 jq r left=left\/j4 jq r left=r.1:=by
   unfold j4 jq;rw [gw rfl]
   split <;> omega
  have ih:=qa5 rs (left-j4 jq r left) (fun x hx=>h x (gz _ hx)) (by omega) (by omega);rw [part,qa3,xy,ih]
  split
  ·rw [xy];show r.1-_+0+_=_;omega
  ·show 0+_=_;omega
end My
open PySem PyProof.Rows L2 DL
namespace My
open PySem PyProof.Rows L2 DL
theorem yy(ns:List Int)(k:Int)(h0:0<=k): ∃c:Int,z8 [.lst (ns.map .int),.int k]=some (.int c):=by
 by_cases h:k<(ns.length:Int)
 ·have hk:k.toNat<ns.length:=by omega
  have hi:atI (ns.map D.int) k=some (.int ns[k.toNat]):=by rw [q6v h0,ma,g0u hk];rfl
  refine⟨ns[k.toNat],?_⟩
  (refine q1g ?_;simp! [yl,h,hi])
 ·refine⟨0,?_⟩
  (refine q1g ?_;simp! [yl,h])
theorem q1i(c k:Int)(h0:0<=k)(h1:k<=1000000): ∃m,j8 [.int c,.int k]=some (.int m)/\0<=m/\m<2147483579:=by
 have hkk:j9 (.int k) (.int k)=some (.int (k*k)):=jw _ _ ⟨by omega,by omega⟩;have hx:∀x:Int,j9 (.int (x%2147483647)) (.int (x%2147483647))=some (.int ((x%2147483647)*(x%2147483647))):=fun x=>
  jw _ _ ⟨by have:=nq x (show(2147483647:Int)≠0 by decide);omega,by have:=nk x (show(0:Int)<2147483647 by decide);omega⟩
 have hy:∀x y:Int,j9 (.int x) (.int (y%2147483629))=some (.int (x*(y%2147483629))):=fun x y=>
  jw _ _ ⟨by have:=nq y (show(2147483629:Int)≠0 by decide);omega,by have:=nk y (show(0:Int)<2147483629 by decide);omega⟩
 have hl:∀x:Int,j9 (.int x) (.int 48271)=some (.int (x*48271)):=fun x=>jw _ _ ⟨by decide,by decide⟩;have hl2:∀x:Int,j9 (.int x) (.int 7919)=some (.int (x*7919)):=fun x=>jw _ _ ⟨by decide,by decide⟩;have hl3:∀x:Int,j9 (.int x) (.int 69621)=some (.int (x*69621)):=fun x=>jw _ _ ⟨by decide,by decide⟩;have hl4:∀x:Int,j9 (.int x) (.int 40692)=some (.int (x*40692)):=fun x=>jw _ _ ⟨by decide,by decide⟩;have fin:∀x:Int,0<=x%2147483579/\x%2147483579<2147483579:=fun x=>⟨nq x (by decide),nk x (by decide)⟩
 simp! [j8,yw,hkk,hx,hy,hl,hl2,hl3,hl4];exact⟨_,rfl,fin _⟩
theorem qfw(ns:List Int)(hl:ns.length<=63): ∃n:Nat,n<=62/\zy [.lst (ns.map .int)]=some (.int (n:Int)):=by
 obtain⟨c,ec⟩:=yy ns 0 (by decide)
 by_cases h:c%2=0
 ·refine⟨((ns.length:Int)-1).toNat,by omega,?_⟩
  have e:(if 0<(if 62<(ns.length:Int)-1 then 62 else(ns.length:Int)-1) then(if 62<(ns.length:Int)-1 then 62 else(ns.length:Int)-1) else 0)=((((ns.length:Int)-1).toNat:Nat):Int):=by
   split <;> split <;> omega
  rw [<- e]
  (refine q1g ?_;simp! [jg,ec,h,wy,q2x])
 ·obtain⟨m,em,hm,_⟩:=q1i c 3 (by decide) (by decide)
  refine⟨(5+m%16).toNat,by omega,?_⟩;rw [g07 (by omega)]
  (refine q1g ?_;simp! [jg,ec,h,em])
theorem qe7(ns:List Int)(hl:ns.length<=63)(k:Nat)(hk:k<=100): ∃x:Int,yh [.lst (ns.map .int),.int (k:Int)]=some (.int x):=by
 obtain⟨c,ec⟩:=yy ns 0 (by decide)
 by_cases h:c%2=0
 ·obtain⟨c2,ec2⟩:=yy ns (1+(k:Int)) (by omega)
  have hp:oPow (.int 10) (.int 60)=some (.int (10 ^ 60)):=q2w 10 60 (by decide) (by decide) (by decide);have hm:oMod (.int c2) (.int (10 ^ 60))=some (.int (c2%10 ^ 60)):=j0 _ _ (by decide);refine⟨c2%10 ^ 60,?_⟩;refine xc (ρ':=_) (qe0 (vg (z6 (qr (z7 (qb (x_v rfl) (qb x_c qh)) rfl ec) x_c (j0 _ _ (by decide))) x_c (wu _ _)) (m4 h) (jv (qr (z7 (qb (x_v rfl) (qb (qr x_c (x_v rfl) rfl) qh)) rfl ec2) (qr x_c x_c hp) hm))))
 ·have hmx:∃q:Int,1<=q/\oMax [.int 1,.int ((ns.length:Int)-1)]=some (.int q):=⟨_,by split <;> omega,q2x _ _⟩
  obtain⟨q,hq,eq⟩:=hmx;have hmod:oMod (.int (k:Int)) (.int q)=some (.int ((k:Int)%q)):=j0 _ _ (by omega);have hnn:=nq (k:Int) (show q≠0 by omega);obtain⟨c2,ec2⟩:=yy ns (1+(k:Int)%q) (by omega);obtain⟨m1,em1,_⟩:=q1i c2 ((k:Int)+5) (by omega) (by omega);obtain⟨m2,em2,_⟩:=q1i (k:Int) 9 (by decide) (by decide);have ht:j9 (.int m1) (.int 2147483647)=some (.int (m1*2147483647)):=jw _ _ ⟨by decide,by decide⟩;have eln:qg jt (qa (eV 0) qf) [some (.fz (.lst (ns.map .int))),some (.fz (.int (k:Int)))]=some (.int (ns.length:Int)):=by
   refine x_call (qb (x_v rfl) qh) ?_;rw [qc9,gv]
  refine⟨m1*2147483647+m2,?_⟩;refine xc (ρ':=_) (qt (zw (z6 (qr (z7 (qb (x_v rfl) (qb x_c qh)) rfl ec) x_c (j0 _ _ (by decide))) x_c (wu _ _)) (gu h) zp) (jv ?_));refine qr (qr (z7 (qb (z7 (qb (x_v rfl) (qb (qr x_c (qr (x_v rfl) (x_call (qb x_c (qb (qr eln x_c rfl) qh)) eq) hmod) rfl) qh)) rfl ec2) (qb (qr (x_v rfl) x_c rfl) qh)) rfl em1) x_c ht) (z7 (qb (x_v rfl) (qb x_c qh)) rfl em2) rfl
def q1q(mark:Int)(w:Nat): List Int:=((List.range w).filter fun i=>decide (mark / 2 ^ i%2=1)).map fun i:Nat=>(i:Int)
theorem qhr(n:Nat): jl 0 n=(List.range n).map fun i:Nat=>.int (i:Int):=by
 unfold jl;simp only [Int.zero_add]
theorem qju:∀i:Nat,i<6->oIx (.lst [.int 1,.int 2,.int 4,.int 8,.int 16,.int 32]) (.int (i:Int))=some (.int (2 ^ i)):=by
 intro i hi;have:i=0\/i=1\/i=2\/i=3\/i=4\/i=5:=by omega
 rcases this with rfl|rfl|rfl|rfl|rfl|rfl <;> rfl
theorem qjv(mark:Int)(w:Nat)(hw:w<=6): q0d [.int mark,.int (w:Int)]=some (TI (q1q mark w)):=by
 have hp:∀i:Nat,(2:Int) ^ i>0:=fun i=>Int.pow_pos (by decide);have hpl:∀i:Nat,i<6->(2:Int) ^ i<18446744073709551616:=fun i hi=>by
  have:i=0\/i=1\/i=2\/i=3\/i=4\/i=5:=by omega
  rcases this with rfl|rfl|rfl|rfl|rfl|rfl <;> decide
 have h:=xl (b:=bN 0) (c:=zc oEq (eOp oMod (eOp oDivB (eV 1) (eOp oIx (eL (v5 (qa (eC (.int 1)) (qa (eC (.int 2)) (qa (eC (.int 4)) (qa (eC (.int 8)) (qa (eC (.int 16)) (qa (eC (.int 32)) qf)))))))) (eV 0))) (eC (.int 2))) (eC (.int 1))) (e:=eV 0) (ρ :=[none,some (.fz (.int mark))])
  (fun i:Nat=>D.int (i:Int)) (fun i=>decide (mark / 2 ^ i%2=1)) (fun i:Nat=>D.int (i:Int)) (List.range w) fun i hi=>by
   have hi':=g08.mp hi;exact⟨_,rfl,z6 (qr (qr (x_v rfl) (qr (x_l (y3 (qb x_c (qb x_c (qb x_c (qb x_c (qb x_c (qb x_c qh)))))) (by show 6<=1000000;decide))) (x_v rfl) (qju i (by omega))) (q7g _ _ (hp i) (hpl i (by omega)))) x_c (j0 _ _ (by decide))) x_c (wu _ _),fun _=>rfl⟩
 rw [<- qhr] at h;have hl:(jl 0 w).length<=lim:=by rw [qc8];show _<=1000000;omega
 have hr:iR1 (qa (eV 1) qf) [some (.fz (.int mark)),some (.fz (.int (w:Int)))]=some (jl 0 w):=by
  rw [qb9 _ _ (w:Int) (qb (x_v rfl) qh) (by omega) (by omega),t4]
 have ht:((List.range w).filter fun i=>decide (mark / 2 ^ i%2=1)).map (fun i:Nat=>D.int (i:Int))=(q1q mark w).map D.int:=by unfold q1q;rw [t7];rfl
 rw [ht] at h;exact xc (ρ':=_) (jv (x_call (qb (x_l (wc (cap:=[none,some 0]) hr hl h)) qh) rfl))
theorem qcb(mark:Int)(w:Nat)(hw:w<=6): GoodB (w:Int) (q1q mark w):=by
 refine⟨fun x hx=>?_,?_,?_⟩
 ·unfold q1q at hx
  obtain⟨i,hi,rfl⟩:=g1c.mp hx;have:=g08.mp (pj.mp hi).1;omega
 ·unfold q1q
  rw [List.pairwise_map];refine List.Pairwise.imp ?_ (List.Pairwise.filter _ (List.pairwise_lt_range (n:=w)));intro a b h;omega
 ·unfold q1q
  rw [gv];exact mj (ur _ _) (by rw [List.length_range];omega)
theorem qfx(rs:List Run)(b:List Int)(hl:rs.length<=1000): vo [.lst (rs.map runD),TI b]=some (.int (there rs b)):=by
 have h:=xl (b:=je 2 (qs (bN 0) (qs (bN 1) j6))) (c:=zc oEq (eV 1) (eV 2)) (e:=eV 0) (ρ :=[none,none,some (.fz (TI b))]) runD (fun r=>decide (r.2=b)) (fun r=>D.int r.1) rs fun r _=>⟨_,rfl,z6 (x_v rfl) (x_v rfl) (q3w r.2 b),fun _=>rfl⟩
 have ht:((rs.filter fun r=>decide (r.2=b)).map fun r=>D.int r.1)=((q0i rs b).map (·.1)).map D.int:=by unfold q0i;rw [t7];rfl
 rw [ht] at h;have hl2:(rs.map runD).length<=lim:=by rw [gv];exact mj hl (by decide)
 exact xc (ρ':=_) (jv (x_call (qb (x_l (wc (cap:=[none,none,some 1]) (yi (x_v rfl) rfl) hl2 h)) qh) (q0e _)))
theorem qe8{w:Int}{rs:List Run}(h:∀r∈rs,GoodR w r){r:Run}(hr:r∈rs): 1<=there rs r.2:=by
 unfold there;have hm:r∈q0i rs r.2:=pj.mpr ⟨hr,m4 rfl⟩;have hg:∀x∈q0i rs r.2,1<=x.1:=fun x hx=>(h x (pj.mp hx).1).lo;generalize q0i rs r.2=l at hm hg
 induction l with
 | nil=>cases hm
 | cons y l ih=>
  rw [xy];have h1:=hg y md;have h2:=q4d l fun x hx=>hg x (gz _ hx);omega
theorem qfy{w:Int}{rs:List Run}(h:∀r∈rs,GoodR w r)(hl:rs.length<=1000)(b:List Int): there rs b<18446744073709551616:=by
 unfold there;have hg:∀x∈q0i rs b,x.1<=1000000000000:=fun x hx=>(h x (pj.mp hx).1).hi;have hll:(q0i rs b).length<=1000:=mj (ur _ _) hl;have key:∀l:List Run,(∀x∈l,x.1<=1000000000000)->j3 l<=(l.length:Int)*1000000000000:=by
  intro l hg
  induction l with
  | nil=>exact Int.le_refl _
  | cons y l ih=>
   have h1:=hg y md;have h2:=ih fun x hx=>hg x (gz _ hx);rw [xy,mf];omega
 have:=key _ hg;omega
end My
open PySem PyProof.Rows L2 DL
namespace My
open PySem PyProof.Rows L2 DL
theorem qls:∀k:Nat,k<4->∃q:Int,1<=q/\q<=1000000000000/\oIx (.lst [.int 9,.int 9,.int 60,.int (10 ^ 12)]) (.int (k:Int))=some (.int q):=by
 intro k hk;have:k=0\/k=1\/k=2\/k=3:=by omega
 rcases this with rfl|rfl|rfl|rfl
 ·exact⟨9,by decide,by decide,rfl⟩
 ·exact⟨9,by decide,by decide,rfl⟩
 ·exact⟨60,by decide,by decide,rfl⟩
 ·exact⟨10 ^ 12,by decide,by decide,rfl⟩
theorem qhs(x:Int)(w:Nat)(rs:List Run)(hw:w<=6)(hg:∀r∈rs,GoodR (w:Int) r)(hl:rs.length<=900): ∃(tk:Bool) (many:Int) (b:List Int),
  w8 [.int x,.int (w:Int),.lst (rs.map runD)]=some (.lst [.bl tk,.int many,TI b])/\GoodR (w:Int) (many,b)/\(tk=true->many<=there rs b):=by
 have e1:=qjv (x / 8%64) w hw;have gb:=qcb (x / 8%64) w hw;generalize q1q (x / 8%64) w=b0 at e1 gb;obtain⟨k4,hk4,em4⟩:=q4b (x:=x / 512) (n:=4) (by decide);obtain⟨q,q1,q2,eq⟩:=qls k4 hk4;have hp12:oPow (.int 10) (.int 12)=some (.int (10 ^ 12)):=q2w 10 12 (by decide) (by decide) (by decide);have hmq:oMod (.int (x / 8192)) (.int q)=some (.int (x / 8192%q)):=j0 _ _ (by omega);have hm0:=nq (x / 8192) (show q≠0 by omega);have hm1:=nk (x / 8192) (show 0<q by omega);have hd8:oDiv (.int x) (.int 8)=some (.int (x / 8)):=xk _ _ (by decide) (by decide);have hm8:oMod (.int x) (.int 8)=some (.int (x%8)):=j0 _ _ (by decide);have elen:∀s3 s4 s5:Option B,qg jt (qa (eV 2) qf) [some (.fz (.int x)),some (.fz (.int (w:Int))),some (.fz (.lst (rs.map runD))),s3,s4,s5]=some (.int (rs.length:Int)):=fun s3 s4 s5=>by
  refine x_call (qb (x_v rfl) qh) ?_;rw [qc9,gv]
 have c8:∀s3 s4 s5:Option B,eOp oGt (eOp oMod (eV 0) (eC (.int 8))) (eC (.int 5)) [some (.fz (.int x)),some (.fz (.int (w:Int))),some (.fz (.lst (rs.map runD))),s3,s4,s5]=some (.bl (decide (5<x%8))):=fun s3 s4 s5=>qr (qr (x_v rfl) x_c hm8) x_c (zl _ _)
 -- the answer, once the slots are known
 have fin:∀(many:Int) (b:List Int),∃tk,(tk=true↔(5<x%8/\0<rs.length))/\za (eL (v5 (qa (yq (eOp oGt (eOp oMod (eV 0) (eC (.int 8))) (eC (.int 5))) (eOp oGt (qg jt (qa (eV 2) qf)) (eC (.int 0)))) (qa (eV 5) (qa (eV 3) qf))))) [some (.fz (.int x)),some (.fz (.int (w:Int))),some (.fz (.lst (rs.map runD))),some (.fz (TI b)),some (.fz (.int (x / 8192))),some (.fz (.int many))]=some (.rt (.lst [.bl tk,.int many,TI b]),[some (.fz (.int x)),some (.fz (.int (w:Int))),some (.fz (.lst (rs.map runD))),some (.fz (TI b)),some (.fz (.int (x / 8192))),some (.fz (.int many))]):=by
  intro many b
  by_cases h5:5<x%8
  ·refine⟨decide ((0:Int)<(rs.length:Int)),by rw [decide_eq_true_iff];omega,?_⟩
   exact jv (x_l (y3 (qb (q6w (c8 _ _ _) (m4 h5) (qr (elen _ _ _) x_c (zl _ _))) (qb (x_v rfl) (qb (x_v rfl) qh))) (by show 3<=1000000;decide)))
  ·refine⟨false,by constructor <;> intro h;cases h;omega,?_⟩
   exact jv (x_l (y3 (qb (q6x (c8 _ _ _) (gu h5)) (qb (x_v rfl) (qb (x_v rfl) qh))) (by show 3<=1000000;decide)))
 -- what stands in the slots
 have mid:∃(many:Int) (b:List Int),GoodR (w:Int) (many,b)/\((5<x%8/\0<rs.length)->many<=there rs b) /\
   sIf (q2j (zc oGt (qg jt (qa (eV 2) qf)) (eC (.int 0))) (bOr (zc oGt (eOp oMod (eV 0) (eC (.int 8))) (eC (.int 5))) (zc oEq (eOp oMod (eOp oDiv (eV 0) (eC (.int 2048))) (eC (.int 4))) (eC (.int 0))))) (qp (zo 3 (eOp oIx (eOp oIx (eV 2) (eOp oMod (eV 4) (qg jt (qa (eV 2) qf)))) (eC (.int 1)))) (sIf (zc oGt (eOp oMod (eV 0) (eC (.int 8))) (eC (.int 5))) (zo 5 (qg oMin (qa (eOp oPow (eC (.int 10)) (eC (.int 12))) (qa (eOp jc (eC (.int 1)) (eOp oMod (eOp oDivB (eV 4) (qg jt (qa (eV 2) qf))) (qg (qq 2 [] vo) (qa (eV 2) (qa (eV 3) qf))))) qf)))) zt)) zt
    [some (.fz (.int x)),some (.fz (.int (w:Int))),some (.fz (.lst (rs.map runD))),some (.fz (TI b0)),some (.fz (.int (x / 8192))),some (.fz (.int (1+x / 8192%q)))]=some (.nx,[some (.fz (.int x)),some (.fz (.int (w:Int))),some (.fz (.lst (rs.map runD))),some (.fz (TI b)),some (.fz (.int (x / 8192))),some (.fz (.int many))]):=by
  have g0:GoodR (w:Int) (1+x / 8192%q,b0):=⟨by show 1<=1+x / 8192%q;omega,by show 1+x / 8192%q<=_;omega,gb⟩
  by_cases hn:0<rs.length
  ·have tl:zc oGt (qg jt (qa (eV 2) qf)) (eC (.int 0)) [some (.fz (.int x)),some (.fz (.int (w:Int))),some (.fz (.lst (rs.map runD))),some (.fz (TI b0)),some (.fz (.int (x / 8192))),some (.fz (.int (1+x / 8192%q)))]=some true:=by
    rw [z6 (elen _ _ _) x_c (zl _ _),m4 (by omega)]
   obtain⟨j,hj,ej⟩:=q4b (x:=x / 8192) (n:=rs.length) hn;have hix:oIx (.lst (rs.map runD)) (.int (j:Int))=some (runD rs[j]):=by
    rw [qjp,qfq,ma,g0u hj];rfl
   have hrj:=hg rs[j] (List.getElem_mem hj);have s3:∀s5:Option B,eOp oIx (eOp oIx (eV 2) (eOp oMod (eV 4) (qg jt (qa (eV 2) qf)))) (eC (.int 1)) [some (.fz (.int x)),some (.fz (.int (w:Int))),some (.fz (.lst (rs.map runD))),some (.fz (TI b0)),some (.fz (.int (x / 8192))),s5]=some (TI rs[j].2):=fun s5=>qr (qr (x_v rfl) (qr (x_v rfl) (elen _ _ _) ej) hix) x_c rfl
   by_cases h5:5<x%8
   ·have et:=qfx rs rs[j].2 (by omega)
    have tp:=qe8 hg (List.getElem_mem hj);have tlt:=qfy hg (by omega) rs[j].2;have hdv:oDivB (.int (x / 8192)) (.int (rs.length:Int))=some (.int (x / 8192 / (rs.length:Int))):=q7g _ _ (by omega) (by omega);have hmd:oMod (.int (x / 8192 / (rs.length:Int))) (.int (there rs rs[j].2))=some (.int (x / 8192 / (rs.length:Int)%there rs rs[j].2)):=j0 _ _ (by omega);have n0:=nq (x / 8192 / (rs.length:Int)) (show there rs rs[j].2≠0 by omega);have n1:=nk (x / 8192 / (rs.length:Int)) (show 0<there rs rs[j].2 by omega);have hmn:∃m:Int,(if 1+x / 8192 / (rs.length:Int)%there rs rs[j].2<10 ^ 12 then 1+x / 8192 / (rs.length:Int)%there rs rs[j].2 else 10 ^ 12)=m/\1<=m/\m<=1000000000000/\m<=there rs rs[j].2:=⟨_,rfl,by split <;> omega,by split <;> omega,by split <;> omega⟩
    obtain⟨m,em,m1,m2,m3⟩:=hmn;refine⟨m,rs[j].2,⟨m1,m2,hrj.b⟩,fun _=>m3,?_⟩
    ·refine vg (c:=true) (q1f tl rfl (q6y (z6 (qr (x_v rfl) x_c hm8) x_c (zl _ _)) (m4 h5))) rfl (qt (jd (s3 _)) ?_)
     exact vg (z6 (qr (x_v rfl) x_c hm8) x_c (zl _ _)) (m4 h5) (jd (x_call (qb (qr x_c x_c hp12) (qb (qr x_c (qr (qr (x_v rfl) (elen _ _ _) hdv) (z7 (qb (x_v rfl) (qb (x_v rfl) qh)) rfl et) hmd) rfl) qh)) ((wy _ _).trans (by rw [em]))))
   ·by_cases h4:x / 2048%4=0
    ·refine⟨1+x / 8192%q,rs[j].2,⟨g0.lo,g0.hi,hrj.b⟩,fun z=>absurd z.1 h5,?_⟩
     refine vg (c:=true) (q1f tl rfl (q0t (z6 (qr (x_v rfl) x_c hm8) x_c (zl _ _)) (gu h5) ?_)) rfl (qt (jd (s3 _)) ?_)
     ·rw [z6 (qr (qr (x_v rfl) x_c (xk _ _ (by decide) (by decide))) x_c (j0 _ _ (by decide))) x_c (wu _ _),m4 h4]
     ·exact zw (z6 (qr (x_v rfl) x_c hm8) x_c (zl _ _)) (gu h5) zp
    ·refine⟨1+x / 8192%q,b0,g0,fun z=>absurd z.1 h5,?_⟩
     refine zw (c:=false) (q1f tl rfl (q0t (z6 (qr (x_v rfl) x_c hm8) x_c (zl _ _)) (gu h5) ?_)) rfl zp;rw [z6 (qr (qr (x_v rfl) x_c (xk _ _ (by decide) (by decide))) x_c (j0 _ _ (by decide))) x_c (wu _ _),gu h4]
  ·refine⟨1+x / 8192%q,b0,g0,fun z=>absurd z.2 hn,?_⟩
   exact zw (c:=false) (q9z (z6 (elen _ _ _) x_c (zl _ _)) (gu (by omega))) rfl zp
 obtain⟨many,b,gr,hth,em⟩:=mid;obtain⟨tk,htk,ef⟩:=fin many b;refine⟨tk,many,b,?_,gr,fun h=>hth (htk.mp h)⟩;refine xc (ρ':=_) (qt (jd (z7 (qb (qr (qr (x_v rfl) x_c hd8) x_c (j0 _ _ (by decide))) (qb (x_v rfl) qh)) rfl e1)) (qt (jd (qr (x_v rfl) x_c (xk _ _ (by decide) (by decide)))) (qt (jd (qr x_c (qr (x_v rfl) (qr (x_l (y3 (qb x_c (qb x_c (qb x_c (qb (qr x_c x_c hp12) qh)))) (by show 4<=1000000;decide))) (qr (qr (x_v rfl) x_c (xk _ _ (by decide) (by decide))) x_c em4) eq) hmq) rfl)) (qt em ef))))
def q66:Nat->D->Prop
 | 0,_=>False
 | _+1,.int _=>True
 | n+1,.tup ds=>∀x∈ds,q66 n x
 | _,_=>False
theorem q7k(rc:List D->Option D)(x0 x1:Option B): ∀(ds:List D),(∀x∈ds,rc [x,x]=some (.bl true))->∀b2 b3:Option B,∃b2' b3',runFor (je 2 (qs (bN 2) (qs (bN 3) j6))) (k6 rc) (ye ds ds) [x0,x1,b2,b3]=some (.nx,[x0,x1,b2',b3'])
 | [],_,b2,b3=>⟨b2,b3,rfl⟩
 | d :: ds,h,b2,b3=>by
  obtain⟨b2',b3',e⟩:=q7k rc x0 x1 ds (fun x hx=>h x (gz _ hx)) (some (.fz d)) (some (.fz d));have z:ye (d :: ds) (d :: ds)=.tup [d,d] :: ye ds ds:=rfl;have e0:je 2 (qs (bN 2) (qs (bN 3) j6)) (.tup [d,d]) [x0,x1,b2,b3]=some [x0,x1,some (.fz d),some (.fz d)]:=rfl;have body:k6 rc [x0,x1,some (.fz d),some (.fz d)]=some (.nx,[x0,x1,some (.fz d),some (.fz d)]):=
   zw (c:=false) (q1e (q1d (z7 (qb (x_v rfl) (qb (x_v rfl) qh)) rfl (h d md)) rfl)) rfl zp
  exact⟨b2',b3',by rw [z,q0f e0 body,e]⟩
theorem same_refl:∀(n:Nat) (d:D),q66 n d->F_law_same n [d,d]=some (.bl true)
 | 0,_,h=>h.elim
 | n+1,.int a,_=>by
  refine Eq.trans (show F_law_same (n+1) [.int a,.int a]=zd 4 (va (F_law_same n)) [.int a,.int a] from rfl) ?_
  (refine q1g ?_;simp! [va])
 | n+1,.tup ds,h=>by
  obtain⟨b2,b3,e⟩:=q7k (F_law_same n) (some (.fz (.tup ds))) (some (.fz (.tup ds))) ds (fun x hx=>same_refl n x (h x hx)) none none;show zd 4 (va (F_law_same n)) _=_;have t1:km (bT (we .tuple (eV 0))) [some (.fz (.tup ds)),some (.fz (.tup ds)),none,none]=some false:=rfl;refine xc (ρ':=_) (qe0 (vg (c:=true) (q1d (qge (x_v rfl)) rfl) rfl (qt (zw (c:=false) (q0t (c:=false) t1 rfl ?_) rfl zp) (qt (q62 (q9y (qb (x_v rfl) (qb (x_v rfl) qh)) rfl rfl) e) (jv x_c)))));rw [z6 (x_call (qb (x_v rfl) qh) (q8c _)) (x_call (qb (x_v rfl) qh) (q8c _)) (q6t _ _)];simp
theorem qfz(n:Nat)(b:List Int): q66 (n+2) (TI b):=fun x hx=>by
 obtain⟨i,_,rfl⟩:=g1c.mp hx
 trivial
theorem q67(n:Nat)(rs:List Run): q66 (n+4) (.tup (rs.map runD)):=fun x hx=>by
 obtain⟨r,_,rfl⟩:=g1c.mp hx;intro y hy;simp only [mv,p0,uo] at hy;rcases hy with rfl|rfl
 ·trivial
 ·exact qfz n r.2
theorem qe9(rs:List Run): ju [.tup (rs.map runD),.tup (rs.map runD)]=some (.bl true):=same_refl 16 _ (q67 12 rs)
theorem qea(w:Int)(rs:List Run): ju [q8e w rs,q8e w rs]=some (.bl true):=same_refl 16 _ fun x hx=>by
 simp only [mv,p0,uo] at hx;rcases hx with rfl|rfl
 ·trivial
 ·exact q67 11 rs
theorem same_int(a:Int): ju [.int a,.int a]=some (.bl true):=same_refl 16 _ trivial
structure Ok(w:Nat)(M:Int)(k:Nat)(rs:List Run): Prop where
 g:∀r∈rs,GoodR (w:Int) r
 s:j3 rs<=M
 l:rs.length<=k
theorem qg0(ns:List Int)(hl:ns.length<=63)(w:Nat)(hw:w<=6)(M:Int)(hM:1<=M)(k:Nat)(hk:k<62)(rs:List Run)(o:Ok w M k rs)(b6 b7 b8 b9 b10:Option B): ∃rs' b6' b7' b8' b9' b10',Ok w M (k+1) rs' /\
  q2v [some (.fz (.lst (ns.map .int))),some (.fz (.int (w:Int))),some (.fz (.int M)),some (.od ("Store",stF (w:Int) M rs)),some (.fz (.lst (rs.map runD))),some (.fz (.int (k:Int))),b6,b7,b8,b9,b10] =
   some (.nx,[some (.fz (.lst (ns.map .int))),some (.fz (.int (w:Int))),some (.fz (.int M)),some (.od ("Store",stF (w:Int) M rs')),some (.fz (.lst (rs'.map runD))),some (.fz (.int (k:Int))),b6',b7',b8',b9',b10']):=by
 obtain⟨x,ex⟩:=qe7 ns hl k (by omega);have hlk:=o.l;obtain⟨tk,many,b,ed,gr,hth⟩:=qhs x w rs hw o.g (by omega);have hp:∀r∈rs,1<=r.1:=fun r hr=>(o.g r hr).lo;have hw12:(w:Int)<=12:=by omega
 -- behind the deed
 have mid:∃rs' b9',Ok w M (k+1) rs' /\
   (sIf (bT (eV 6)) (qp (q12 (kc "Store" "take" 3 2 xu (qa (eV 7) (qa (eV 8) qf)))) (zo 4 (qg (qq 3 [] vv) (qa (eV 4) (qa (eV 7) (qa (eV 8) qf)))))) (qp (q2l (qg (qq 2 [] jz) (qa (eOp jc (eV 4) (eL (v5 (qa (v3 (qa (eV 7) (qa (eV 8) qf))) qf)))) (qa (eV 2) qf))) (q97 2 (qs (bN 9) (qs (bN 4) j6)))) (q6l (q47 (mbT (q0o (qq 2 [] ju) (kz (kc "Store" "put" 3 2 vw (qa (eV 7) (qa (eV 8) qf))) (amP (qa (eV 9) qf)))))) (za (eC (.bl false))) zt)))
    [some (.fz (.lst (ns.map .int))),some (.fz (.int (w:Int))),some (.fz (.int M)),some (.od ("Store",stF (w:Int) M rs)),some (.fz (.lst (rs.map runD))),some (.fz (.int (k:Int))),some (.fz (.bl tk)),some (.fz (.int many)),some (.fz (TI b)),b9,b10] =
   some (.nx,[some (.fz (.lst (ns.map .int))),some (.fz (.int (w:Int))),some (.fz (.int M)),some (.od ("Store",stF (w:Int) M rs')),some (.fz (.lst (rs'.map runD))),some (.fz (.int (k:Int))),some (.fz (.bl tk)),some (.fz (.int many)),some (.fz (TI b)),b9',b10]):=by
  cases tk with
  | true=>
   have et:=qhq (M:=M) (rs:=rs) hw12 (by omega) gr (hth rfl);have el:=qfu rs many b (by omega);have m0:0<=many:=by have:=gr.lo;dsimp only at this;omega
   refine⟨(part (q2y b) rs many).2,b9,⟨q3y _ rs many o.g m0,Int.le_trans (qa4 _ rs many hp m0) o.s,by have:=(q5b (q2y b) rs many).2;omega⟩,?_⟩;exact vg (c:=true) (q1d (x_v rfl) rfl) rfl (qt (q6z (q1o rfl (qb (x_v rfl) (qb (x_v rfl) qh)) rfl rfl et)) (jd (z7 (qb (x_v rfl) (qb (x_v rfl) (qb (x_v rfl) qh))) rfl el)))
  | false=>
   have ep:=qjt (M:=M) (rs:=rs) hw12 (by omega) gr;have g2:∀r∈rs++[(many,b)],GoodR (w:Int) r:=fun r hr=>by
    rcases uu.mp hr with h|h
    ·exact o.g r h
    ·cases List.mem_singleton.mp h;exact gr
   have hp2:∀r∈rs++[(many,b)],1<=r.1:=fun r hr=>(g2 r hr).lo;have hl2:(rs++[(many,b)]).length<=k+1:=by rw [m9];simp;omega
   have eo:=qak (rs++[(many,b)]) M hp2 (by omega);have hs0:=q4d _ hp2;have ov0:0<=over M (rs++[(many,b)]):=by unfold over;split <;> omega
   have ov1:over M (rs++[(many,b)])<=j3 (rs++[(many,b)]):=by unfold over;split <;> omega
   have ka:=qa5 _ _ hp2 ov0 ov1;have pg:=q3y jq _ _ g2 ov0;have pl:=(q5b jq (rs++[(many,b)]) (over M (rs++[(many,b)]))).2;have ks:j3 (part jq (rs++[(many,b)]) (over M (rs++[(many,b)]))).2<=M:=by
    rw [ka];unfold over;split <;> omega
   clear ka;generalize part jq (rs++[(many,b)]) (over M (rs++[(many,b)]))=P at ep eo pg pl ks;have hx:rs.map runD++[runD (many,b)]=(rs++[(many,b)]).map runD:=by rw [nr];rfl
   have e4:jc (.lst (rs.map runD)) (.lst [runD (many,b)])=some (.lst ((rs++[(many,b)]).map runD)):=by
    rw [qdz _ _ (by rw [gv];simp;omega),hx]
   refine⟨P.2,some (.fz (.tup (P.1.map runD))),⟨pg,ks,by omega⟩,?_⟩;refine zw (c:=false) (q1d (x_v rfl) rfl) rfl (qt (ρ1:=[some (.fz (.lst (ns.map .int))),some (.fz (.int (w:Int))),some (.fz (.int M)),some (.od ("Store",stF (w:Int) M rs)),some (.fz (.lst (P.2.map runD))),some (.fz (.int (k:Int))),some (.fz (.bl false)),some (.fz (.int many)),some (.fz (TI b)),some (.fz (.tup (P.1.map runD))),b10]) (qe1 (z7 (qb (qr (x_v rfl) (x_l (y3 (qb (vc (qb (x_v rfl) (qb (x_v rfl) qh)) (by show 2<=1000000;decide)) qh) (by show 1<=1000000;decide))) e4) (qb (x_v rfl) qh)) rfl eo) rfl) ?_);exact qbc (b:=false) (qbb (qgf (q4c (q1h (q1o rfl (qb (x_v rfl) (qb (x_v rfl) qh)) rfl rfl ep) (q8d (qb (x_v rfl) qh))) rfl (qe9 P.1)) rfl)) rfl zp
 obtain⟨rs',b9',o',em⟩:=mid;have hl':=o'.l;have hl3:(rs'.map runD).length<=lim:=by rw [gv];show _<=1000000;omega
 refine⟨rs',some (.fz (.bl tk)),some (.fz (.int many)),some (.fz (TI b)),b9',some (.fz (.int (j3 rs'))),o',?_⟩;refine qt (qe1 (z7 (qb (z7 (qb (x_v rfl) (qb (x_v rfl) qh)) rfl ex) (qb (x_v rfl) (qb (x_v rfl) qh))) rfl ed) rfl) (qt em ?_);refine qt (qbc (b:=false) (qbb (qgf (q4c (q1h (q1o rfl qh rfl rfl (qbe (w:Int) M rs')) (q8d (qb (vc (qb (x_v rfl) (qb (x_call (qb (x_v rfl) qh) rfl) qh)) (by show 2<=1000000;decide)) qh))) rfl (qea (w:Int) rs')) rfl)) rfl zp) ?_;refine qt (ρ1:=[some (.fz (.lst (ns.map .int))),some (.fz (.int (w:Int))),some (.fz (.int M)),some (.od ("Store",stF (w:Int) M rs')),some (.fz (.lst (rs'.map runD))),some (.fz (.int (k:Int))),some (.fz (.bl tk)),some (.fz (.int many)),some (.fz (TI b)),b9',some (.fz (.int (j3 rs')))]) (qe2 (q1o rfl (qb (vc qh (by decide)) qh) rfl rfl (count_eq (w:Int) M rs' (by omega)))) ?_;have hs:=o'.s;exact zw (c:=false) (q0t (c:=false) (q1e (q1d (z7 (qb (x_v rfl) (qb (x_call (qb (x_l (wc (cap:=[none,none]) (yi (x_v rfl) rfl) hl3 (qa2 rs'))) qh) (q0e _)) qh)) rfl (same_int (j3 rs'))) rfl)) rfl ((z6 (x_v rfl) (x_v rfl) (zl _ _)).trans (by rw [gu (by omega)]))) rfl zp
theorem qa6(ns:List Int)(hl:ns.length<=63)(w:Nat)(hw:w<=6)(M:Int)(hM:1<=M): ∀(m k:Nat) (rs:List Run) (b5 b6 b7 b8 b9 b10:Option B),k+m<=62->Ok w M k rs->∃ ρ',
  runFor (bN 5) q2v (jl (k:Int) m) [some (.fz (.lst (ns.map .int))),some (.fz (.int (w:Int))),some (.fz (.int M)),some (.od ("Store",stF (w:Int) M rs)),some (.fz (.lst (rs.map runD))),b5,b6,b7,b8,b9,b10]=some (.nx, ρ')
 | 0,k,rs,b5,b6,b7,b8,b9,b10,_,_=>⟨_,rfl⟩
 | m+1,k,rs,b5,b6,b7,b8,b9,b10,h,o=>by
  obtain⟨rs',b6',b7',b8',b9',b10',o',e⟩:=qg0 ns hl w hw M hM k (by omega) rs o b6 b7 b8 b9 b10;obtain⟨ρ',er⟩:=qa6 ns hl w hw M hM m (k+1) rs' (some (.fz (.int (k:Int)))) b6' b7' b8' b9' b10' (by omega) o';refine⟨ρ',?_⟩;rw [qah,q0f (b:=bN 5) rfl e,show(k:Int)+1=((k+1:Nat):Int) by omega,er]
theorem qg1:∀ns:List Int,ns.length<=63->qc7 [.lst (ns.map .int)]=some (.bl true):=by
 intro ns hl;obtain⟨c,ec⟩:=yy ns 0 (by decide);obtain⟨w,hw,em⟩:=q4b (x:=c / 2) (n:=7) (by decide);obtain⟨j,hj,ej⟩:=q4b (x:=c / 14) (n:=2) (by decide);have hq:∃q:Int,1<=q/\q<=1000000000000000/\oIx (.lst [.int 40,.int (10 ^ 15)]) (.int (j:Int))=some (.int q):=by
  have:j=0\/j=1:=by omega
  rcases this with rfl|rfl
  ·exact⟨40,by decide,by decide,rfl⟩
  ·exact⟨10 ^ 15,by decide,by decide,rfl⟩
 obtain⟨q,q1,q2,eq⟩:=hq;have hp15:oPow (.int 10) (.int 15)=some (.int (10 ^ 15)):=q2w 10 15 (by decide) (by decide) (by decide);have hmq:oMod (.int (c / 28)) (.int q)=some (.int (c / 28%q)):=j0 _ _ (by omega);have m0:=nq (c / 28) (show q≠0 by omega);have m1:=nk (c / 28) (show 0<q by omega);obtain⟨n,hn,en⟩:=qfw ns hl;obtain⟨ρ',el⟩:=qa6 ns hl w (by omega) (1+c / 28%q) (by omega) n 0 [] none none none none none none (by omega) ⟨(fun r hr=>by cases hr),(by show(0:Int)<=1+c / 28%q;omega),gy _⟩;have ei:=qho (w:=(w:Int)) (M:=1+c / 28%q) (by omega) (by omega) (by omega) (by omega);have hr:iR1 (qa (qg (qq 1 [] zy) (qa (eV 0) qf)) qf) [some (.fz (.lst (ns.map .int))),some (.fz (.int (w:Int))),some (.fz (.int (1+c / 28%q))),some (.od ("Store",stF (w:Int) (1+c / 28%q) [])),some (.fz (.lst [])),none,none,none,none,none,none]=some (jl 0 n):=by
  have ha:qa (qg (qq 1 [] zy) (qa (eV 0) qf)) qf [some (.fz (.lst (ns.map .int))),some (.fz (.int (w:Int))),some (.fz (.int (1+c / 28%q))),some (.od ("Store",stF (w:Int) (1+c / 28%q) [])),some (.fz (.lst [])),none,none,none,none,none,none]=some [.int (n:Int)]:=qb (z7 (qb (x_v rfl) qh) rfl en) qh;rw [qb9 _ _ (n:Int) ha (by omega) (by omega),t4]
 refine xc (ρ':= ρ') (qt (jd (qr (qr (z7 (qb (x_v rfl) (qb x_c qh)) rfl ec) x_c (xk _ _ (by decide) (by decide))) x_c em)) (qt (jd (qr x_c (qr (qr (z7 (qb (x_v rfl) (qb x_c qh)) rfl ec) x_c (xk _ _ (by decide) (by decide))) (qr (x_l (y3 (qb x_c (qb (qr x_c x_c hp15) qh)) (by show 2<=1000000;decide))) (qr (qr (z7 (qb (x_v rfl) (qb x_c qh)) rfl ec) x_c (xk _ _ (by decide) (by decide))) x_c ej) eq) hmq) rfl)) (qt (qjr (qb (x_v rfl) qh) (qb (x_v rfl) qh) rfl rfl rfl ei) (qt (jd (x_l (y3 qh (by decide)))) (qt (q62 hr el) (jv x_c))))))
end My
namespace My
open PySem PySem.Spec PyProof.Rows L2 DL
open PySem.W (nsIn fnOf keepIn codeIn mg_of subIn mg_none_of findIn plainGet)
theorem ln1{s:Shared}{fd:FuncData}{ps:List Str}(h:∀a0,BindsTo s fd ⟨[a0],[]⟩ (ps.zip ([a0]++[]))): ∀us:List Value,(us++[]).length=1->BindsTo s fd ⟨us,[]⟩ (ps.zip (us++[]))
 | [a0],_=>h a0
theorem ln2{s:Shared}{fd:FuncData}{ps:List Str}(h:∀a0 a1,BindsTo s fd ⟨[a0,a1],[]⟩ (ps.zip ([a0,a1]++[]))): ∀us:List Value,(us++[]).length=2->BindsTo s fd ⟨us,[]⟩ (ps.zip (us++[]))
 | [a0,a1],_=>h a0 a1
theorem ln3{s:Shared}{fd:FuncData}{ps:List Str}(h:∀a0 a1 a2,BindsTo s fd ⟨[a0,a1,a2],[]⟩ (ps.zip ([a0,a1,a2]++[]))): ∀us:List Value,(us++[]).length=3->BindsTo s fd ⟨us,[]⟩ (ps.zip (us++[]))
 | [a0,a1,a2],_=>h a0 a1 a2
theorem all_mk[Lam]{l:PySem.W.OpenLaw}{w:World}{K:Frag}{h:Heap}{mg:Str->Option Value}{fa:Addr}(X:K.In h)(G:h.Ns mainGlobals mg)(hfa:mg "law" = some (.ref fa))(hm:∀ns:List Int,ns.length<=63->qc7 [.lst (ns.map .int)]=some (.bl true))
  {C_Store:Addr}
  (x_Store:nsIn K mainGlobals "Store" = some (some (.ref C_Store)))
  (mk_Store:PySem.W.makesIn K C_Store=true)
  (kp_Store:keepIn K (.ref C_Store)=true)
  (pg_Store:plainGet K C_Store Str.empty=true)
  (hd_Store:PySem.W.hasDictIn K C_Store=true)
  (po_Store:PySem.W.plainOver K C_Store=true)
  (sa_Store:findIn K (.ref C_Store) "__setattr__" = some (some (.builtin "object.__setattr__")))
  (nawares_Store:findIn K (.ref C_Store) "wares" = some none)
  (nawindow_Store:findIn K (.ref C_Store) "window" = some none)
  (naruns_Store:findIn K (.ref C_Store) "runs" = some none)
  {fa_9:Addr} {fd_is_number:FuncData} (x_9:nsIn K mainGlobals "is_number" = some (some (.ref fa_9))) (F_is_number:Fun2 K "is_number" "is_number" vj .none fa_9 fd_is_number)
  {fa_12:Addr} {fd_is_within:FuncData} (x_12:nsIn K mainGlobals "is_within" = some (some (.ref fa_12))) (F_is_within:Fun2 K "is_within" "is_within" vk .none fa_12 fd_is_within)
  {fa_0:Addr} {od_0 an_0:Option Addr} {sl_0:Array (Option Value)} {oc_0 kV_0 dc_0 pm_0 cd_0 ct_0:Value} {T_Store___init__:Addr}
  (x_0:findIn K (.ref C_Store) "__init__" = some (some (.ref fa_0))) (i_0:PySem.W.isFn K (.ref fa_0)=true)
  (l_0:K.lookup fa_0=some ⟨oc_0,od_0,.func (fnOf "__init__" "Store.__init__" (jr ze) (qo ze) (qc ze) (.ref T_Store___init__) kV_0 dc_0 pm_0 an_0 cd_0 ct_0),sl_0⟩)
  (q_0:codeIn K cd_0 "Store.__init__" = true) (k_0:keepIn K (.ref fa_0)=true)
  {ocd_Store___init__:Value} {odd_Store___init__:Option Addr} {nd_Store___init__:Nat} {sld_Store___init__:Array (Option Value)} (d_Store___init__:K.lookup T_Store___init__=some ⟨ocd_Store___init__,odd_Store___init__,.seq #[.none] nd_Store___init__,sld_Store___init__⟩)
  {fa_23:Addr} {fd_lies_below:FuncData} (x_23:nsIn K mainGlobals "lies_below" = some (some (.ref fa_23))) (F_lies_below:Fun2 K "lies_below" "lies_below" xq .none fa_23 fd_lies_below)
  {fa_8:Addr} {fd_count:FuncData} (x_8:nsIn K mainGlobals "count" = some (some (.ref fa_8))) (F_count:Fun2 K "count" "count" q0s .none fa_8 fd_count)
  {fa_3:Addr} {od_3 an_3:Option Addr} {sl_3:Array (Option Value)} {oc_3 kV_3 dc_3 pm_3 cd_3 ct_3:Value}
  (x_3:findIn K (.ref C_Store) "pile" = some (some (.ref fa_3))) (i_3:PySem.W.isFn K (.ref fa_3)=true)
  (l_3:K.lookup fa_3=some ⟨oc_3,od_3,.func (fnOf "pile" "Store.pile" (jr ja) (qo ja) (qc ja) .none kV_3 dc_3 pm_3 an_3 cd_3 ct_3),sl_3⟩)
  (q_3:codeIn K cd_3 "Store.pile" = true) (k_3:keepIn K (.ref fa_3)=true)
  {fa_2:Addr} {od_2 an_2:Option Addr} {sl_2:Array (Option Value)} {oc_2 kV_2 dc_2 pm_2 cd_2 ct_2:Value}
  (x_2:findIn K (.ref C_Store) "count" = some (some (.ref fa_2))) (i_2:PySem.W.isFn K (.ref fa_2)=true)
  (l_2:K.lookup fa_2=some ⟨oc_2,od_2,.func (fnOf "count" "Store.count" (jr zx) (qo zx) (qc zx) .none kV_2 dc_2 pm_2 an_2 cd_2 ct_2),sl_2⟩)
  (q_2:codeIn K cd_2 "Store.count" = true) (k_2:keepIn K (.ref fa_2)=true)
  {fa_13:Addr} {fd_law_cell:FuncData} (x_13:nsIn K mainGlobals "_law_cell" = some (some (.ref fa_13))) (F_law_cell:Fun2 K "_law_cell" "_law_cell" yk .none fa_13 fd_law_cell)
  {fa_16:Addr} {fd_law_mixed:FuncData} (x_16:nsIn K mainGlobals "_law_mixed" = some (some (.ref fa_16))) (F_law_mixed:Fun2 K "_law_mixed" "_law_mixed" vm .none fa_16 fd_law_mixed)
  {fa_15:Addr} {fd_law_many_deeds:FuncData} (x_15:nsIn K mainGlobals "_law_many_deeds" = some (some (.ref fa_15))) (F_law_many_deeds:Fun2 K "_law_many_deeds" "_law_many_deeds" jf .none fa_15 fd_law_many_deeds)
  {fa_20:Addr} {fd_law_set:FuncData} (x_20:nsIn K mainGlobals "_law_set" = some (some (.ref fa_20))) (F_law_set:Fun2 K "_law_set" "_law_set" kj .none fa_20 fd_law_set)
  {fa_22:Addr} {fd_law_there:FuncData} (x_22:nsIn K mainGlobals "_law_there" = some (some (.ref fa_22))) (F_law_there:Fun2 K "_law_there" "_law_there" vn .none fa_22 fd_law_there)
  {fa_14:Addr} {fd_law_deed:FuncData} (x_14:nsIn K mainGlobals "_law_deed" = some (some (.ref fa_14))) (F_law_deed:Fun2 K "_law_deed" "_law_deed" ym .none fa_14 fd_law_deed)
  {fa_11:Addr} {od_11 an_11:Option Addr} {sl_11:Array (Option Value)} {oc_11 kV_11 dc_11 pm_11 cd_11 ct_11:Value} {T_is_set:Addr}
  (x_11:nsIn K mainGlobals "is_set" = some (some (.ref fa_11)))
  (l_11:K.lookup fa_11=some ⟨oc_11,od_11,.func (fnOf "is_set" "is_set" (jr v8) (qo v8) (qc v8) (.ref T_is_set) kV_11 dc_11 pm_11 an_11 cd_11 ct_11),sl_11⟩)
  (q_11:codeIn K cd_11 "is_set" = true) (k_11:keepIn K (.ref fa_11)=true)
  {t_is_set_0:Tok} {ocd_is_set:Value} {odd_is_set:Option Addr} {nd_is_set:Nat} {sld_is_set:Array (Option Value)} (d_is_set:K.lookup T_is_set=some ⟨ocd_is_set,odd_is_set,.seq #[.int 12 t_is_set_0] nd_is_set,sld_is_set⟩)
  {fa_10:Addr} {fd_is_run:FuncData} (x_10:nsIn K mainGlobals "is_run" = some (some (.ref fa_10))) (F_is_run:Fun2 K "is_run" "is_run" wq .none fa_10 fd_is_run)
  {fa_1:Addr} {od_1 an_1:Option Addr} {sl_1:Array (Option Value)} {oc_1 kV_1 dc_1 pm_1 cd_1 ct_1:Value}
  (x_1:findIn K (.ref C_Store) "check_run" = some (some (.ref fa_1))) (i_1:PySem.W.isFn K (.ref fa_1)=true)
  (l_1:K.lookup fa_1=some ⟨oc_1,od_1,.func (fnOf "check_run" "Store.check_run" (jr z9) (qo z9) (qc z9) .none kV_1 dc_1 pm_1 an_1 cd_1 ct_1),sl_1⟩)
  (q_1:codeIn K cd_1 "Store.check_run" = true) (k_1:keepIn K (.ref fa_1)=true)
  {fa_7:Addr} {fd_baskets_of:FuncData} (x_7:nsIn K mainGlobals "baskets_of" = some (some (.ref fa_7))) (F_baskets_of:Fun2 K "baskets_of" "baskets_of" xt .none fa_7 fd_baskets_of)
  {fa_25:Addr} {fd_runs_like:FuncData} (x_25:nsIn K mainGlobals "runs_like" = some (some (.ref fa_25))) (F_runs_like:Fun2 K "runs_like" "runs_like" vq .none fa_25 fd_runs_like)
  {fa_24:Addr} {od_24 an_24:Option Addr} {sl_24:Array (Option Value)} {oc_24 kV_24 dc_24 pm_24 cd_24 ct_24:Value} {T_parted:Addr}
  (x_24:nsIn K mainGlobals "parted" = some (some (.ref fa_24)))
  (l_24:K.lookup fa_24=some ⟨oc_24,od_24,.func (fnOf "parted" "parted" (jr v9) (qo v9) (qc v9) (.ref T_parted) kV_24 dc_24 pm_24 an_24 cd_24 ct_24),sl_24⟩)
  (q_24:codeIn K cd_24 "parted" = true) (k_24:keepIn K (.ref fa_24)=true)
  {ocd_parted:Value} {odd_parted:Option Addr} {nd_parted:Nat} {sld_parted:Array (Option Value)} (d_parted:K.lookup T_parted=some ⟨ocd_parted,odd_parted,.seq #[.none] nd_parted,sld_parted⟩)
  {fa_5:Addr} {od_5 an_5:Option Addr} {sl_5:Array (Option Value)} {oc_5 kV_5 dc_5 pm_5 cd_5 ct_5:Value}
  (x_5:findIn K (.ref C_Store) "take" = some (some (.ref fa_5))) (i_5:PySem.W.isFn K (.ref fa_5)=true)
  (l_5:K.lookup fa_5=some ⟨oc_5,od_5,.func (fnOf "take" "Store.take" (jr jb) (qo jb) (qc jb) .none kV_5 dc_5 pm_5 an_5 cd_5 ct_5),sl_5⟩)
  (q_5:codeIn K cd_5 "Store.take" = true) (k_5:keepIn K (.ref fa_5)=true)
  {fa_17:Addr} {fd_law_number:FuncData} (x_17:nsIn K mainGlobals "_law_number" = some (some (.ref fa_17))) (F_law_number:Fun2 K "_law_number" "_law_number" xv .none fa_17 fd_law_number)
  {fa_21:Addr} {fd_law_taken:FuncData} (x_21:nsIn K mainGlobals "_law_taken" = some (some (.ref fa_21))) (F_law_taken:Fun2 K "_law_taken" "_law_taken" vt .none fa_21 fd_law_taken)
  {fa_18:Addr} {fd_law_outgrown:FuncData} (x_18:nsIn K mainGlobals "_law_outgrown" = some (some (.ref fa_18))) (F_law_outgrown:Fun2 K "_law_outgrown" "_law_outgrown" jy .none fa_18 fd_law_outgrown)
  {fa_19:Addr} {fd_law_same:FuncData} (x_19:nsIn K mainGlobals "_law_same" = some (some (.ref fa_19))) (F_law_same:Fun2 K "_law_same" "_law_same" yp .none fa_19 fd_law_same)
  {fa_6:Addr} {od_6 an_6:Option Addr} {sl_6:Array (Option Value)} {oc_6 kV_6 dc_6 pm_6 cd_6 ct_6:Value}
  (x_6:findIn K (.ref C_Store) "too_many" = some (some (.ref fa_6))) (i_6:PySem.W.isFn K (.ref fa_6)=true)
  (l_6:K.lookup fa_6=some ⟨oc_6,od_6,.func (fnOf "too_many" "Store.too_many" (jr zf) (qo zf) (qc zf) .none kV_6 dc_6 pm_6 an_6 cd_6 ct_6),sl_6⟩)
  (q_6:codeIn K cd_6 "Store.too_many" = true) (k_6:keepIn K (.ref fa_6)=true)
  {fa_4:Addr} {od_4 an_4:Option Addr} {sl_4:Array (Option Value)} {oc_4 kV_4 dc_4 pm_4 cd_4 ct_4:Value}
  (x_4:findIn K (.ref C_Store) "put" = some (some (.ref fa_4))) (i_4:PySem.W.isFn K (.ref fa_4)=true)
  (l_4:K.lookup fa_4=some ⟨oc_4,od_4,.func (fnOf "put" "Store.put" (jr jk) (qo jk) (qc jk) .none kV_4 dc_4 pm_4 an_4 cd_4 ct_4),sl_4⟩)
  (q_4:codeIn K cd_4 "Store.put" = true) (k_4:keepIn K (.ref fa_4)=true)
  {fa_law:Addr} {fd_law:FuncData} (x_law:nsIn K mainGlobals "law" = some (some (.ref fa_law))) (F_law:Fun2 K "law" "law" q49 .none fa_law fd_law)
  (xa_count_piles:nsIn K mainGlobals "count_piles" = some (some (.ref fa_8)))
  (z_isinstance:nsIn K mainGlobals "isinstance" = some none)
  (z_int:nsIn K mainGlobals "int" = some none)
  (z_bool:nsIn K mainGlobals "bool" = some none)
  (z_all:nsIn K mainGlobals "all" = some none)
  (z_sum:nsIn K mainGlobals "sum" = some none)
  (z_len:nsIn K mainGlobals "len" = some none)
  (z_max:nsIn K mainGlobals "max" = some none)
  (z_min:nsIn K mainGlobals "min" = some none)
  (z_tuple:nsIn K mainGlobals "tuple" = some none)
  (z_range:nsIn K mainGlobals "range" = some none)
  (z_zip:nsIn K mainGlobals "zip" = some none)
  {tk_MOST_WARES:Tok} (y_MOST_WARES:nsIn K mainGlobals "MOST_WARES" = some (some (.int 12 tk_MOST_WARES)))
  {tk_MOST_WINDOW:Tok} (y_MOST_WINDOW:nsIn K mainGlobals "MOST_WINDOW" = some (some (.int 1000000000000000 tk_MOST_WINDOW)))
  {tk_MOST_MANY:Tok} (y_MOST_MANY:nsIn K mainGlobals "MOST_MANY" = some (some (.int 1000000000000 tk_MOST_MANY)))
  {tk_MOST_RUNS:Tok} (y_MOST_RUNS:nsIn K mainGlobals "MOST_RUNS" = some (some (.int 200 tk_MOST_RUNS)))
  : ∃fd:FuncData,(∀(s:Shared) (v:Value),BindsTo s fd ⟨[v],[]⟩ [("_law_script",v)])/\∀base:Heap,K.In base->base.Ns mainGlobals mg->FnOk l.prog w K mg base CX0 18 fa fd ["_law_script"] (q88 K):=by
 have O_Store:ClsF K "Store" C_Store ["wares","window","runs"]:=⟨x_Store,⟨pg_Store,hd_Store,po_Store,sa_Store⟩,fun f hf=>(by simp only [mv,List.mem_nil_iff,uo] at hf;rcases hf with rfl|rfl|rfl <;> assumption)⟩
 have k_9:=F_is_number.kp;have k_12:=F_is_within.kp;have F_Store___init__:=vi (st:=ze) l_0 q_0 k_0;have k_23:=F_lies_below.kp;have k_8:=F_count.kp;have F_Store_pile:=vi (st:=ja) l_3 q_3 k_3;have F_Store_count:=vi (st:=zx) l_2 q_2 k_2;have k_13:=F_law_cell.kp;have k_16:=F_law_mixed.kp;have k_15:=F_law_many_deeds.kp;have k_20:=F_law_set.kp;have k_22:=F_law_there.kp;have k_14:=F_law_deed.kp;have F_is_set:=vi (st:=v8) l_11 q_11 k_11;have k_10:=F_is_run.kp;have F_Store_check_run:=vi (st:=z9) l_1 q_1 k_1;have k_7:=F_baskets_of.kp;have k_25:=F_runs_like.kp;have F_parted:=vi (st:=v9) l_24 q_24 k_24;have F_Store_take:=vi (st:=jb) l_5 q_5 k_5;have k_17:=F_law_number.kp;have k_21:=F_law_taken.kp;have k_18:=F_law_outgrown.kp;have k_19:=F_law_same.kp;have F_Store_too_many:=vi (st:=zf) l_6 q_6 k_6;have F_Store_put:=vi (st:=jk) l_4 q_4 k_4;have k_law:=F_law.kp;have ca_count_piles:=mg_of X G xa_count_piles;have n_isinstance:=mg_none_of X G z_isinstance;have n_int:=mg_none_of X G z_int;have n_bool:=mg_none_of X G z_bool;have n_all:=mg_none_of X G z_all;have n_sum:=mg_none_of X G z_sum;have n_len:=mg_none_of X G z_len;have n_max:=mg_none_of X G z_max;have n_min:=mg_none_of X G z_min;have n_tuple:=mg_none_of X G z_tuple;have n_range:=mg_none_of X G z_range;have n_zip:=mg_none_of X G z_zip;have g_MOST_WARES:∃t,mg "MOST_WARES" = some (.int 12 t):=⟨_,mg_of X G y_MOST_WARES⟩
 have g_MOST_WINDOW:∃t,mg "MOST_WINDOW" = some (.int 1000000000000000 t):=⟨_,mg_of X G y_MOST_WINDOW⟩
 have g_MOST_MANY:∃t,mg "MOST_MANY" = some (.int 1000000000000 t):=⟨_,mg_of X G y_MOST_MANY⟩
 have g_MOST_RUNS:∃t,mg "MOST_RUNS" = some (.int 200 t):=⟨_,mg_of X G y_MOST_RUNS⟩
 have e:=hfa.symm.trans (mg_of X G x_law);cases e;have b_9:Binds K _ ["thing"] []:=F_is_number.bindsTo (P:=fun fd=>Binds K fd ["thing"] []) fun _ _ _ _ _ _ s us hk hl=>ln1 (fun _=>.of_eq rfl) us hl;have b_12:Binds K _ ["thing","lowest","highest"] []:=F_is_within.bindsTo (P:=fun fd=>Binds K fd ["thing","lowest","highest"] []) fun _ _ _ _ _ _ s us hk hl=>ln3 (fun _ _ _=>.of_eq rfl) us hl;have kb_Store___init__:KB K _ ["self","wares","window"] ["window"] 2 1:=F_Store___init__.bindsTo (P:=fun fd=>KB K fd ["self","wares","window"] ["window"] 2 1) fun _ _ _ _ _ _=>qkp (by decide) fun s us ws hk h1 h2=>match us,ws,h1,h2 with | [_,_],[_],_,_=>tq rfl (hk _ _ d_Store___init__) rfl rfl rfl
 have b_23:Binds K _ ["one","other"] []:=F_lies_below.bindsTo (P:=fun fd=>Binds K fd ["one","other"] []) fun _ _ _ _ _ _ s us hk hl=>ln2 (fun _ _=>.of_eq rfl) us hl;have b_8:Binds K _ ["pile","some"] []:=F_count.bindsTo (P:=fun fd=>Binds K fd ["pile","some"] []) fun _ _ _ _ _ _ s us hk hl=>ln2 (fun _ _=>.of_eq rfl) us hl;have b_3:Binds K _ ["self"] []:=F_Store_pile.bindsTo (P:=fun fd=>Binds K fd ["self"] []) fun _ _ _ _ _ _ s us hk hl=>ln1 (fun _=>.of_eq rfl) us hl;have b_2:Binds K _ ["self","some"] []:=F_Store_count.bindsTo (P:=fun fd=>Binds K fd ["self","some"] []) fun _ _ _ _ _ _ s us hk hl=>ln2 (fun _ _=>.of_eq rfl) us hl;have b_13:Binds K _ ["_law_script","_law_k"] []:=F_law_cell.bindsTo (P:=fun fd=>Binds K fd ["_law_script","_law_k"] []) fun _ _ _ _ _ _ s us hk hl=>ln2 (fun _ _=>.of_eq rfl) us hl;have b_16:Binds K _ ["_law_cell_here","_law_k"] []:=F_law_mixed.bindsTo (P:=fun fd=>Binds K fd ["_law_cell_here","_law_k"] []) fun _ _ _ _ _ _ s us hk hl=>ln2 (fun _ _=>.of_eq rfl) us hl;have b_15:Binds K _ ["_law_script"] []:=F_law_many_deeds.bindsTo (P:=fun fd=>Binds K fd ["_law_script"] []) fun _ _ _ _ _ _ s us hk hl=>ln1 (fun _=>.of_eq rfl) us hl;have b_20:Binds K _ ["_law_mark","_law_wares"] []:=F_law_set.bindsTo (P:=fun fd=>Binds K fd ["_law_mark","_law_wares"] []) fun _ _ _ _ _ _ s us hk hl=>ln2 (fun _ _=>.of_eq rfl) us hl;have b_22:Binds K _ ["_law_runs","_law_basket"] []:=F_law_there.bindsTo (P:=fun fd=>Binds K fd ["_law_runs","_law_basket"] []) fun _ _ _ _ _ _ s us hk hl=>ln2 (fun _ _=>.of_eq rfl) us hl;have b_14:Binds K _ ["_law_number_here","_law_wares","_law_runs"] []:=F_law_deed.bindsTo (P:=fun fd=>Binds K fd ["_law_number_here","_law_wares","_law_runs"] []) fun _ _ _ _ _ _ s us hk hl=>ln3 (fun _ _ _=>.of_eq rfl) us hl;have b_11:Binds K _ ["thing","wares"] []:=F_is_set.bindsTo (P:=fun fd=>Binds K fd ["thing","wares"] []) fun _ _ _ _ _ _ s us hk hl=>ln2 (fun _ _=>tq rfl (hk _ _ d_is_set) rfl rfl rfl) us hl;have b_10:Binds K _ ["thing","wares"] []:=F_is_run.bindsTo (P:=fun fd=>Binds K fd ["thing","wares"] []) fun _ _ _ _ _ _ s us hk hl=>ln2 (fun _ _=>.of_eq rfl) us hl;have b_1:Binds K _ ["self","many","basket"] []:=F_Store_check_run.bindsTo (P:=fun fd=>Binds K fd ["self","many","basket"] []) fun _ _ _ _ _ _ s us hk hl=>ln3 (fun _ _ _=>.of_eq rfl) us hl;have b_7:Binds K _ ["runs"] []:=F_baskets_of.bindsTo (P:=fun fd=>Binds K fd ["runs"] []) fun _ _ _ _ _ _ s us hk hl=>ln1 (fun _=>.of_eq rfl) us hl;have b_25:Binds K _ ["runs","basket"] []:=F_runs_like.bindsTo (P:=fun fd=>Binds K fd ["runs","basket"] []) fun _ _ _ _ _ _ s us hk hl=>ln2 (fun _ _=>.of_eq rfl) us hl;have b_24:Binds K _ ["runs","number","chosen"] []:=F_parted.bindsTo (P:=fun fd=>Binds K fd ["runs","number","chosen"] []) fun _ _ _ _ _ _ s us hk hl=>ln3 (fun _ _ _=>tq rfl (hk _ _ d_parted) rfl rfl rfl) us hl;have bd_parted_1:Binds K _ ["runs","number","chosen"] [.none]:=F_parted.bindsTo (P:=fun fd=>Binds K fd ["runs","number","chosen"] [.none]) fun _ _ _ _ _ _=>qkq 2 rfl fun s us hk hl=>match us,hl with | [_,_],_=>tq rfl (hk _ _ d_parted) rfl rfl rfl
 have dv_parted_1:Vals [V.non] [.none]:=.cons rfl (.nil);have dd_parted_1:∀ {H:Hp},RepL K H [.non] [V.non]:=fun {H}=>RepL.cons (by simp only [Rep]) (RepL.nil);have b_5:Binds K _ ["self","many","basket"] []:=F_Store_take.bindsTo (P:=fun fd=>Binds K fd ["self","many","basket"] []) fun _ _ _ _ _ _ s us hk hl=>ln3 (fun _ _ _=>.of_eq rfl) us hl;have b_17:Binds K _ ["_law_script","_law_k"] []:=F_law_number.bindsTo (P:=fun fd=>Binds K fd ["_law_script","_law_k"] []) fun _ _ _ _ _ _ s us hk hl=>ln2 (fun _ _=>.of_eq rfl) us hl;have b_21:Binds K _ ["_law_runs","_law_many","_law_basket"] []:=F_law_taken.bindsTo (P:=fun fd=>Binds K fd ["_law_runs","_law_many","_law_basket"] []) fun _ _ _ _ _ _ s us hk hl=>ln3 (fun _ _ _=>.of_eq rfl) us hl;have b_18:Binds K _ ["_law_runs","_law_most"] []:=F_law_outgrown.bindsTo (P:=fun fd=>Binds K fd ["_law_runs","_law_most"] []) fun _ _ _ _ _ _ s us hk hl=>ln2 (fun _ _=>.of_eq rfl) us hl;have b_19:Binds K _ ["_law_found","_law_due"] []:=F_law_same.bindsTo (P:=fun fd=>Binds K fd ["_law_found","_law_due"] []) fun _ _ _ _ _ _ s us hk hl=>ln2 (fun _ _=>.of_eq rfl) us hl;have b_6:Binds K _ ["self","runs"] []:=F_Store_too_many.bindsTo (P:=fun fd=>Binds K fd ["self","runs"] []) fun _ _ _ _ _ _ s us hk hl=>ln2 (fun _ _=>.of_eq rfl) us hl;have b_4:Binds K _ ["self","many","basket"] []:=F_Store_put.bindsTo (P:=fun fd=>Binds K fd ["self","many","basket"] []) fun _ _ _ _ _ _ s us hk hl=>ln3 (fun _ _ _=>.of_eq rfl) us hl;refine⟨_,F_law.bindsTo (P:=fun fd=>∀(s:Shared) (v:Value),BindsTo s fd ⟨[v],[]⟩ [("_law_script",v)]) (fun _ _ _ _ _ _ s v=>.of_eq rfl),fun base _ _=>?_⟩;have o_9:=q9c (P:=l.prog) (w:=w) (mg:=mg) (base:=base) F_is_number n_isinstance n_int n_bool;have c_9:=Cal.mk o_9 (mg_of X G x_9) k_9;have o_12:=q9f (P:=l.prog) (w:=w) (mg:=mg) (base:=base) F_is_within c_9 b_9;have c_12:=Cal.mk o_12 (mg_of X G x_12) k_12;have o_0:=q4g (P:=l.prog) (w:=w) (mg:=mg) (base:=base) F_Store___init__ O_Store c_12 b_12 g_MOST_WARES g_MOST_WINDOW;have M_Store:MkF l.prog w K mg base "Store" C_Store _ _ _ _ _ _:=⟨o_0,⟨mk_Store,x_0,i_0,kp_Store⟩,mg_of X G x_Store,x_Store⟩
 have o_23:=q7r (P:=l.prog) (w:=w) (mg:=mg) (base:=base) F_lies_below n_all;have c_23:=Cal.mk o_23 (mg_of X G x_23) k_23;have o_8:=qfo (P:=l.prog) (w:=w) (mg:=mg) (base:=base) F_count c_23 b_23 n_sum;have c_8:=Cal.mk o_8 (mg_of X G x_8) k_8;have o_3:=q7v (P:=l.prog) (w:=w) (mg:=mg) (base:=base) F_Store_pile O_Store;have c_3:CalF l.prog w K mg base "Store" "pile" C_Store _ _ _ _ _ _:=⟨o_3,⟨x_3,i_3,k_3⟩⟩
 have o_2:=q6r (P:=l.prog) (w:=w) (mg:=mg) (base:=base) F_Store_count O_Store c_8 b_8 c_3 b_3 ca_count_piles;have c_2:CalF l.prog w K mg base "Store" "count" C_Store _ _ _ _ _ _:=⟨o_2,⟨x_2,i_2,k_2⟩⟩
 have o_13:=qaa (P:=l.prog) (w:=w) (mg:=mg) (base:=base) F_law_cell n_len;have c_13:=Cal.mk o_13 (mg_of X G x_13) k_13;have o_16:=q9i (P:=l.prog) (w:=w) (mg:=mg) (base:=base) F_law_mixed;have c_16:=Cal.mk o_16 (mg_of X G x_16) k_16;have o_15:=q4j (P:=l.prog) (w:=w) (mg:=mg) (base:=base) F_law_many_deeds c_13 b_13 c_16 b_16 n_max n_min n_len;have c_15:=Cal.mk o_15 (mg_of X G x_15) k_15;have o_20:=qc5 (P:=l.prog) (w:=w) (mg:=mg) (base:=base) F_law_set n_tuple n_range;have c_20:=Cal.mk o_20 (mg_of X G x_20) k_20;have o_22:=q9m (P:=l.prog) (w:=w) (mg:=mg) (base:=base) F_law_there n_sum;have c_22:=Cal.mk o_22 (mg_of X G x_22) k_22;have o_14:=qac (P:=l.prog) (w:=w) (mg:=mg) (base:=base) F_law_deed c_20 b_20 c_22 b_22 n_len n_min;have c_14:=Cal.mk o_14 (mg_of X G x_14) k_14;have o_11:=qdq (P:=l.prog) (w:=w) (mg:=mg) (base:=base) F_is_set c_9 b_9 n_min n_all n_isinstance n_tuple n_zip g_MOST_WARES;have c_11:=Cal.mk o_11 (mg_of X G x_11) k_11;have o_10:=qdt (P:=l.prog) (w:=w) (mg:=mg) (base:=base) F_is_run c_12 b_12 c_11 b_11 n_isinstance n_tuple n_len g_MOST_MANY;have c_10:=Cal.mk o_10 (mg_of X G x_10) k_10;have o_1:=q3r (P:=l.prog) (w:=w) (mg:=mg) (base:=base) F_Store_check_run O_Store c_10 b_10;have c_1:CalF l.prog w K mg base "Store" "check_run" C_Store _ _ _ _ _ _:=⟨o_1,⟨x_1,i_1,k_1⟩⟩
 have o_7:=q7y (P:=l.prog) (w:=w) (mg:=mg) (base:=base) F_baskets_of n_sum;have c_7:=Cal.mk o_7 (mg_of X G x_7) k_7;have o_25:=q9p (P:=l.prog) (w:=w) (mg:=mg) (base:=base) F_runs_like;have c_25:=Cal.mk o_25 (mg_of X G x_25) k_25;have o_24:=qdv (P:=l.prog) (w:=w) (mg:=mg) (base:=base) F_parted n_tuple n_min;have c_24:=Cal.mk o_24 (mg_of X G x_24) k_24;have o_5:=q81 (P:=l.prog) (w:=w) (mg:=mg) (base:=base) F_Store_take O_Store c_1 b_1 c_7 b_7 c_25 b_25 c_24 b_24;have c_5:CalF l.prog w K mg base "Store" "take" C_Store _ _ _ _ _ _:=⟨o_5,⟨x_5,i_5,k_5⟩⟩
 have o_17:=q84 (P:=l.prog) (w:=w) (mg:=mg) (base:=base) F_law_number c_16 b_16 c_13 b_13 n_max n_len;have c_17:=Cal.mk o_17 (mg_of X G x_17) k_17;have o_21:=q9r (P:=l.prog) (w:=w) (mg:=mg) (base:=base) F_law_taken n_min;have c_21:=Cal.mk o_21 (mg_of X G x_21) k_21;have o_18:=q5z (P:=l.prog) (w:=w) (mg:=mg) (base:=base) F_law_outgrown n_sum n_max n_tuple n_min;have c_18:=Cal.mk o_18 (mg_of X G x_18) k_18;have o_19:=qag (P:=l.prog) (w:=w) (mg:=mg) (base:=base) F_law_same (mg_of X G x_19) k_19 b_19 n_isinstance n_tuple n_zip n_int n_bool n_len 16;have c_19:=Cal.mk o_19 (mg_of X G x_19) k_19;have o_6:=q4n (P:=l.prog) (w:=w) (mg:=mg) (base:=base) F_Store_too_many O_Store c_7 b_7 n_max;have c_6:CalF l.prog w K mg base "Store" "too_many" C_Store _ _ _ _ _ _:=⟨o_6,⟨x_6,i_6,k_6⟩⟩
 have o_4:=q9u (P:=l.prog) (w:=w) (mg:=mg) (base:=base) F_Store_put O_Store c_1 b_1 c_24 bd_parted_1 dv_parted_1 dd_parted_1 c_6 b_6 n_len g_MOST_RUNS;have c_4:CalF l.prog w K mg base "Store" "put" C_Store _ _ _ _ _ _:=⟨o_4,⟨x_4,i_4,k_4⟩⟩
 exact qjc (qjj (P:=l.prog) (w:=w) (mg:=mg) (base:=base) F_law O_Store M_Store kb_Store___init__ c_2 b_2 c_15 b_15 c_14 b_14 c_5 b_5 c_13 b_13 c_17 b_17 c_21 b_21 c_18 b_18 c_19 b_19 c_3 b_3 c_4 b_4 n_range n_tuple n_sum) hm
end My
namespace PySem.W.Fast
theorem tw4919581841796728174 : True := trivial
theorem tw5882021981061919470 : True := trivial
theorem tw17111088957363674515 : True := trivial
theorem tw7914487946532739966 : True := trivial
theorem tw5785725852967898721 : True := trivial
theorem tw16276793259564987695 : True := trivial
theorem tw13005480819812433706 : True := trivial
theorem tw9437275316507519107 : True := trivial
theorem tw10292400927393778250 : True := trivial
theorem tw432386655581102932 : True := trivial
theorem tw16062154812650550132 : True := trivial
theorem tw4043183025549143522 : True := trivial
theorem tw13462535385286235767 : True := trivial
theorem tw9026199871536002887 : True := trivial
theorem tw15072594934948994709 : True := trivial
theorem tw18122301644051050919 : True := trivial
theorem tw13229000593227294672 : True := trivial
theorem tw3474564592826594694 : True := trivial
theorem tw1629208637943862212 : True := trivial
theorem tw16583199213609845732 : True := trivial
theorem tw1743465139031209080 : True := trivial
end PySem.W.Fast
open PySem PySem.W PyProof.Rows
local macro_rules | `(tactic| walk_at "F")=> `(tactic| (letI:DL.Lam:=⟨[]⟩;exact DL.vi (by k_is) (by k_is) (by k_is)))
set_option maxHeartbeats 0 in
theorem PySem.Challenge.cw_oftentogether_k42_window_holds : PySem.Challenge.rw_oftentogether_k42_window.Holds := by
 w_on;o_law;k_head;(case hw=>w_witness2)
 k_fill
 letI:DL.Lam:=⟨[]⟩
 refine DL.qjd rfl (l:=PySem.Challenge.rw_oftentogether_k42_window) (k:=18) (x:="_law_script") rfl rfl ⟨rfl,by decide,by decide⟩ (fun w h Y=>PySem.W.kIn_of Y) ?F
 case F=>
  intro w mg fa h KX G hmg;refine' My.all_mk KX G hmg My.qg1 ?x_Store ?mk_Store ?kp_Store ?pg_Store ?hd_Store ?po_Store ?sa_Store ?nawares_Store ?nawindow_Store ?naruns_Store ?x_9 ?F_is_number ?x_12 ?F_is_within ?x_0 ?i_0 ?l_0 ?q_0 ?k_0 ?d_Store___init__ ?x_23 ?F_lies_below ?x_8 ?F_count ?x_3 ?i_3 ?l_3 ?q_3 ?k_3 ?x_2 ?i_2 ?l_2 ?q_2 ?k_2 ?x_13 ?F_law_cell ?x_16 ?F_law_mixed ?x_15 ?F_law_many_deeds ?x_20 ?F_law_set ?x_22 ?F_law_there ?x_14 ?F_law_deed ?x_11 ?l_11 ?q_11 ?k_11 ?d_is_set ?x_10 ?F_is_run ?x_1 ?i_1 ?l_1 ?q_1 ?k_1 ?x_7 ?F_baskets_of ?x_25 ?F_runs_like ?x_24 ?l_24 ?q_24 ?k_24 ?d_parted ?x_5 ?i_5 ?l_5 ?q_5 ?k_5 ?x_17 ?F_law_number ?x_21 ?F_law_taken ?x_18 ?F_law_outgrown ?x_19 ?F_law_same ?x_6 ?i_6 ?l_6 ?q_6 ?k_6 ?x_4 ?i_4 ?l_4 ?q_4 ?k_4 ?x_law ?F_law ?xa_count_piles ?z_isinstance ?z_int ?z_bool ?z_all ?z_sum ?z_len ?z_max ?z_min ?z_tuple ?z_range ?z_zip ?y_MOST_WARES ?y_MOST_WINDOW ?y_MOST_MANY ?y_MOST_RUNS
  (case x_Store=>k_is)
  (case mk_Store=>k_is)
  (case kp_Store=>k_is)
  (case pg_Store=>k_is)
  (case hd_Store=>k_is)
  (case po_Store=>k_is)
  (case sa_Store=>k_is)
  (case nawares_Store=>k_is)
  (case nawindow_Store=>k_is)
  (case naruns_Store=>k_is)
  (case x_9=>k_is)
  (case F_is_number=>walk_at "F")
  (case x_12=>k_is)
  (case F_is_within=>walk_at "F")
  (case x_0=>k_is)
  (case i_0=>k_is)
  (case l_0=>k_is)
  (case q_0=>k_is)
  (case k_0=>k_is)
  (case d_Store___init__=>k_is)
  (case x_23=>k_is)
  (case F_lies_below=>walk_at "F")
  (case x_8=>k_is)
  (case F_count=>walk_at "F")
  (case x_3=>k_is)
  (case i_3=>k_is)
  (case l_3=>k_is)
  (case q_3=>k_is)
  (case k_3=>k_is)
  (case x_2=>k_is)
  (case i_2=>k_is)
  (case l_2=>k_is)
  (case q_2=>k_is)
  (case k_2=>k_is)
  (case x_13=>k_is)
  (case F_law_cell=>walk_at "F")
  (case x_16=>k_is)
  (case F_law_mixed=>walk_at "F")
  (case x_15=>k_is)
  (case F_law_many_deeds=>walk_at "F")
  (case x_20=>k_is)
  (case F_law_set=>walk_at "F")
  (case x_22=>k_is)
  (case F_law_there=>walk_at "F")
  (case x_14=>k_is)
  (case F_law_deed=>walk_at "F")
  (case x_11=>k_is)
  (case l_11=>k_is)
  (case q_11=>k_is)
  (case k_11=>k_is)
  (case d_is_set=>k_is)
  (case x_10=>k_is)
  (case F_is_run=>walk_at "F")
  (case x_1=>k_is)
  (case i_1=>k_is)
  (case l_1=>k_is)
  (case q_1=>k_is)
  (case k_1=>k_is)
  (case x_7=>k_is)
  (case F_baskets_of=>walk_at "F")
  (case x_25=>k_is)
  (case F_runs_like=>walk_at "F")
  (case x_24=>k_is)
  (case l_24=>k_is)
  (case q_24=>k_is)
  (case k_24=>k_is)
  (case d_parted=>k_is)
  (case x_5=>k_is)
  (case i_5=>k_is)
  (case l_5=>k_is)
  (case q_5=>k_is)
  (case k_5=>k_is)
  (case x_17=>k_is)
  (case F_law_number=>walk_at "F")
  (case x_21=>k_is)
  (case F_law_taken=>walk_at "F")
  (case x_18=>k_is)
  (case F_law_outgrown=>walk_at "F")
  (case x_19=>k_is)
  (case F_law_same=>walk_at "F")
  (case x_6=>k_is)
  (case i_6=>k_is)
  (case l_6=>k_is)
  (case q_6=>k_is)
  (case k_6=>k_is)
  (case x_4=>k_is)
  (case i_4=>k_is)
  (case l_4=>k_is)
  (case q_4=>k_is)
  (case k_4=>k_is)
  (case x_law=>k_is)
  (case F_law=>walk_at "F")
  (case xa_count_piles=>k_is)
  (case z_isinstance=>k_is)
  (case z_int=>k_is)
  (case z_bool=>k_is)
  (case z_all=>k_is)
  (case z_sum=>k_is)
  (case z_len=>k_is)
  (case z_max=>k_is)
  (case z_min=>k_is)
  (case z_tuple=>k_is)
  (case z_range=>k_is)
  (case z_zip=>k_is)
  (case y_MOST_WARES=>k_is)
  (case y_MOST_WINDOW=>k_is)
  (case y_MOST_MANY=>k_is)
  (case y_MOST_RUNS=>k_is)
